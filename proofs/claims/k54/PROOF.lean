import PyProof.Rows.All
import Wide.All
import OpenK.AllK
import Wide.FinOn
import HandS.ForMost
import HandS.Wide
import HandS.Walk
import PyProof.ReprRoads
import KE.KeyNested
import HandS.Exc
import HandS.ExcField
import HandS.TupAny
import HandS.TupMul
import HandS.SetFor
import KE.GoesNew
import KE.GoesMore
import KE.BitLaws
import HandS.More
import HandS.Conv
import HandS.Text
import HandS.FStr
import HandS.IsInst
import HandS.Deep
import HandS.Strs
import HandS.SortOrd
import HandS.SortRule
import HandS.TupSets
import HandS.Style
import HandS.ExcOwn
import HandS.TryOnly
import HandS.WordsExc
import KE.KExcIs
import PyProof.DictRoadsH
import PyProof.Rows.TupDisplay
import HandS.Dict
import KE.KDictPairs
import KE.DatumOrd
import PyProof.ListRange
import PyProof.TupleOfSeq
import HandS.SortKw
import HandS.SortInts
import HandS.TupLe
import PyProof.Rows.SortKeyStr
import HandS.ExcInit
import KE.KExcSuper
import HandS.ExcValue
import HandS.ExcBuiltin
import PyProof.StrOps2
import PySem.Challenge.RW_fallingfields_k54_errors_of_all_classes
set_option Elab.async false
set_option linter.all false
set_option maxRecDepth 100000
namespace L3
open PySem PySem.Spec L2
/-- an exception: its class by its name, the one field that it has -/
structure Exn where
  cls : Str
  arg : Option (Str × PyData) := none
/-- values of all kinds: dicts (keys ints and texts), objects of a class by its name, their fields -/
inductive Dt where
  | non
  | bl (b : Bool)
  | int (i : Int)
  | str (x : Str)
  | lst (xs : List Dt)
  | tup (xs : List Dt)
  | dic (ks : List Key) (xs : List Dt)
  | obj (c : Str) (fs : List Str) (xs : List Dt)
inductive T where
  | d (x : PyData)
  | mr (i : Nat)
  | lr (i : Nat)
  | scr (ns : List Int)
  | wt (xs : List PyData)
  | exo (a : Addr) (cls : Value) (d : Option Addr) (e : Exn)
  | q (x : Dt)
abbrev T.int (i : Int) : T := .d (.int i)
abbrev T.bl (b : Bool) : T := .d (.bool b)
abbrev T.non : T := .d .none
abbrev T.str (x : Str) : T := .d (.str x)
abbrev T.lst (x : List PyData) : T := .d (.list x)
abbrev T.tup (x : List PyData) : T := .d (.tuple x)
inductive Cell where
  | lst (ts : List T)
  | dct (kvs : List (Key × T))
  | dnk (kvs : List (NestedKey × T))
  | held (u : HO)
  | dnd (kvs : List (PyData × T))
  | exc (f : Str) (e : Exn)
  | ins (c : Str) (fs : List (Str × T))
  | tup (ts : List T)
structure Mem where
  D : List Cell
  L : List (Option (List PyData))
/-- a tuple that is known to have no names of its own -/
def TupC (K : PySem.W.Frag) (G : Hp) (a : Addr) (xs : List V) : Prop := (∃ o : Obj, G a = some (.frz o (.tup xs)) ∧ o.dict = none) ∨
  ∃ o its n, List.lookup a K = some o ∧ o.cls = Value.type "tuple" ∧ o.dict = none ∧ o.data = Data.seq its n ∧ its.size ≤ sizeLine ∧ Vals xs its.toList
theorem TupC.t {K : PySem.W.Frag} {G : Hp} {a : Addr} {xs : List V} : TupC K G a xs → SqT K G a xs
  | .inl ⟨o, e, _⟩ => .inl (.inr ⟨o, e⟩)
  | .inr ⟨o, its, n, h1, h2, _, h3, h4, h5⟩ => .inr ⟨o, its, n, h1, h2, h3, h4, h5⟩
theorem TupC.mono {K : PySem.W.Frag} {G G' : Hp} (g : ∀ a o, G a = some o → G' a = some o) {a : Addr} {xs : List V} : TupC K G a xs → TupC K G' a xs
  | .inl ⟨o, e, h⟩ => .inl ⟨o, g _ _ e, h⟩
  | .inr h => .inr h
mutual
inductive Rp (K : PySem.W.Frag) (G : Hp) : V → PyData → Prop
  | non : Rp K G .non .none
  | bl (b : Bool) : Rp K G (.bl b) (.bool b)
  | int (i : Int) : Rp K G (.int i) (.int i)
  | str (x : Str) : Rp K G (.str x) (.str x)
  | lst {a : Addr} {xs : List V} {ds : List PyData} : G a = some (.lst xs) → RpA K G xs ds → Rp K G (.ref a) (.list ds)
  | tup {a : Addr} {xs : List V} {ds : List PyData} : TupC K G a xs → RpA K G xs ds → Rp K G (.ref a) (.tuple ds)
inductive RpA (K : PySem.W.Frag) (G : Hp) : List V → List PyData → Prop
  | nil : RpA K G [] []
  | cons {v : V} {vs : List V} {d : PyData} {ds : List PyData} : Rp K G v d → RpA K G vs ds → RpA K G (v :: vs) (d :: ds)
end
/-- an exception that was caught: an object of ours at a, its class cls, its dict d -/
def exh (a : Addr) (cls : Value) (d : Option Addr) : HO := .ext fun h => ∃ (oe : Obj) (vs : Array Value), h.get? a = some oe ∧ Zc cls d oe ∧ oe.data = .fields vs
/-- where the class of a name stands -/
def CA (K : PySem.W.Frag) (c : Str) : Option Addr := K.findSome? fun p => match p.2.data with
  | .cls k => if k.name == c then some p.1 else none
  | _ => none
mutual
inductive Rq (K : PySem.W.Frag) (G : Hp) : V → Dt → Prop
  | non : Rq K G .non .non
  | bl (b : Bool) : Rq K G (.bl b) (.bl b)
  | int (i : Int) : Rq K G (.int i) (.int i)
  | str (x : Str) : Rq K G (.str x) (.str x)
  | lst {a : Addr} {xs : List V} {ds : List Dt} : G a = some (.lst xs) → RqA K G xs ds → Rq K G (.ref a) (.lst ds)
  | tup {a : Addr} {xs : List V} {ds : List Dt} : TupC K G a xs → RqA K G xs ds → Rq K G (.ref a) (.tup ds)
  | dic {a : Addr} {kvs : List (Key × V)} {ks : List Key} {vs : List V} {ds : List Dt} : G a = some (.dK kvs) → kvs.map (·.1) = ks → kvs.map (·.2) = vs → RqA K G vs ds → Rq K G (.ref a) (.dic ks ds)
  | obj {a C : Addr} {c : Str} : CA K c = some C → G a = some (exh a (.ref C) none) → Rq K G (.ref a) (.obj c [] [])
  | obj1 {a C dd : Addr} {c f : Str} {v : V} {x : Dt} : CA K c = some C → G a = some (exh a (.ref C) (some dd)) → G dd = some (.xd [(f, v)]) → Rq K G v x → Rq K G (.ref a) (.obj c [f] [x])
  | ins {a C dx : Addr} {c g : Str} {fs : List (Str × V)} {gs : List Str} : CA K c = some C → G a = some (.ins C dx fs) → Rq K G (.ref a) (.obj c (g :: gs) [])
inductive RqA (K : PySem.W.Frag) (G : Hp) : List V → List Dt → Prop
  | nil : RqA K G [] []
  | cons {v : V} {vs : List V} {d : Dt} {ds : List Dt} : Rq K G v d → RqA K G vs ds → RqA K G (v :: vs) (d :: ds)
end
/-- what stands frozen, the deck's addresses, the frame's own -/
structure Bk where
  G : Hp
  r : List Addr
  l : List Addr
/-- what an exception's own dict d holds -/
def ExR (K : PySem.W.Frag) (G : Hp) (d : Option Addr) (e : Exn) : Prop := match e.arg with
  | none => d = none
  | some (f, x) => ∃ dd v, d = some dd ∧ G dd = some (.xd [(f, v)]) ∧ Rp K G v x
mutual
/-- a key that no text is in, not too deep: its hash is the same in each world -/
def okKey : Nat → NestedKey → Bool
  | _, .none => true
  | _, .num _ => true
  | _, .text _ => false
  | 0, .tup _ => false
  | n + 1, .tup ks => okKeys n ks
def okKeys : Nat → List NestedKey → Bool
  | _, [] => true
  | n, k :: ks => okKey n k && okKeys n ks
end
mutual
/-- the key that a tree is: True is the number 1 -/
def nk : PyData → Option NestedKey
  | .none => some .none
  | .bool b => some (.num (if b = true then 1 else 0))
  | .int i => some (.num i)
  | .str x => some (.text x)
  | .tuple ds => (nks ds).map NestedKey.tup
  | _ => none
def nks : List PyData → Option (List NestedKey)
  | [] => some []
  | d :: ds => match nk d, nks ds with
    | some k, some ks => some (k :: ks)
    | _, _ => none
end
/-- a dict at a with the keys, the keys' own addresses, the values of es -/
def DNok (a : Addr) (es : List (NestedKey × Addr × V)) (h : Heap) : Prop := es.length ≤ sizeLine ∧ (a == sysModules) = false ∧ (es.map (·.1)).Nodup ∧
  ∃ (w : World) (xs : List (NestedKey × Addr × Value)), Paired (fun (p : NestedKey × Addr × V) (q : NestedKey × Addr × Value) => p.1 = q.1 ∧ p.2.1 = q.2.1 ∧ RelV p.2.2 q.2.2) es xs ∧
    ∃ o ds ep, h.get? a = some o ∧ o.ExactDict ∧ o.data = .dict ds ep ∧ ds.toList = xs.map fun x => (⟨x.1.hash w, .ref x.2.1, x.2.2⟩ : DictEntry)
def Rt (K : PySem.W.Frag) (B : Bk) : V → T → Prop
  | v, .d x => Rp K B.G v x
  | v, .mr i => ∃ a, v = .ref a ∧ B.r[i]? = some a
  | v, .lr i => ∃ a, v = .ref a ∧ B.l[i]? = some a
  | v, .scr ns => ∃ a, v = .ref a ∧ SqL K B.G a (ns.map V.int)
  | v, .wt ds => ∃ a xs, v = .ref a ∧ SqT K B.G a xs ∧ RpA K B.G xs ds
  | v, .exo a _ d e => v = .ref a ∧ ExR K B.G d e
  | v, .q x => Rq K B.G v x
def CellAt (K : PySem.W.Frag) (B : Bk) (H : Hp) (a : Addr) : Cell → Prop
  | .lst ts => ∃ xs, H a = some (.lst xs) ∧ Paired (Rt K { B with l := [] }) xs ts
  | .dct kvs => ∃ vs, H a = some (.dK vs) ∧ Paired (fun (p : Key × V) (q : Key × T) => p.1 = q.1 ∧ Rt K { B with l := [] } p.2 q.2) vs kvs
  | .held u => H a = some u
  | .ins c fs => ∃ (C dx : Addr) (vs : List (Str × V)), CA K c = some C ∧ H a = some (.ins C dx vs) ∧ Paired (fun (p : Str × V) (q : Str × T) => p.1 = q.1 ∧ Rt K { B with l := [] } p.2 q.2) vs fs
  | .tup ts => ∃ (o : Obj) (xs : List V), H a = some (.frz o (.tup xs)) ∧ o.dict = none ∧ Paired (Rt K { B with l := [] }) xs ts
  | .exc f e => ∃ (C : Addr) (d : Option Addr), H a = some (exh a (.ref C) d) ∧ ExR K B.G d e ∧ XfC K C ∧ PySem.W.findIn K (.ref C) f = some none
  | .dnd kvs => ∃ es, H a = some (.ext (DNok a es)) ∧ Paired (fun (p : NestedKey × Addr × V) (q : PyData × T) => nk q.1 = some p.1 ∧ okKey 8 p.1 = true ∧ Rp K B.G (.ref p.2.1) q.1 ∧ Rt K { B with l := [] } p.2.2 q.2) es kvs
  | .dnk kvs => ∃ es, H a = some (.ext (DNok a es)) ∧ Paired (fun (p : NestedKey × Addr × V) (q : NestedKey × T) => p.1 = q.1 ∧ okKey 8 q.1 = true ∧ Rp K B.G (.ref p.2.1) q.1.data ∧ Rt K { B with l := [] } p.2.2 q.2) es kvs
/-- the world: the heap H holds the memory M by the book B -/
structure Wd (K : PySem.W.Frag) (B : Bk) (M : Mem) (H : Hp) : Prop where
  le : ∀ a o, B.G a = some o → H a = some o
  rlen : B.r.length = M.D.length
  llen : B.l.length = M.L.length
  nd : (B.r ++ B.l).Nodup
  dc : ∀ (i : Nat) (a : Addr) (c : Cell), B.r[i]? = some a → M.D[i]? = some c → B.G a = none ∧ CellAt K B H a c
  lc : ∀ (i : Nat) (a : Addr) (ds : List PyData), B.l[i]? = some a → M.L[i]? = some (some ds) → B.G a = none ∧ ∃ xs, H a = some (.lst xs) ∧ RpA K B.G xs ds
  tr : ∀ a, a ∈ B.r ++ B.l → H a ≠ none
structure Ext (B : Bk) (H : Hp) (B' : Bk) (H' : Hp) : Prop where
  g : ∀ a o, B.G a = some o → B'.G a = some o
  r : B.r <+: B'.r
  l : B.l <+: B'.l
  fr : ∀ a o, H a = some o → a ∉ B.r → a ∉ B.l → H' a = some o
  tr : ∀ a, H' a = none → H a = none
  rn : ∀ a, a ∈ B'.r → a ∈ B.r ∨ H a = none
  ln : ∀ a, a ∈ B'.l → a ∈ B.l ∨ H a = none
  gf : ∀ a o, B'.G a = some o → B.G a = some o ∨ H a = none ∨ a ∈ B.l
theorem Ext.refl (B : Bk) (H : Hp) : Ext B H B H :=
  ⟨fun _ _ e => e, List.prefix_refl _, List.prefix_refl _, fun _ _ e _ _ => e, fun _ e => e, fun _ e => .inl e, fun _ e => .inl e, fun _ _ e => .inl e⟩
theorem Ext.trans {B B1 B2 : Bk} {H H1 H2 : Hp} (x : Ext B H B1 H1) (y : Ext B1 H1 B2 H2) : Ext B H B2 H2 where
  g a o e := y.g a o (x.g a o e)
  r := x.r.trans y.r
  l := x.l.trans y.l
  fr a o e nr nl := by
    refine y.fr a o (x.fr a o e nr nl) (fun z => ?_) (fun z => ?_)
    · rcases x.rn a z with q | q
      · exact nr q
      · rw [e] at q; cases q
    · rcases x.ln a z with q | q
      · exact nl q
      · rw [e] at q; cases q
  tr a e := x.tr a (y.tr a e)
  rn a e := by
    rcases y.rn a e with q | q
    · exact x.rn a q
    · exact .inr (x.tr a q)
  ln a e := by
    rcases y.ln a e with q | q
    · exact x.ln a q
    · exact .inr (x.tr a q)
  gf a o e := by
    rcases y.gf a o e with q | q | q
    · exact x.gf a o q
    · exact .inr (.inl (x.tr a q))
    · rcases x.ln a q with z | z
      · exact .inr (.inr z)
      · exact .inr (.inl z)
mutual
theorem Rp.mono {K : PySem.W.Frag} {G G' : Hp} (g : ∀ a o, G a = some o → G' a = some o) : ∀ {v : V} {x : PyData}, Rp K G v x → Rp K G' v x
  | _, _, .non => .non
  | _, _, .bl b => .bl b
  | _, _, .int i => .int i
  | _, _, .str x => .str x
  | _, _, .lst e q => .lst (g _ _ e) (RpA.mono g q)
  | _, _, .tup e q => .tup (e.mono g) (RpA.mono g q)
theorem RpA.mono {K : PySem.W.Frag} {G G' : Hp} (g : ∀ a o, G a = some o → G' a = some o) : ∀ {v : List V} {x : List PyData}, RpA K G v x → RpA K G' v x
  | _, _, .nil => .nil
  | _, _, .cons p q => .cons (Rp.mono g p) (RpA.mono g q)
end
mutual
theorem Rq.mono {K : PySem.W.Frag} {G G' : Hp} (g : ∀ a o, G a = some o → G' a = some o) : ∀ {v : V} {x : Dt}, Rq K G v x → Rq K G' v x
  | _, _, .non => .non
  | _, _, .bl b => .bl b
  | _, _, .int i => .int i
  | _, _, .str x => .str x
  | _, _, .lst e q => .lst (g _ _ e) (RqA.mono g q)
  | _, _, .tup e q => .tup (e.mono g) (RqA.mono g q)
  | _, _, .dic e k v q => .dic (g _ _ e) k v (RqA.mono g q)
  | _, _, .obj c e => .obj c (g _ _ e)
  | _, _, .obj1 c e e2 q => .obj1 c (g _ _ e) (g _ _ e2) (Rq.mono g q)
  | _, _, .ins c e => .ins c (g _ _ e)
theorem RqA.mono {K : PySem.W.Frag} {G G' : Hp} (g : ∀ a o, G a = some o → G' a = some o) : ∀ {v : List V} {x : List Dt}, RqA K G v x → RqA K G' v x
  | _, _, .nil => .nil
  | _, _, .cons p q => .cons (Rq.mono g p) (RqA.mono g q)
end
theorem SqL.mono {K : PySem.W.Frag} {G G' : Hp} (g : ∀ a o, G a = some o → G' a = some o) {a : Addr} {xs : List V} (e : SqL K G a xs) : SqL K G' a xs := by
  rcases e with e | e
  · rcases e with e | ⟨o, e⟩
    · exact .inl (.inl (g _ _ e))
    · exact .inl (.inr ⟨o, g _ _ e⟩)
  · exact .inr e
theorem SqT.mono0 {K : PySem.W.Frag} {G G' : Hp} (g : ∀ a o, G a = some o → G' a = some o) {a : Addr} {xs : List V} (e : SqT K G a xs) : SqT K G' a xs := by
  rcases e with e | e
  · rcases e with e | ⟨o, e⟩
    · exact .inl (.inl (g _ _ e))
    · exact .inl (.inr ⟨o, g _ _ e⟩)
  · exact .inr e
/-- what a clean tuple is in a greater heap -/
theorem SqT.mono {K : PySem.W.Frag} {G G' : Hp} (g : ∀ a o, G a = some o → G' a = some o) {a : Addr} {xs : List V} (e : TupC K G a xs) : SqT K G' a xs := (e.mono g).t
theorem get_prefix {α : Type} {a b : List α} (p : a <+: b) {i : Nat} {x : α} (e : a[i]? = some x) : b[i]? = some x := by
  obtain ⟨c, rfl⟩ := p
  rw [List.getElem?_append_left (by
    rcases Nat.lt_or_ge i a.length with q | q
    · exact q
    · rw [List.getElem?_eq_none q] at e; cases e)]
  exact e
theorem ExR.mono {K : PySem.W.Frag} {G G' : Hp} (g : ∀ a o, G a = some o → G' a = some o) {d : Option Addr} {e : Exn} (h : ExR K G d e) : ExR K G' d e := by
  unfold ExR at h ⊢
  split at h
  · exact h
  · obtain ⟨dd, v, h1, h2, h3⟩ := h
    exact ⟨dd, v, h1, g _ _ h2, Rp.mono g h3⟩
theorem Rt.mono' {K : PySem.W.Frag} {B B' : Bk} (g : ∀ a o, B.G a = some o → B'.G a = some o) (r : B.r <+: B'.r) (l : B.l <+: B'.l) {v : V} {t : T} (h : Rt K B v t) : Rt K B' v t := by
  cases t with
  | d x => exact Rp.mono g h
  | mr i => obtain ⟨a, e, q⟩ := h; exact ⟨a, e, get_prefix r q⟩
  | lr i => obtain ⟨a, e, q⟩ := h; exact ⟨a, e, get_prefix l q⟩
  | scr ns => obtain ⟨a, e, q⟩ := h; exact ⟨a, e, SqL.mono g q⟩
  | wt xs => obtain ⟨a, vs, e, q, r⟩ := h; exact ⟨a, vs, e, SqT.mono0 g q, RpA.mono g r⟩
  | exo a c d e => exact ⟨h.1, h.2.mono g⟩
  | q x => exact Rq.mono g h
theorem Rt.mono {K : PySem.W.Frag} {B B' : Bk} {H H' : Hp} (x : Ext B H B' H') {v : V} {t : T} (h : Rt K B v t) : Rt K B' v t := Rt.mono' x.g x.r x.l h
theorem Paired.imp {α β : Type} {F F' : α → β → Prop} (f : ∀ a b, F a b → F' a b) : ∀ {l : List α} {m : List β}, Paired F l m → Paired F' l m
  | _, _, .nil => .nil
  | _, _, .cons h q => .cons (f _ _ h) (Paired.imp f q)
theorem Rts.mono {K : PySem.W.Frag} {B B' : Bk} {H H' : Hp} (x : Ext B H B' H') {v : List V} {t : List T} (h : Paired (Rt K B) v t) : Paired (Rt K B') v t := Paired.imp (fun _ _ q => Rt.mono x q) h
abbrev En := List (Option T)
structure Sl (K : PySem.W.Frag) (B : Bk) (σ : St) (τ : En) : Prop where
  len : σ.length = τ.length
  at_ : ∀ (i : Nat) (t : T), τ[i]? = some (some t) → ∃ v, σ[i]? = some (some v) ∧ Rt K B v t
theorem Sl.mono {K : PySem.W.Frag} {B B' : Bk} {H H' : Hp} (x : Ext B H B' H') {σ : St} {τ : En} (s : Sl K B σ τ) : Sl K B' σ τ :=
  ⟨s.len, fun i t e => let ⟨v, h, q⟩ := s.at_ i t e; ⟨v, h, Rt.mono x q⟩⟩
theorem Sl.set {K : PySem.W.Frag} {B : Bk} {σ : St} {τ : En} (s : Sl K B σ τ) (i : Nat) {v : V} {t : T} (q : Rt K B v t) : Sl K B (σ.set i (some v)) (τ.set i (some t)) := by
  refine ⟨by rw [List.length_set, List.length_set, s.len], fun j u e => ?_⟩
  by_cases h : i = j
  · subst h
    rcases Nat.lt_or_ge i τ.length with z | z
    · rw [List.getElem?_set_self z] at e
      cases e
      exact ⟨v, by rw [List.getElem?_set_self (by rw [s.len]; exact z)], q⟩
    · rw [List.getElem?_eq_none (by rw [List.length_set]; exact z)] at e
      cases e
  · rw [List.getElem?_set_ne h] at e
    obtain ⟨w, h1, h2⟩ := s.at_ j u e
    exact ⟨w, by rw [List.getElem?_set_ne h]; exact h1, h2⟩
theorem Sl.clr {K : PySem.W.Frag} {B : Bk} {σ : St} {τ : En} (s : Sl K B σ τ) (i : Nat) : Sl K B (σ.set i none) (τ.set i none) := by
  refine ⟨by rw [List.length_set, List.length_set, s.len], fun j u e => ?_⟩
  by_cases h : i = j
  · subst h
    rcases Nat.lt_or_ge i τ.length with z | z
    · rw [List.getElem?_set_self z] at e
      cases e
    · rw [List.getElem?_eq_none (by rw [List.length_set]; exact z)] at e
      cases e
  · rw [List.getElem?_set_ne h] at e
    obtain ⟨w, h1, h2⟩ := s.at_ j u e
    exact ⟨w, by rw [List.getElem?_set_ne h]; exact h1, h2⟩
def wipeT (τ : En) : List Nat → En
  | [] => τ
  | v :: vs => (wipeT τ vs).set v none
theorem Sl.wipe {K : PySem.W.Frag} {B : Bk} {σ : St} {τ : En} (s : Sl K B σ τ) : ∀ vs : List Nat, Sl K B (L2.wipe σ vs) (wipeT τ vs)
  | [] => s
  | v :: vs => (Sl.wipe s vs).clr v
abbrev Kt := T → Mem → Prop
abbrev Me := En → Mem → Kt → Prop
abbrev Mb := En → Mem → (Bool → Mem → Prop) → Prop
abbrev Ma := En → Mem → (List T → Mem → Prop) → Prop
structure Es where
  nx : En → Mem → Prop
  rt : Kt
  bk : En → Mem → Prop := fun _ _ => False
  ct : En → Mem → Prop := fun _ _ => False
abbrev Ms := Es → En → Mem → Prop
abbrev Mg := T → En → Mem → (En → Mem → Prop) → Prop
def rE (K : PySem.W.Frag) (m : Me) : TE := fun σ H Q' => ∃ τ M B Q, m τ M Q ∧ Wd K B M H ∧ Sl K B σ τ ∧ ∀ v t M' B' H', Q t M' → Wd K B' M' H' → Ext B H B' H' → Rt K B' v t → Q' v H'
def rB (K : PySem.W.Frag) (m : Mb) : TT := fun σ H Q' => ∃ τ M B Q, m τ M Q ∧ Wd K B M H ∧ Sl K B σ τ ∧ ∀ b M' B' H', Q b M' → Wd K B' M' H' → Ext B H B' H' → Q' b H'
def rA (K : PySem.W.Frag) (m : Ma) : TA := fun σ H Q' => ∃ τ M B Q, m τ M Q ∧ Wd K B M H ∧ Sl K B σ τ ∧ ∀ v t M' B' H', Q t M' → Wd K B' M' H' → Ext B H B' H' → Paired (Rt K B') v t → Q' v H'
/-- what is wanted behind a statement, told over trees -/
structure Go (K : PySem.W.Frag) (E : Es) (D : Ends) (B : Bk) (H : Hp) : Prop where
  nx : ∀ τ' M' B' σ' H', E.nx τ' M' → Wd K B' M' H' → Ext B H B' H' → Sl K B' σ' τ' → D.nx σ' H'
  rt : ∀ v t M' B' H', E.rt t M' → Wd K B' M' H' → Ext B H B' H' → Rt K B' v t → D.rt v H'
  bk : ∀ τ' M' B' σ' H', E.bk τ' M' → Wd K B' M' H' → Ext B H B' H' → Sl K B' σ' τ' → D.bk σ' H'
  ct : ∀ τ' M' B' σ' H', E.ct τ' M' → Wd K B' M' H' → Ext B H B' H' → Sl K B' σ' τ' → D.ct σ' H'
theorem Go.ext {K : PySem.W.Frag} {E : Es} {D : Ends} {B B1 : Bk} {H H1 : Hp} (x : Ext B H B1 H1) (g : Go K E D B H) : Go K E D B1 H1 :=
  ⟨fun t m b s h q w e => g.nx t m b s h q w (x.trans e), fun v t m b h q w e => g.rt v t m b h q w (x.trans e), fun t m b s h q w e => g.bk t m b s h q w (x.trans e), fun t m b s h q w e => g.ct t m b s h q w (x.trans e)⟩
def rS (K : PySem.W.Frag) (m : Ms) : TS := fun D σ H => ∃ E : Es, ∃ τ M B, m E τ M ∧ Wd K B M H ∧ Sl K B σ τ ∧ Go K E D B H
/-- alike but for the slots os -/
structure Ag (os : List Nat) (σ σ' : St) : Prop where
  len : σ'.length = σ.length
  at_ : ∀ j : Nat, j ∉ os → σ'[j]? = σ[j]?
theorem Ag.trans {o o' : List Nat} {a b c : St} (x : Ag o a b) (y : Ag o' b c) : Ag (o ++ o') a c :=
  ⟨y.len.trans x.len, fun j n => (y.at_ j fun z => n (List.mem_append_right _ z)).trans (x.at_ j fun z => n (List.mem_append_left _ z))⟩
theorem wipe_at (σ : St) (j : Nat) : ∀ vs : List Nat, (L2.wipe σ vs)[j]? = if j ∈ vs then (if j < σ.length then some none else none) else σ[j]?
  | [] => by simp [L2.wipe]
  | v :: vs => by
    unfold L2.wipe
    by_cases h : v = j
    · subst h
      rw [if_pos (by simp)]
      by_cases q : v < σ.length
      · rw [List.getElem?_set_self (by rw [wipe_length]; exact q), if_pos q]
      · rw [List.getElem?_eq_none (by rw [List.length_set, wipe_length]; omega), if_neg q]
    · rw [List.getElem?_set_ne h, wipe_at σ j vs]
      by_cases q : j ∈ vs
      · rw [if_pos q, if_pos (List.mem_cons_of_mem _ q)]
      · rw [if_neg q, if_neg]
        intro z
        rcases List.mem_cons.mp z with z | z
        · exact h z.symm
        · exact q z
theorem Ag.wipe {os vs : List Nat} {σ σ' : St} (sub : ∀ j ∈ os, j ∈ vs) (x : Ag os (L2.wipe σ vs) σ') : L2.wipe σ' vs = L2.wipe σ vs := by
  apply List.ext_getElem?
  intro j
  have hl : σ'.length = σ.length := x.len.trans (wipe_length σ vs)
  rw [wipe_at, wipe_at, hl]
  by_cases h : j ∈ vs
  · rw [if_pos h, if_pos h]
  · rw [if_neg h, if_neg h, x.at_ j fun z => h (sub j z), wipe_at, if_neg h]
def rG (K : PySem.W.Frag) (os : List Nat) (m : Mg) : TG := fun v σ H Q' => ∃ t τ M B Q, m t τ M Q ∧ Wd K B M H ∧ Sl K B σ τ ∧ Rt K B v t ∧ ∀ τ' M' B' σ' H', Q τ' M' → Wd K B' M' H' → Ext B H B' H' → Sl K B' σ' τ' → Ag os σ σ' → Q' σ' H'
abbrev ME (X : Cx) (e : Expr) (m : Me) : Prop := PE X e (rE X.K m)
abbrev MB (X : Cx) (e : Expr) (m : Mb) : Prop := PT X e (rB X.K m)
abbrev MA (X : Cx) (e : List Expr) (m : Ma) : Prop := PA X e (rA X.K m)
abbrev MS (X : Cx) (e : Stmt) (m : Ms) : Prop := PS X e (rS X.K m)
abbrev MSs (X : Cx) (e : List Stmt) (m : Ms) : Prop := PSs X e (rS X.K m)
abbrev MG (X : Cx) (e : Expr) (os : List Nat) (m : Mg) : Prop := PG X e (rG X.K os m)
theorem PE.of {X : Cx} {e : Expr} {t t' : TE} (h : PE X e t) (w : ∀ σ H Q, t' σ H Q → t σ H Q) : PE X e t' := ⟨fun _ _ _ _ _ iv q => h.run _ _ _ _ _ iv (w _ _ _ q)⟩
theorem PT.of {X : Cx} {e : Expr} {t t' : TT} (h : PT X e t) (w : ∀ σ H Q, t' σ H Q → t σ H Q) : PT X e t' := ⟨fun _ _ _ _ _ iv q => h.run _ _ _ _ _ iv (w _ _ _ q)⟩
theorem PW.of {X : Cx} {e : Expr} {t t' : TT} (h : PW X e t) (w : ∀ σ H Q, t' σ H Q → t σ H Q) : PW X e t' := ⟨fun _ _ _ _ _ _ iv q => h.run _ _ _ _ _ _ iv (w _ _ _ q)⟩
theorem PA.of {X : Cx} {e : List Expr} {t t' : TA} (h : PA X e t) (w : ∀ σ H Q, t' σ H Q → t σ H Q) : PA X e t' := ⟨fun _ _ _ _ _ _ iv q => h.run _ _ _ _ _ _ iv (w _ _ _ q)⟩
theorem PS.of {X : Cx} {e : Stmt} {t t' : TS} (h : PS X e t) (w : ∀ D σ H, t' D σ H → t D σ H) : PS X e t' := ⟨fun _ _ _ _ _ iv q => h.run _ _ _ _ _ iv (w _ _ _ q)⟩
theorem PSs.of {X : Cx} {e : List Stmt} {t t' : TS} (h : PSs X e t) (w : ∀ D σ H, t' D σ H → t D σ H) : PSs X e t' := ⟨fun _ _ _ _ _ iv q => h.run _ _ _ _ _ iv (w _ _ _ q)⟩
theorem PG.of {X : Cx} {e : Expr} {t t' : TG} (h : PG X e t) (w : ∀ v σ H Q, t' v σ H Q → t v σ H Q) : PG X e t' := ⟨fun _ _ _ _ _ _ _ iv rv q => h.run _ _ _ _ _ _ _ iv rv (w _ _ _ _ q)⟩
section
variable {X : Cx} {a b c e : Expr} {es : List Expr} {ma mb mc m : Me} {pos : Pos}
def mVar (i : Nat) : Me := fun τ M Q => ∃ t, τ[i]? = some (some t) ∧ Q t M
def mC (x : PyData) : Me := fun _ M Q => Q (.d x) M
theorem me_var {i : Nat} {x : Str} (h : PE X (.Name x pos) (tVar i)) : ME X (.Name x pos) (mVar i) := PE.of h fun σ H Q' ⟨τ, M, B, Q, ⟨t, ht, q⟩, w, s, k⟩ => by
  obtain ⟨v, hv, r⟩ := s.at_ i t ht
  exact ⟨v, hv, k v t M B H q w (.refl _ _) r⟩
theorem me_const {v : V} {x : PyData} (h : PE X e (tC v)) (hr : ∀ G, Rp X.K G v x) : ME X e (mC x) := PE.of h fun σ H Q' ⟨τ, M, B, Q, q, w, s, k⟩ => k v (.d x) M B H q w (.refl _ _) (hr _)
theorem me_int {i : Int} {j : Nat} : ME X (.Constant (.int i) j pos) (mC (.int i)) := me_const pe_int fun _ => .int i
theorem me_bl {i : Bool} {j : Nat} : ME X (.Constant (.bool i) j pos) (mC (.bool i)) := me_const pe_bl fun _ => .bl i
theorem me_non {j : Nat} : ME X (.Constant .none j pos) (mC .none) := me_const pe_non fun _ => .non
theorem me_str {i : Str} {j : Nat} : ME X (.Constant (.str i) j pos) (mC (.str i)) := me_const pe_str fun _ => .str i
abbrev F2 := T → T → Mem → Kt → Prop
/-- an operation by values is told by f -/
def OpL (K : PySem.W.Frag) (r : R2) (f : F2) : Prop := ∀ x y t u M B H Q Q', f t u M Q → Wd K B M H → Rt K B x t → Rt K B y u →
  (∀ v t' M' B' H', Q t' M' → Wd K B' M' H' → Ext B H B' H' → Rt K B' v t' → Q' v H') → r x y H Q'
def mOp (f : F2) (ma mb : Me) : Me := fun τ M Q => ma τ M fun x M1 => mb τ M1 fun y M2 => f x y M2 Q
theorem two {K : PySem.W.Frag} {r : R2} {f : F2} (ho : OpL K r f) {σ : St} {H : Hp} {Q' : VK} (h : rE K (mOp f ma mb) σ H Q') : tOp r (rE K ma) (rE K mb) σ H Q' := by
  obtain ⟨τ, M, B, Q, h, w, s, k⟩ := h
  refine ⟨τ, M, B, _, h, w, s, fun x t M1 B1 H1 h1 w1 e1 r1 => ⟨τ, M1, B1, _, h1, w1, s.mono e1, fun y u M2 B2 H2 h2 w2 e2 r2 => ?_⟩⟩
  exact ho x y t u M2 B2 H2 Q Q' h2 w2 (Rt.mono e2 r1) r2 fun v t' M' B' H' q w' e' r' => k v t' M' B' H' q w' (e1.trans (e2.trans e')) r'
theorem me_op {op : Operator} {r : R2} {f : F2} (ho : OpR X (binaryOp op) r) (hl : OpL X.K r f) (ha : ME X a ma) (hb : ME X b mb) : ME X (.BinOp a op b pos) (mOp f ma mb) := PE.of (pe_op ho ha hb) fun _ _ _ h => two hl h
theorem me_cmp {op : CmpOp} {r : R2} {f : F2} (ho : OpR X (compareOp op) r) (hl : OpL X.K r f) (ha : ME X a ma) (hb : ME X b mb) (hm : behindInMarks op b = false) : ME X (.Compare a [op] [b] pos) (mOp f ma mb) := PE.of (pe_cmpR ho ha hb hm) fun _ _ _ h => two hl h
/-- a value as a test -/
def mTest (m : Me) : Mb := fun τ M Q => m τ M fun x M1 => ∃ k, x = .d (.bool k) ∧ Q k M1
theorem mb_cmp {op : CmpOp} {r : R2} {f : F2} (ho : OpR X (compareOp op) r) (hl : OpL X.K r f) (ha : ME X a ma) (hb : ME X b mb) (hm : behindInMarks op b = false) : MB X (.Compare a [op] [b] pos) (mTest (mOp f ma mb)) := by
  refine PT.of (pt_cmpR ho ha hb hm) fun σ H Q' ⟨τ, M, B, Q, h, w, s, k⟩ => ?_
  refine two hl ⟨τ, M, B, _, h, w, s, fun v t M' B' H' ⟨k2, e, q⟩ w' e' r' => ?_⟩
  subst e
  cases r'
  exact ⟨k2, rfl, k k2 M' B' H' q w' e'⟩
end
end L3
set_option Elab.async false
set_option linter.all false
set_option maxRecDepth 100000
namespace L3
open PySem PySem.Spec L2
section
variable {K : PySem.W.Frag} {B : Bk} {M : Mem} {H : Hp}
mutual
theorem Rp.dp {G : Hp} : ∀ {v : V} {x : PyData}, Rp K G v x → Dp K G v x
  | _, _, .non => .non
  | _, _, .bl b => .bl b
  | _, _, .int i => .int i
  | _, _, .str x => .str x
  | _, _, .lst e q => .lst (.inl (.inl e)) (RpA.dp q)
  | _, _, .tup e q => .tup e.t (RpA.dp q)
theorem RpA.dp {G : Hp} : ∀ {v : List V} {x : List PyData}, RpA K G v x → DpAll K G v x
  | _, _, .nil => .nil
  | _, _, .cons p q => .cons (Rp.dp p) (RpA.dp q)
end
theorem Wd.rp (w : Wd K B M H) {v : V} {x : PyData} (h : Rp K B.G v x) : Rp K H v x := Rp.mono w.le h
theorem Wd.rpa (w : Wd K B M H) {v : List V} {x : List PyData} (h : RpA K B.G v x) : RpA K H v x := RpA.mono w.le h
theorem RpA.length {G : Hp} : ∀ {v : List V} {x : List PyData}, RpA K G v x → v.length = x.length
  | _, _, .nil => rfl
  | _, _, .cons _ q => by rw [List.length_cons, List.length_cons, RpA.length q]
theorem RpA.append {G : Hp} : ∀ {v w : List V} {x y : List PyData}, RpA K G v x → RpA K G w y → RpA K G (v ++ w) (x ++ y)
  | _, _, _, _, .nil, q => q
  | _, _, _, _, .cons p q, r => .cons p (RpA.append q r)
theorem RpA.get {G : Hp} : ∀ {v : List V} {x : List PyData} {i : Nat} {d : PyData}, RpA K G v x → x[i]? = some d → ∃ u, v[i]? = some u ∧ Rp K G u d
  | _, _, _, _, .nil, e => by simp at e
  | _, _, 0, _, .cons p _, e => by simp at e; subst e; exact ⟨_, rfl, p⟩
  | _, _, i + 1, _, .cons _ q, e => by
    obtain ⟨u, h1, h2⟩ := RpA.get (i := i) q (by simpa using e)
    exact ⟨u, by simpa using h1, h2⟩
theorem RpA.set {G : Hp} {u : V} {d : PyData} (r : Rp K G u d) : ∀ {v : List V} {x : List PyData} (i : Nat), RpA K G v x → RpA K G (v.set i u) (x.set i d)
  | _, _, _, .nil => .nil
  | _, _, 0, .cons _ q => .cons r q
  | _, _, i + 1, .cons p q => .cons p (RpA.set r i q)
theorem RpA.take {G : Hp} : ∀ {v : List V} {x : List PyData} (n : Nat), RpA K G v x → RpA K G (v.take n) (x.take n)
  | _, _, 0, _ => .nil
  | _, _, _ + 1, .nil => .nil
  | _, _, n + 1, .cons p q => .cons p (RpA.take n q)
theorem RpA.drop {G : Hp} : ∀ {v : List V} {x : List PyData} (n : Nat), RpA K G v x → RpA K G (v.drop n) (x.drop n)
  | _, _, 0, r => r
  | _, _, _ + 1, .nil => .nil
  | _, _, n + 1, .cons _ q => RpA.drop n q
theorem RpA.eraseIdx {G : Hp} : ∀ {v : List V} {x : List PyData} (n : Nat), RpA K G v x → RpA K G (v.eraseIdx n) (x.eraseIdx n)
  | _, _, _, .nil => .nil
  | _, _, 0, .cons _ q => q
  | _, _, n + 1, .cons p q => .cons p (RpA.eraseIdx n q)
theorem RpA.dropLast {G : Hp} {v : List V} {x : List PyData} (h : RpA K G v x) : RpA K G v.dropLast x.dropLast := by
  rw [List.dropLast_eq_take, List.dropLast_eq_take, RpA.length h]
  exact RpA.take _ h
theorem RpA.ints {G : Hp} : ∀ {v : List V} {ns : List Int}, RpA K G v (ns.map PyData.int) → v = ns.map V.int
  | _, [], .nil => rfl
  | _, _ :: _, .cons (.int _) q => by rw [RpA.ints q]; rfl
theorem RpA.of_ints {G : Hp} : ∀ ns : List Int, RpA K G (ns.map V.int) (ns.map PyData.int)
  | [] => .nil
  | n :: ns => .cons (.int n) (RpA.of_ints ns)
theorem RpA.rep {G : Hp} {v : List V} {x : List PyData} (h : RpA K G v x) : ∀ n : Nat, RpA K G (List.replicate n v).flatten (List.replicate n x).flatten
  | 0 => .nil
  | n + 1 => by
    rw [List.replicate_succ, List.replicate_succ, List.flatten_cons, List.flatten_cons]
    exact RpA.append h (RpA.rep h n)
/-- values that all are trees -/
def datas : List T → Option (List PyData)
  | [] => some []
  | .d x :: r => (datas r).map (x :: ·)
  | _ :: _ => none
theorem datas_rpa : ∀ {xs : List V} {ts : List T} {ds : List PyData}, Paired (Rt K B) xs ts → datas ts = some ds → RpA K B.G xs ds
  | _, _, _, .nil, e => by
    cases e
    exact .nil
  | _, _, _, .cons (b := t) p q, e => by
    cases t with
    | d x =>
      unfold datas at e
      cases h : datas _ with
      | none => rw [h] at e; cases e
      | some r =>
        rw [h] at e
        cases e
        exact .cons p (datas_rpa q h)
    | mr i => cases e
    | lr i => cases e
    | scr ns => cases e
    | wt xs => cases e
    | exo a c d e' => cases e
    | q x => cases e
theorem Wd.fresh (w : Wd K B M H) {p : Addr} (hp : H p = none) : B.G p = none ∧ p ∉ B.r ∧ p ∉ B.l := by
  refine ⟨?_, fun z => ?_, fun z => ?_⟩
  · cases e : B.G p with
    | none => rfl
    | some o => rw [w.le _ _ e] at hp; cases hp
  · exact w.tr p (List.mem_append_left _ z) hp
  · exact w.tr p (List.mem_append_right _ z) hp
theorem upd_keep {G : Hp} {p : Addr} {o : HO} (h : G p = none) : ∀ a u, G a = some u → upd G p o a = some u := fun a u e => by
  rw [upd_ne (ne_of_none e h)]
  exact e
theorem CellAt.mono {B' : Bk} {H' : Hp} {a : Addr} {c : Cell} (g : ∀ a o, B.G a = some o → B'.G a = some o) (r : B.r <+: B'.r) (e : H' a = H a) (h : CellAt K B H a c) : CellAt K B' H' a c := by
  have f : ∀ v t, Rt K { B with l := [] } v t → Rt K { B' with l := [] } v t := fun v t q => Rt.mono' (B := { B with l := [] }) (B' := { B' with l := [] }) g r (List.prefix_refl _) q
  cases c with
  | lst ts =>
    obtain ⟨xs, h1, h2⟩ := h
    exact ⟨xs, e.trans h1, Paired.imp f h2⟩
  | dct kvs =>
    obtain ⟨xs, h1, h2⟩ := h
    exact ⟨xs, e.trans h1, Paired.imp (fun _ _ q => ⟨q.1, f _ _ q.2⟩) h2⟩
  | dnk kvs =>
    obtain ⟨xs, h1, h2⟩ := h
    exact ⟨xs, e.trans h1, Paired.imp (fun _ _ q => ⟨q.1, q.2.1, Rp.mono g q.2.2.1, f _ _ q.2.2.2⟩) h2⟩
  | held u => exact e.trans h
  | ins c fs =>
    obtain ⟨C, dx, vs, hc, h1, h2⟩ := h
    exact ⟨C, dx, vs, hc, e.trans h1, Paired.imp (fun _ _ q => ⟨q.1, f _ _ q.2⟩) h2⟩
  | tup ts =>
    obtain ⟨o, xs, h1, ho, h2⟩ := h
    exact ⟨o, xs, e.trans h1, ho, Paired.imp f h2⟩
  | exc f2 e2 =>
    obtain ⟨C, d, h1, h2, h3⟩ := h
    exact ⟨C, d, e.trans h1, ExR.mono g h2, h3⟩
  | dnd kvs =>
    obtain ⟨xs, h1, h2⟩ := h
    exact ⟨xs, e.trans h1, Paired.imp (fun _ _ q => ⟨q.1, q.2.1, Rp.mono g q.2.2.1, f _ _ q.2.2.2⟩) h2⟩
theorem mem_of_get {α : Type} {l : List α} {i : Nat} {a : α} (e : l[i]? = some a) : a ∈ l := List.mem_of_getElem? e
/-- a new object that never changes -/
theorem Wd.alloc (w : Wd K B M H) {p : Addr} (hp : H p = none) (o : HO) : Wd K { B with G := upd B.G p o } M (upd H p o) ∧ Ext B H { B with G := upd B.G p o } (upd H p o) := by
  obtain ⟨hG, hr, hl⟩ := w.fresh hp
  have ne : ∀ {a : Addr}, a ∈ B.r ++ B.l → a ≠ p := fun {a} h z => by
    subst z
    exact w.tr _ h hp
  refine ⟨⟨fun a u e => ?_, w.rlen, w.llen, w.nd, fun i a c h1 h2 => ?_, fun i a ds h1 h2 => ?_, fun a ha => ?_⟩, ⟨upd_keep hG, List.prefix_refl _, List.prefix_refl _, fun a u e _ _ => upd_keep hp a u e, fun a e => ?_, fun a e => .inl e, fun a e => .inl e, fun a u e => ?_⟩⟩
  · by_cases z : a = p
    · subst z
      have e' : upd B.G a o a = some u := e
      rw [upd_same] at e' ⊢
      exact e'
    · have e' : upd B.G p o a = some u := e
      rw [upd_ne z] at e' ⊢
      exact w.le a u e'
  · obtain ⟨q1, q2⟩ := w.dc i a c h1 h2
    have na := ne (List.mem_append_left _ (mem_of_get h1))
    exact ⟨(upd_ne na).trans q1, CellAt.mono (upd_keep hG) (List.prefix_refl _) (upd_ne na) q2⟩
  · obtain ⟨q1, xs, q2, q3⟩ := w.lc i a ds h1 h2
    have na := ne (List.mem_append_right _ (mem_of_get h1))
    exact ⟨(upd_ne na).trans q1, xs, (upd_ne na).trans q2, RpA.mono (upd_keep hG) q3⟩
  · rw [upd_ne (ne ha)]
    exact w.tr a ha
  · by_cases z : a = p
    · subst z
      exact hp
    · rw [upd_ne z] at e
      exact e
  · by_cases z : a = p
    · subst z
      exact .inr (.inl hp)
    · have e' : upd B.G p o a = some u := e
      rw [upd_ne z] at e'
      exact .inl e'
theorem nodup_snoc {α : Type} {l : List α} {a : α} (h : l.Nodup) (n : a ∉ l) : (l ++ [a]).Nodup := by
  rw [List.nodup_append]
  refine ⟨h, by simp, fun x hx y hy => ?_⟩
  rw [List.mem_singleton] at hy
  subst hy
  intro z
  subst z
  exact n hx
theorem nodup_get {α : Type} : ∀ {l : List α} {i j : Nat} {a : α}, l.Nodup → l[i]? = some a → l[j]? = some a → i = j
  | [], _, _, _, _, e, _ => by simp at e
  | x :: l, 0, 0, _, _, _, _ => rfl
  | x :: l, 0, j + 1, a, n, e, f => by
    rw [List.getElem?_cons_zero] at e
    cases e
    rw [List.getElem?_cons_succ] at f
    exact absurd (mem_of_get f) (List.nodup_cons.mp n).1
  | x :: l, i + 1, 0, a, n, e, f => by
    rw [List.getElem?_cons_zero] at f
    cases f
    rw [List.getElem?_cons_succ] at e
    exact absurd (mem_of_get e) (List.nodup_cons.mp n).1
  | x :: l, i + 1, j + 1, a, n, e, f => by
    rw [List.getElem?_cons_succ] at e f
    rw [nodup_get (List.nodup_cons.mp n).2 e f]
theorem Wd.rl (w : Wd K B M H) {a : Addr} (h1 : a ∈ B.r) (h2 : a ∈ B.l) : False := (List.nodup_append.mp w.nd).2.2 a h1 a h2 rfl
/-- one of the frame's own lists is written -/
theorem Wd.setL (w : Wd K B M H) {i : Nat} {p : Addr} (hp : B.l[i]? = some p) {ds0 : List PyData} (h0 : M.L[i]? = some (some ds0)) {xs : List V} {ds : List PyData} (h : RpA K B.G xs ds) :
    Wd K B { M with L := M.L.set i (some ds) } (upd H p (.lst xs)) ∧ Ext B H B (upd H p (.lst xs)) := by
  obtain ⟨hG, _⟩ := w.lc i p ds0 hp h0
  have pl := mem_of_get hp
  refine ⟨⟨fun a u e => ?_, w.rlen, by simp [w.llen], w.nd, fun j a c h1 h2 => ?_, fun j a es h1 h2 => ?_, fun a ha => ?_⟩, ⟨fun a u e => e, List.prefix_refl _, List.prefix_refl _, fun a u e _ n => ?_, fun a e => ?_, fun a e => .inl e, fun a e => .inl e, fun a u e => .inl e⟩⟩
  · rw [upd_ne (ne_of_none e hG)]
    exact w.le a u e
  · obtain ⟨q1, q2⟩ := w.dc j a c h1 h2
    have na : a ≠ p := fun z => by
      subst z
      exact w.rl (mem_of_get h1) pl
    exact ⟨q1, CellAt.mono (fun _ _ e => e) (List.prefix_refl _) (upd_ne na) q2⟩
  · by_cases z : i = j
    · subst z
      rw [hp] at h1
      cases h1
      have lt : i < M.L.length := by
        rcases Nat.lt_or_ge i M.L.length with q | q
        · exact q
        · rw [List.getElem?_eq_none q] at h0; cases h0
      have h2' : (M.L.set i (some ds))[i]? = some (some es) := h2
      rw [List.getElem?_set_self lt] at h2'
      cases h2'
      exact ⟨hG, xs, upd_same, h⟩
    · have h2' : (M.L.set i (some ds))[j]? = some (some es) := h2
      rw [List.getElem?_set_ne z] at h2'
      obtain ⟨q1, ys, q2, q3⟩ := w.lc j a es h1 h2'
      refine ⟨q1, ys, (upd_ne fun y => z ?_).trans q2, q3⟩
      subst y
      exact nodup_get (List.nodup_append.mp w.nd).2.1 hp h1
  · by_cases z : a = p
    · subst z
      rw [upd_same]
      exact fun q => nomatch q
    · rw [upd_ne z]
      exact w.tr a ha
  · rw [upd_ne fun z => n (by subst z; exact pl)]
    exact e
  · by_cases z : a = p
    · subst z
      rw [upd_same] at e
      cases e
    · rw [upd_ne z] at e
      exact e
/-- a new object of the deck -/
theorem Wd.newD (w : Wd K B M H) {p : Addr} (hp : H p = none) {o : HO} {c : Cell} (h : ∀ H', H' p = some o → CellAt K { B with r := B.r ++ [p] } H' p c) :
    Wd K { B with r := B.r ++ [p] } { M with D := M.D ++ [c] } (upd H p o) ∧ Ext B H { B with r := B.r ++ [p] } (upd H p o) := by
  obtain ⟨hG, hr, hl⟩ := w.fresh hp
  have ne : ∀ {a : Addr}, a ∈ B.r ++ B.l → a ≠ p := fun {a} ha z => by
    rw [z] at ha
    exact w.tr _ ha hp
  refine ⟨⟨fun a u e => upd_keep hp a u (w.le a u e), by simp [w.rlen], w.llen, ?_, fun i a c' h1 h2 => ?_, fun i a es h1 h2 => ?_, fun a ha => ?_⟩, ⟨fun a u e => e, List.prefix_append _ _, List.prefix_refl _, fun a u e _ _ => upd_keep hp a u e, fun a e => ?_, fun a e => ?_, fun a e => .inl e, fun a u e => .inl e⟩⟩
  · show ((B.r ++ [p]) ++ B.l).Nodup
    rw [List.nodup_append]
    obtain ⟨n1, n2, n3⟩ := List.nodup_append.mp w.nd
    refine ⟨nodup_snoc n1 hr, n2, fun x hx y hy z => ?_⟩
    rcases List.mem_append.mp hx with q | q
    · exact n3 x q y hy z
    · rw [List.mem_singleton] at q
      subst z
      subst q
      exact hl hy
  · have h1' : (B.r ++ [p])[i]? = some a := h1
    have h2' : (M.D ++ [c])[i]? = some c' := h2
    rcases Nat.lt_or_ge i B.r.length with z | z
    · rw [List.getElem?_append_left z] at h1'
      rw [List.getElem?_append_left (by rw [← w.rlen]; exact z)] at h2'
      obtain ⟨q1, q2⟩ := w.dc i a c' h1' h2'
      exact ⟨q1, CellAt.mono (B := B) (B' := { B with r := B.r ++ [p] }) (fun _ _ e => e) (List.prefix_append _ _) (upd_ne (ne (List.mem_append_left _ (mem_of_get h1')))) q2⟩
    · rw [List.getElem?_append_right z] at h1'
      rw [List.getElem?_append_right (by rw [← w.rlen]; exact z), ← w.rlen] at h2'
      cases j : i - B.r.length with
      | succ k => rw [j] at h1'; simp at h1'
      | zero =>
        rw [j] at h1' h2'
        simp only [List.getElem?_cons_zero, Option.some.injEq] at h1' h2'
        subst h1'
        subst h2'
        exact ⟨hG, h _ upd_same⟩
  · obtain ⟨q1, ys, q2, q3⟩ := w.lc i a es h1 h2
    exact ⟨q1, ys, (upd_ne (ne (List.mem_append_right _ (mem_of_get h1)))).trans q2, q3⟩
  · have ha' : a ∈ (B.r ++ [p]) ++ B.l := ha
    rcases List.mem_append.mp ha' with z | z
    · rcases List.mem_append.mp z with z | z
      · rw [upd_ne (ne (List.mem_append_left _ z))]
        exact w.tr a (List.mem_append_left _ z)
      · rw [List.mem_singleton] at z
        subst z
        rw [upd_same]
        exact fun q => nomatch q
    · rw [upd_ne (ne (List.mem_append_right _ z))]
      exact w.tr a (List.mem_append_right _ z)
  · by_cases z : a = p
    · subst z
      exact hp
    · rw [upd_ne z] at e
      exact e
  · rcases List.mem_append.mp e with z | z
    · exact .inl z
    · rw [List.mem_singleton] at z
      subst z
      exact .inr hp
/-- an object of the deck is written -/
theorem Wd.setD (w : Wd K B M H) {i : Nat} {p : Addr} (hp : B.r[i]? = some p) {c0 : Cell} (h0 : M.D[i]? = some c0) {o : HO} {c : Cell} (h : ∀ H', H' p = some o → CellAt K B H' p c) :
    Wd K B { M with D := M.D.set i c } (upd H p o) ∧ Ext B H B (upd H p o) := by
  obtain ⟨hG, _⟩ := w.dc i p c0 hp h0
  have pl := mem_of_get hp
  refine ⟨⟨fun a u e => ?_, by simp [w.rlen], w.llen, w.nd, fun j a c' h1 h2 => ?_, fun j a es h1 h2 => ?_, fun a ha => ?_⟩, ⟨fun a u e => e, List.prefix_refl _, List.prefix_refl _, fun a u e n _ => ?_, fun a e => ?_, fun a e => .inl e, fun a e => .inl e, fun a u e => .inl e⟩⟩
  · rw [upd_ne (ne_of_none e hG)]
    exact w.le a u e
  · by_cases z : i = j
    · subst z
      rw [hp] at h1
      cases h1
      have lt : i < M.D.length := by
        rcases Nat.lt_or_ge i M.D.length with q | q
        · exact q
        · rw [List.getElem?_eq_none q] at h0; cases h0
      have h2' : (M.D.set i c)[i]? = some c' := h2
      rw [List.getElem?_set_self lt] at h2'
      cases h2'
      exact ⟨hG, h _ upd_same⟩
    · have h2' : (M.D.set i c)[j]? = some c' := h2
      rw [List.getElem?_set_ne z] at h2'
      obtain ⟨q1, q2⟩ := w.dc j a c' h1 h2'
      refine ⟨q1, CellAt.mono (fun _ _ e => e) (List.prefix_refl _) (upd_ne fun y => z ?_) q2⟩
      subst y
      exact nodup_get (List.nodup_append.mp w.nd).1 hp h1
  · obtain ⟨q1, ys, q2, q3⟩ := w.lc j a es h1 h2
    refine ⟨q1, ys, (upd_ne fun z => ?_).trans q2, q3⟩
    subst z
    exact w.rl pl (mem_of_get h1)
  · by_cases z : a = p
    · subst z
      rw [upd_same]
      exact fun q => nomatch q
    · rw [upd_ne z]
      exact w.tr a ha
  · rw [upd_ne fun z => n (by subst z; exact pl)]
    exact e
  · by_cases z : a = p
    · subst z
      rw [upd_same] at e
      cases e
    · rw [upd_ne z] at e
      exact e
end
end L3
set_option Elab.async false
set_option linter.all false
set_option maxRecDepth 100000
namespace L3
open PySem PySem.Spec L2 PyProof.Rows
def nuT (us : List Value) : Obj := { cls := .type "tuple", data := .seq us.toArray }
theorem okC {P : Program} {w : World} {H : Hp} {h : Heap} {a : Addr} {us : List Value} {xs : List V} (z : xs.length ≤ sizeLine) (r : Vals xs us) (e : h.get? a = some (nuT us)) : ObjOk P w H h a (.frz (nuT us) (.tup xs)) := by
  unfold L2.ObjOk
  refine ⟨e, ?_⟩
  unfold L2.ObjOk
  exact ⟨z, us, r, _, e, rfl, 0, rfl⟩
section
variable {X : Cx} {es : List Expr} {t : TA} {pos : Pos}
def tTupC (t : TA) : TE := fun σ H Q => t σ H fun xs H1 => xs.length ≤ sizeLine ∧ ∀ (p : Addr) (o : Obj), H1 p = none → o.dict = none → Q (.ref p) (upd H1 p (.frz o (.tup xs)))
theorem pe_tupC {x1 : Nat} (h : PA X es t) : PE X (.Tuple es x1 pos) (tTupC t) := ⟨fun pins s σ H Q I hq => by
  refine wpAny_Tuple_spliced (thn (h.run pos pins s σ H (fun xs H1 => xs.length ≤ sizeLine ∧ ∀ (p : Addr) (o : Obj), H1 p = none → o.dict = none → Q (.ref p) (upd H1 p (.frz o (.tup xs)))) I hq) fun us s1 ⟨xs, H1, I1, r, z, q⟩ => ?_)
  refine ⟨by rw [← r.length]; exact z, ?_⟩
  exact ⟨.ref s1.heap.objs.size, upd H1 s1.heap.objs.size (.frz (nuT us) (.tup xs)), I1.laid (fun b u e => Heap.get?_push_of_some _ e) (Nat.le_refl _) (okC z r (Heap.get?_push_size _ rfl)), rfl, q _ _ (I1.hok.fresh (Nat.le_refl _)) rfl⟩⟩
def rCatC (K : PySem.W.Frag) : R2 := fun x y H Q => ∃ a b xs ys, x = .ref a ∧ y = .ref b ∧ SqT K H a xs ∧ SqT K H b ys ∧ xs.length + ys.length ≤ sizeLine ∧ (xs = [] → Q (.ref b) H) ∧ (xs ≠ [] → ys = [] → Q (.ref a) H) ∧
  (xs ≠ [] → ys ≠ [] → ∀ (p : Addr) (o : Obj), H p = none → o.dict = none → Q (.ref p) (upd H p (.frz o (.tup (xs ++ ys)))))
theorem op_catC : OpR X (binaryOp .Add) (rCatC X.K) := by
  intro pins s σ H x y v u Q I rx ry h
  obtain ⟨a, b, xs, ys, rfl, rfl, ha, hb, hz, q0, q1, q2⟩ := h
  by_cases hx : xs = []
  · exact op_catA pins s σ H (.ref a) (.ref b) v u Q I rx ry ⟨a, b, xs, ys, rfl, rfl, ha, hb, hz, q0, q1, fun z => absurd hx z⟩
  · cases rx
    cases ry
    obtain ⟨us, r1, p1, _⟩ := I.tuple ha
    obtain ⟨vs, r2, p2, _⟩ := I.tuple hb
    refine HT.cat_tup p1 p2 (fun z => hx ?_) (fun z => ?_) (fun z => ?_) (by rw [← r1.length, ← r2.length]; exact hz)
    · subst z
      cases r1
      rfl
    · subst z
      cases r2
      exact ⟨.ref a, H, I, rfl, q1 hx rfl⟩
    · have hy : ys ≠ [] := fun e => by
        subst e
        cases r2
        exact z rfl
      exact ⟨.ref s.heap.objs.size, upd H s.heap.objs.size (.frz (nuT (us ++ vs)) (.tup (xs ++ ys))), I.laid (fun b u e => Heap.get?_push_of_some _ e) (Nat.le_refl _) (okC (by rw [List.length_append]; exact hz) (Vals.append r1 r2) (Heap.get?_push_size _ rfl)), rfl, q2 hx hy _ _ (I.hok.fresh (Nat.le_refl _)) rfl⟩
def rSlC (K : PySem.W.Frag) : V → Option Int → Option Int → Hp → VK → Prop := fun x lo hi H Q => ∃ a xs, x = .ref a ∧ SqT K H a xs ∧ (HT.sIx xs.length 0 lo = 0 ∧ HT.sIx xs.length xs.length hi = xs.length → Q (.ref a) H) ∧
  (¬(HT.sIx xs.length 0 lo = 0 ∧ HT.sIx xs.length xs.length hi = xs.length) → ∀ (p : Addr) (o : Obj), H p = none → o.dict = none → Q (.ref p) (upd H p (.frz o (.tup (cutV xs lo hi)))))
theorem sl_tupC : SlR X (rSlC X.K) := by
  intro pins s σ H x v vl vu lo hi sl Q I rx hs pl pu h
  obtain ⟨a, xs, rfl, ha, q1, q2⟩ := h
  by_cases hw : HT.sIx xs.length 0 lo = 0 ∧ HT.sIx xs.length xs.length hi = xs.length
  · exact sl_tupA pins s σ H (.ref a) v vl vu lo hi sl Q I rx hs pl pu ⟨a, xs, rfl, ha, q1, fun z => absurd hw z⟩
  · cases rx
    obtain ⟨us, r1, p1, hz⟩ := I.tuple ha
    have e : us.toArray.size = xs.length := by rw [r1.length]; simp
    have p2 := p1
    obtain ⟨o, ho, hc, _⟩ := p2
    refine ⟨"tuple", "tuple.__getitem__", slot_tuple_getitem.lookup, ⟨o, ho, hc⟩, HT.getItem_tuple_cut p1 hs pl pu (by rw [e]; exact hw) ?_ (by rw [e]; exact hz)⟩
    rw [e]
    have r3 : Vals (cutV xs lo hi) (List.take (HT.sIx xs.length xs.length hi - HT.sIx xs.length 0 lo) (List.drop (HT.sIx xs.length 0 lo) us)) := Vals.take _ (Vals.drop _ r1)
    exact ⟨.ref s.heap.objs.size, upd H s.heap.objs.size (.frz (nuT _) (.tup (cutV xs lo hi))), I.laid (fun b u e => Heap.get?_push_of_some _ e) (Nat.le_refl _) (okC (by
      unfold cutV
      rw [List.length_take, List.length_drop]
      omega) r3 (Heap.get?_push_size _ rfl)), rfl, q2 hw _ _ (I.hok.fresh (Nat.le_refl _)) rfl⟩
theorem call_tupleC : CallR X (.type "tuple") fun xs H Q => ∃ p ys, xs = [V.ref p] ∧ ((SqL X.K H p ys ∧ ∀ (l : Addr) (o : Obj), H l = none → o.dict = none → Q (.ref l) (upd H l (.frz o (.tup ys)))) ∨ (SqT X.K H p ys ∧ Q (.ref p) H)) := by
  intro pins s σ H xs us Q I r h
  obtain ⟨p, ys, rfl, h⟩ := h
  rcases h with ⟨hl, q⟩ | h
  · rw [Vals.ref1 r]
    obtain ⟨its, rv, pl, hz⟩ := I.list hl
    obtain ⟨o, n, h1, h2⟩ := pl
    refine call_tuple_list (items := its.toArray) ⟨o, h1, h2.1, n, h2.2.2⟩ (fun h' hk => ?_) (by simpa [← rv.length] using hz)
    have I2 := I.kept (t' := s.toks) hk
    exact ⟨.ref h'.objs.size, upd H h'.objs.size (.frz (nuT its) (.tup ys)), I2.laid (fun b u e => Heap.get?_push_of_some _ e) (Nat.le_refl _) (okC hz rv (Heap.get?_push_size _ rfl)), rfl, q _ _ (I2.hok.fresh (Nat.le_refl _)) rfl⟩
  · exact call_tuple_of pins s σ H _ us Q I r ⟨p, ys, rfl, .inr h⟩
end
end L3
set_option Elab.async false
set_option linter.all false
set_option maxRecDepth 100000
namespace L3
open PySem PySem.Spec L2
theorem OpR.or {X : Cx} {f : Value → Value → Sem Value} {r q : R2} (h : OpR X f r) (k : OpR X f q) : OpR X f (fun x y H Q => r x y H Q ∨ q x y H Q) := by
  intro pn sh sg hp a b va vb W iv ra rb z
  exact z.elim (h pn sh sg hp a b va vb W iv ra rb) (k pn sh sg hp a b va vb W iv ra rb)
theorem CallR.or {X : Cx} {f : Value} {r q : List V → Hp → VK → Prop} (h : CallR X f r) (k : CallR X f q) : CallR X f (fun x H Q => r x H Q ∨ q x H Q) := by
  intro pn sh sg hp a va W iv ra z
  exact z.elim (h pn sh sg hp a va W iv ra) (k pn sh sg hp a va W iv ra)
/-- what a value is now, as a tree -/
def now (t : T) (M : Mem) : Option PyData := match t with
  | .d x => some x
  | .lr i => match M.L[i]? with
    | some (some ds) => some (.list ds)
    | _ => none
  | .mr i => match M.D[i]? with
    | some (.lst ts) => (datas ts).map .list
    | _ => none
  | .scr ns => some (.list (ns.map .int))
  | .wt _ => none
  | .exo .. => none
  | .q _ => none
section
variable {K : PySem.W.Frag} {B : Bk} {M : Mem} {H : Hp}
theorem Wd.dpNow (w : Wd K B M H) {v : V} {t : T} {x : PyData} (r : Rt K B v t) (e : now t M = some x) : Dp K H v x := by
  cases t with
  | d y => cases e; exact Rp.dp (w.rp r)
  | lr i =>
    obtain ⟨a, rfl, ha⟩ := r
    unfold now at e
    cases h : M.L[i]? with
    | none => simp [h] at e
    | some o =>
      cases o with
      | none => simp [h] at e
      | some ds =>
        simp only [h] at e
        cases e
        obtain ⟨_, xs, h1, h2⟩ := w.lc i a ds ha h
        exact .lst (.inl (.inl h1)) (RpA.dp (w.rpa h2))
  | mr i =>
    obtain ⟨a, rfl, ha⟩ := r
    unfold now at e
    cases h : M.D[i]? with
    | none => simp [h] at e
    | some o =>
      cases o with
      | dct _ => simp [h] at e
      | dnk _ => simp [h] at e
      | held _ => simp [h] at e
      | exc _ _ => simp [h] at e
      | ins _ _ => simp [h] at e
      | tup _ => simp [h] at e
      | dnd _ => simp [h] at e
      | lst ts =>
        simp only [h] at e
        cases q : datas ts with
        | none => rw [q] at e; cases e
        | some ds =>
          rw [q] at e
          cases e
          obtain ⟨_, xs, h1, h2⟩ := w.dc i a _ ha h
          exact .lst (.inl (.inl h1)) (RpA.dp (w.rpa (datas_rpa (B := { B with l := [] }) h2 q)))
  | scr ns =>
    obtain ⟨a, rfl, ha⟩ := r
    cases e
    refine .lst (SqL.mono w.le ha) ?_
    exact RpA.dp (G := H) (RpA.of_ints ns)
  | wt xs => cases e
  | exo a c d e' => cases e
  | q x => cases e
end
def oI (C : Int → Int → Prop) (g : Int → Int → PyData) : F2 := fun x y M Q => match x, y with
  | .d (.int i), .d (.int j) => C i j ∧ Q (.d (g i j)) M
  | _, _ => False
theorem opl_I {K : PySem.W.Frag} {C : Int → Int → Prop} {gV : Int → Int → V} {g : Int → Int → PyData} (hg : ∀ i j G, Rp K G (gV i j) (g i j)) : OpL K (rI C gV) (oI C g) := by
  intro x y t u M B H Q Q' h w rx ry k
  unfold oI at h
  split at h
  · cases rx
    cases ry
    obtain ⟨c, q⟩ := h
    exact ⟨_, _, rfl, rfl, c, k _ _ M B H q w (.refl _ _) (hg _ _ _)⟩
  · exact h.elim
theorem opl_I0 {K : PySem.W.Frag} {gV : Int → Int → V} {g : Int → Int → PyData} (hg : ∀ i j G, Rp K G (gV i j) (g i j)) : OpL K (rI0 gV) (oI (fun _ _ => True) g) := by
  intro x y t u M B H Q Q' h w rx ry k
  obtain ⟨i, j, e1, e2, _, q⟩ := opl_I (C := fun _ _ => True) hg x y t u M B H Q Q' h w rx ry k
  exact ⟨i, j, e1, e2, q⟩
def oAdd : F2 := fun x y M Q => match x, y with
  | .d (.int i), .d (.int j) => Q (.int (i + j)) M
  | .d (.str a), .d (.str b) => a.length + b.length ≤ sizeLine ∧ Q (.str (a ++ b)) M
  | .d (.list a), .d (.list b) => a.length + b.length ≤ sizeLine ∧ Q (.lst (a ++ b)) M
  | .d (.tuple a), .d (.tuple b) => a.length + b.length ≤ sizeLine ∧ Q (.tup (a ++ b)) M
  | _, _ => False
def rAdd (K : PySem.W.Frag) : R2 := fun x y H Q => rI0 (fun i j => .int (i + j)) x y H Q ∨ ((∃ i j, x = .str i ∧ y = .str j ∧ i.length + j.length ≤ sizeLine ∧ Q (.str (i ++ j)) H) ∨ (rCat x y H Q ∨ rCatC K x y H Q))
theorem opr_add {X : Cx} : OpR X (binaryOp .Add) (rAdd X.K) := op_add.or (op_add_str.or (op_cat.or op_catC))
theorem opl_add {K : PySem.W.Frag} : OpL K (rAdd K) oAdd := by
  intro x y t u M B H Q Q' h w rx ry k
  unfold oAdd at h
  split at h
  · cases rx
    cases ry
    exact .inl ⟨_, _, rfl, rfl, k _ _ M B H h w (.refl _ _) (.int _)⟩
  · cases rx
    cases ry
    exact .inr (.inl ⟨_, _, rfl, rfl, h.1, k _ _ M B H h.2 w (.refl _ _) (.str _)⟩)
  · cases rx with
    | lst e1 q1 =>
      cases ry with
      | lst e2 q2 =>
        refine .inr (.inr (.inl ⟨_, _, _, _, rfl, rfl, w.le _ _ e1, w.le _ _ e2, ?_, fun p hp => ?_⟩))
        · rw [RpA.length q1, RpA.length q2]
          exact h.1
        · obtain ⟨w', x'⟩ := w.alloc hp (.lst (_ ++ _))
          exact k _ _ M _ _ h.2 w' x' (.lst upd_same (RpA.mono x'.g (RpA.append q1 q2)))
  · cases rx with
    | tup e1 q1 =>
      cases ry with
      | tup e2 q2 =>
        obtain ⟨hl, q⟩ := h
        refine .inr (.inr (.inr ⟨_, _, _, _, rfl, rfl, SqT.mono w.le e1, SqT.mono w.le e2, ?_, fun z => ?_, fun _ z => ?_, fun _ z p o hp ho => ?_⟩))
        · rw [RpA.length q1, RpA.length q2]
          exact hl
        · subst z
          cases q1
          exact k _ _ M B H q w (.refl _ _) (.tup e2 q2)
        · subst z
          cases q2
          rw [List.append_nil] at q
          exact k _ _ M B H q w (.refl _ _) (.tup e1 q1)
        · obtain ⟨w', x'⟩ := w.alloc hp (.frz o (.tup (_ ++ _)))
          exact k _ _ M _ _ q w' x' (.tup (.inl ⟨o, upd_same, ho⟩) (RpA.mono x'.g (RpA.append q1 q2)))
  · exact h.elim
def oMul : F2 := fun x y M Q => match x, y with
  | .d (.int i), .d (.int j) => CMul i j ∧ Q (.int (i * j)) M
  | .d (.list a), .d (.int j) => (-(2 ^ 63) ≤ j ∧ j < 2 ^ 63 ∧ a.length * j.toNat ≤ sizeLine) ∧ Q (.lst (List.replicate j.toNat a).flatten) M
  | _, _ => False
def rMul : R2 := fun x y H Q => rI CMul (fun i j => .int (i * j)) x y H Q ∨ rRep x y H Q
theorem opr_mul {X : Cx} : OpR X (binaryOp .Mult) rMul := op_mul.or op_rep
theorem opl_mul {K : PySem.W.Frag} : OpL K rMul oMul := by
  intro x y t u M B H Q Q' h w rx ry k
  unfold oMul at h
  split at h
  · cases rx
    cases ry
    exact .inl ⟨_, _, rfl, rfl, h.1, k _ _ M B H h.2 w (.refl _ _) (.int _)⟩
  · cases rx with
    | lst e1 q1 =>
      cases ry
      obtain ⟨⟨h1, h2, h3⟩, q⟩ := h
      refine .inr ⟨_, _, _, rfl, rfl, w.le _ _ e1, h1, h2, ?_, fun p hp => ?_⟩
      · rw [RpA.length q1]
        exact h3
      · obtain ⟨w', x'⟩ := w.alloc hp (.lst _)
        exact k _ _ M _ _ q w' x' (.lst upd_same (RpA.mono x'.g (RpA.rep q1 _)))
  · exact h.elim
/-- ==, != -/
def oEq (n : Bool) : F2 := fun x y M Q => match x, y with
  | .d (.str a), .d (.str b) => Q (.bl (if n then !decide (a = b) else decide (a = b))) M
  | _, _ => match now x M, now y M with
    | some a, some b => (SeqAt.shaped a = true ∧ SeqAt.shaped b = true) ∧ Q (.bl (if n then !PyData.eqv a b else PyData.eqv a b)) M
    | _, _ => False
def rEqs (K : PySem.W.Frag) : R2 := fun x y H Q => rEq x y H Q ∨ rEqD K x y H Q
def rNes (K : PySem.W.Frag) : R2 := fun x y H Q => rNe x y H Q ∨ rNeD K x y H Q
theorem dec_str {a b : Str} : decide (V.str a = V.str b) = decide (a = b) := by
  by_cases h : a = b
  · rw [h, decide_eq_true rfl, decide_eq_true rfl]
  · rw [decide_eq_false h, decide_eq_false fun z => h (V.str.inj z)]
theorem opl_eq {K : PySem.W.Frag} : OpL K (rEqs K) (oEq false) := by
  intro x y t u M B H Q Q' h w rx ry k
  unfold oEq at h
  split at h
  · cases rx
    cases ry
    exact .inl ⟨rfl, by rw [dec_str]; exact k _ _ M B H h w (.refl _ _) (.bl _)⟩
  · split at h
    · rename_i a b e1 e2
      exact .inr ⟨a, b, w.dpNow rx e1, w.dpNow ry e2, h.1.1, h.1.2, k _ _ M B H h.2 w (.refl _ _) (.bl _)⟩
    · exact h.elim
theorem opl_ne {K : PySem.W.Frag} : OpL K (rNes K) (oEq true) := by
  intro x y t u M B H Q Q' h w rx ry k
  unfold oEq at h
  split at h
  · cases rx
    cases ry
    exact .inl ⟨rfl, by rw [dec_str]; exact k _ _ M B H h w (.refl _ _) (.bl _)⟩
  · split at h
    · rename_i a b e1 e2
      exact .inr ⟨a, b, w.dpNow rx e1, w.dpNow ry e2, h.1.1, h.1.2, k _ _ M B H h.2 w (.refl _ _) (.bl _)⟩
    · exact h.elim
theorem opr_eq {X : Cx} (hu : X.A.units + 64 < cLine) : OpR X (compareOp .Eq) (rEqs X.K) := op_eq.or (op_eqD hu)
theorem opr_ne {X : Cx} (hu : X.A.units + 64 < cLine) : OpR X (compareOp .NotEq) (rNes X.K) := op_ne.or (op_neD hu)
abbrev F1 := T → Mem → Kt → Prop
def mUn (f : F1) (m : Me) : Me := fun τ M Q => m τ M fun x M1 => f x M1 Q
def oNeg : F1 := fun x M Q => match x with
  | .d (.int i) => Q (.int (-i)) M
  | _ => False
section
variable {X : Cx} {a b c e : Expr} {es : List Expr} {ma mb mc m : Me} {pos : Pos}
theorem me_neg (ha : ME X a ma) : ME X (.UnaryOp .USub a pos) (mUn oNeg ma) := PE.of (pe_un un_neg ha) fun σ H Q' ⟨τ, M, B, Q, h, w, s, k⟩ => by
  refine ⟨τ, M, B, _, h, w, s, fun v t M1 B1 H1 h1 w1 e1 r1 => ?_⟩
  unfold oNeg at h1
  split at h1
  · cases r1
    exact ⟨_, rfl, k _ _ M1 B1 H1 h1 w1 e1 (.int _)⟩
  · exact h1.elim
theorem mb_val (h : ME X e m) (he : ∀ whole, isTrue e X.env whole = (do let v ← whole; standAt e.pos; holding [v] (truthy v)) := by intro _; rfl) : MB X e (mTest m) := PT.of (pt_val h he) fun σ H Q' ⟨τ, M, B, Q, h, w, s, k⟩ => by
  refine ⟨τ, M, B, _, h, w, s, fun v t M1 B1 H1 h1 w1 e1 r1 => ?_⟩
  obtain ⟨b, rfl, q⟩ := h1
  cases r1
  exact ⟨b, rfl, k b M1 B1 H1 q w1 e1⟩
abbrev MW (X : Cx) (e : Expr) (m : Mb) : Prop := PW X e (rB X.K m)
def bAnd (t u : Mb) : Mb := fun τ M Q => t τ M fun b M1 => if b = true then u τ M1 Q else Q false M1
def bOr (t u : Mb) : Mb := fun τ M Q => t τ M fun b M1 => if b = true then Q true M1 else u τ M1 Q
def bNot (t : Mb) : Mb := fun τ M Q => t τ M fun b M1 => Q (!b) M1
variable {ta tb tc : Mb}
theorem MW.toB (h : MW X e ta) : MB X e ta := PW.pt h
theorem mw_or1 (h : MB X a ta) : MW X (.BoolOp .Or [a] pos) ta := pw_or1 h
theorem mw_or {rest : List Expr} (h : MB X a ta) (g : MW X (.BoolOp .Or (b :: rest) pos) tb) : MW X (.BoolOp .Or (a :: b :: rest) pos) (bOr ta tb) := PW.of (pw_or h g) fun σ H Q' ⟨τ, M, B, Q, h, w, s, k⟩ => by
  refine ⟨τ, M, B, _, h, w, s, fun v M1 B1 H1 h1 w1 e1 => ?_⟩
  cases v with
  | false => exact ⟨τ, M1, B1, Q, h1, w1, s.mono e1, fun v M2 B2 H2 h2 w2 e2 => k v M2 B2 H2 h2 w2 (e1.trans e2)⟩
  | true => exact k _ M1 B1 H1 h1 w1 e1
theorem mb_not (h : MB X a ta) : MB X (.UnaryOp .Not a pos) (bNot ta) := PT.of (pt_not h) fun σ H Q' ⟨τ, M, B, Q, h, w, s, k⟩ => by
  exact ⟨τ, M, B, _, h, w, s, fun v M1 B1 H1 h1 w1 e1 => k _ M1 B1 H1 h1 w1 e1⟩
/-- and, or, not as values (of bools) -/
def mAnd (x y : Me) : Me := fun τ M Q => x τ M fun t M1 => match t with
  | .d (.bool true) => y τ M1 Q
  | .d (.bool false) => Q (.bl false) M1
  | _ => False
def mOr (x y : Me) : Me := fun τ M Q => x τ M fun t M1 => match t with
  | .d (.bool true) => Q (.bl true) M1
  | .d (.bool false) => y τ M1 Q
  | _ => False
def mNot (x : Me) : Me := fun τ M Q => x τ M fun t M1 => match t with
  | .d (.bool b) => Q (.bl (!b)) M1
  | _ => False
theorem me_one {op : PySem.BoolOp} (h : ME X a ma) : ME X (.BoolOp op [a] pos) ma := pe_one h
theorem me_and {rest : List Expr} (h : ME X a ma) (g : ME X (.BoolOp .And (b :: rest) pos) mb) : ME X (.BoolOp .And (a :: b :: rest) pos) (mAnd ma mb) := PE.of (pe_and h g) fun σ H Q' ⟨τ, M, B, Q, h, w, s, k⟩ => by
  refine ⟨τ, M, B, _, h, w, s, fun v t M1 B1 H1 h1 w1 e1 r1 => ?_⟩
  split at h1
  · cases r1
    exact ⟨true, rfl, ⟨τ, M1, B1, Q, h1, w1, s.mono e1, fun v t M2 B2 H2 h2 w2 e2 => k v t M2 B2 H2 h2 w2 (e1.trans e2)⟩⟩
  · cases r1
    exact ⟨false, rfl, k _ _ M1 B1 H1 h1 w1 e1 (.bl _)⟩
  · exact h1.elim
theorem me_not (h : ME X a ma) : ME X (.UnaryOp .Not a pos) (mNot ma) := PE.of (pe_not h) fun σ H Q' ⟨τ, M, B, Q, h, w, s, k⟩ => by
  refine ⟨τ, M, B, _, h, w, s, fun v t M1 B1 H1 h1 w1 e1 r1 => ?_⟩
  split at h1
  · cases r1
    exact ⟨_, rfl, k _ _ M1 B1 H1 h1 w1 e1 (.bl _)⟩
  · exact h1.elim
def mIte (c : Mb) (x y : Me) : Me := fun τ M Q => c τ M fun b M1 => if b = true then x τ M1 Q else y τ M1 Q
theorem me_ite (hc : MB X c ta) (ha : ME X a ma) (hb : ME X b mb) : ME X (.IfExp c a b pos) (mIte ta ma mb) := PE.of (pe_ifExp hc ha hb) fun σ H Q' ⟨τ, M, B, Q, h, w, s, k⟩ => by
  refine ⟨τ, M, B, _, h, w, s, fun v M1 B1 H1 h1 w1 e1 => ?_⟩
  cases v with
  | true => exact ⟨τ, M1, B1, Q, h1, w1, s.mono e1, fun v t M2 B2 H2 h2 w2 e2 => k v t M2 B2 H2 h2 w2 (e1.trans e2)⟩
  | false => exact ⟨τ, M1, B1, Q, h1, w1, s.mono e1, fun v t M2 B2 H2 h2 w2 e2 => k v t M2 B2 H2 h2 w2 (e1.trans e2)⟩
/-- a op b op' c -/
def mChain (f g : F2) (x y z : Me) : Me := fun τ M Q => x τ M fun a M1 => y τ M1 fun b M2 => f a b M2 fun t M3 => match t with
  | .d (.bool true) => z τ M3 fun c M4 => g b c M4 Q
  | .d (.bool false) => Q (.bl false) M3
  | _ => False
def aNil : Ma := fun _ M Q => Q [] M
def aCons (m : Me) (r : Ma) : Ma := fun τ M Q => m τ M fun x M1 => r τ M1 fun xs M2 => Q (x :: xs) M2
variable {mr : Ma}
theorem ma_nil : MA X [] aNil := PA.of pa_nil fun σ H Q' ⟨τ, M, B, Q, h, w, s, k⟩ => k _ _ M B H h w (.refl _ _) .nil
theorem ma_cons (ha : ME X e m) (hr : MA X es mr) (hs : starEach (e :: es) X.env = (false, eval e X.env) :: starEach es X.env := by rfl) : MA X (e :: es) (aCons m mr) := PA.of (pa_cons ha hr hs) fun σ H Q' ⟨τ, M, B, Q, h, w, s, k⟩ => by
  refine ⟨τ, M, B, _, h, w, s, fun v t M1 B1 H1 h1 w1 e1 r1 => ⟨τ, M1, B1, _, h1, w1, s.mono e1, fun v2 t2 M2 B2 H2 h2 w2 e2 r2 => ?_⟩⟩
  exact k _ _ M2 B2 H2 h2 w2 (e1.trans e2) (.cons (Rt.mono e2 r1) r2)
def mTup (r : Ma) : Me := fun τ M Q => r τ M fun ts M1 => match datas ts with
  | some ds => ds.length ≤ sizeLine ∧ Q (.tup ds) M1
  | none => False
def mLst (r : Ma) : Me := fun τ M Q => r τ M fun ts M1 => match datas ts with
  | some ds => ds.length ≤ sizeLine ∧ Q (.lst ds) M1
  | none => False
/-- a list display that the frame changes itself -/
def mNewL (r : Ma) : Me := fun τ M Q => r τ M fun ts M1 => match datas ts with
  | some ds => ds.length ≤ sizeLine ∧ Q (.lr M1.L.length) { M1 with L := M1.L ++ [some ds] }
  | none => False
theorem me_lst (h : MA X es mr) : ME X (.List es pos) (mLst mr) := PE.of (pe_lst h) fun σ H Q' ⟨τ, M, B, Q, h, w, s, k⟩ => by
  refine ⟨τ, M, B, _, h, w, s, fun v t M1 B1 H1 h1 w1 e1 r1 => ?_⟩
  split at h1
  · rename_i ds hd
    have q := datas_rpa r1 hd
    refine ⟨by rw [RpA.length q]; exact h1.1, fun p hp => ?_⟩
    obtain ⟨w2, e2⟩ := w1.alloc hp (.lst v)
    exact k _ _ M1 _ _ h1.2 w2 (e1.trans e2) (.lst upd_same (RpA.mono e2.g q))
  · exact h1.elim
theorem get_snoc {α : Type} {l : List α} {a : α} : (l ++ [a])[l.length]? = some a := by
  rw [List.getElem?_append_right (Nat.le_refl _), Nat.sub_self]
  rfl
/-- a list that is the frame's own, from a list that never changes again (list(..), [.. for ..]): no -/
def mFrz (m : Me) : Me := fun τ M Q => m τ M fun t M1 => match t with
  | .lr i => (match M1.L[i]? with
    | some (some ds) => Q (.lst ds) { M1 with L := M1.L.set i none }
    | _ => False)
  | t => Q t M1
end
end L3
set_option Elab.async false
set_option linter.all false
set_option maxRecDepth 100000
namespace L3
open PySem PySem.Spec L2
theorem atI_of {α β : Type} {xs : List α} {ys : List β} {i : Int} {y : β} (hl : xs.length = ys.length) (e : atI ys i = some y) : ∃ j, ixN xs.length i = some j ∧ ixN ys.length i = some j ∧ ys[j]? = some y := by
  unfold atI at e
  cases h : ixN ys.length i with
  | none => rw [h] at e; cases e
  | some j =>
    rw [h] at e
    exact ⟨j, by rw [hl]; exact h, rfl, e⟩
theorem RpA.atI {K : PySem.W.Frag} {G : Hp} {xs : List V} {ds : List PyData} {i : Int} {d : PyData} (r : RpA K G xs ds) (e : L2.atI ds i = some d) : ∃ u, L2.atI xs i = some u ∧ Rp K G u d := by
  obtain ⟨j, h1, _, h3⟩ := atI_of (RpA.length r) e
  obtain ⟨u, h4, h5⟩ := RpA.get r h3
  exact ⟨u, by unfold L2.atI; rw [h1]; exact h4, h5⟩
theorem paired_len {α β : Type} {F : α → β → Prop} {l : List α} {m : List β} (h : Paired F l m) : l.length = m.length := by
  induction h with
  | nil => rfl
  | cons _ _ ih => rw [List.length_cons, List.length_cons, ih]
theorem paired_get {α β : Type} {F : α → β → Prop} {l : List α} {m : List β} (h : Paired F l m) : ∀ {i : Nat} {y : β}, m[i]? = some y → ∃ x, l[i]? = some x ∧ F x y := by
  induction h with
  | nil => intro i y e; simp at e
  | cons p _ ih =>
    intro i y e
    cases i with
    | zero => simp at e; subst e; exact ⟨_, rfl, p⟩
    | succ i => exact ih e
def oIx : F2 := fun x y M Q => match x, y with
  | .d (.list xs), .d (.int j) => ∃ t, atI xs j = some t ∧ Q (.d t) M
  | .d (.tuple xs), .d (.int j) => ∃ t, atI xs j = some t ∧ Q (.d t) M
  | .lr i, .d (.int j) => (match M.L[i]? with
    | some (some xs) => ∃ t, atI xs j = some t ∧ Q (.d t) M
    | _ => False)
  | .mr i, .d (.int j) => (match M.D[i]? with
    | some (.lst ts) => ∃ t, atI ts j = some t ∧ Q t M
    | _ => False)
  | _, _ => False
def rIx2 (K : PySem.W.Frag) : R2 := fun x y H Q => rIxL K x y H Q ∨ rIxT K x y H Q
theorem ixr {X : Cx} : IxR X (rIx2 X.K) := ix_list.or ix_tup
section
variable {X : Cx} {a b c e : Expr} {es : List Expr} {ma mb mc m : Me} {pos : Pos} {mr : Ma}
def cutT {α : Type} (xs : List α) (lo hi : Option Int) : List α := (xs.drop (HT.sIx xs.length 0 lo)).take (HT.sIx xs.length xs.length hi - HT.sIx xs.length 0 lo)
theorem RpA.cut {K : PySem.W.Frag} {G : Hp} {xs : List V} {ds : List PyData} {lo hi : Option Int} (r : RpA K G xs ds) : RpA K G (cutV xs lo hi) (cutT ds lo hi) := by
  unfold cutV cutT
  rw [RpA.length r]
  exact RpA.take _ (RpA.drop _ r)
theorem cut_map {α β : Type} (f : α → β) (xs : List α) (lo hi : Option Int) : cutT (xs.map f) lo hi = (cutT xs lo hi).map f := by
  unfold cutT
  rw [List.length_map, List.map_take, List.map_drop]
theorem cutT_all {α : Type} {xs : List α} {lo hi : Option Int} (h : HT.sIx xs.length 0 lo = 0 ∧ HT.sIx xs.length xs.length hi = xs.length) : cutT xs lo hi = xs := by
  unfold cutT
  rw [h.1, h.2, List.drop_zero, Nat.sub_zero, List.take_length]
abbrev Mo := En → Mem → (Option Int → Mem → Prop) → Prop
def rO (K : PySem.W.Frag) (m : Mo) : TO := fun σ H Q' => ∃ τ M B Q, m τ M Q ∧ Wd K B M H ∧ Sl K B σ τ ∧ ∀ b M' B' H', Q b M' → Wd K B' M' H' → Ext B H B' H' → Q' b H'
theorem PO.of {e : Option Expr} {t t' : TO} (h : PO X e t) (w : ∀ σ H Q, t' σ H Q → t σ H Q) : PO X e t' := ⟨fun _ _ _ _ _ iv q => h.run _ _ _ _ _ iv (w _ _ _ q)⟩
def oNone : Mo := fun _ M Q => Q none M
def oPart (m : Me) : Mo := fun τ M Q => m τ M fun t M1 => match t with
  | .d (.int i) => Q (some i) M1
  | _ => False
theorem mo_none : PO X none (rO X.K oNone) := PO.of po_none fun σ H Q' ⟨τ, M, B, Q, h, w, s, k⟩ => k _ M B H h w (.refl _ _)
theorem mo_some (h : ME X e m) : PO X (some e) (rO X.K (oPart m)) := PO.of (po_some h) fun σ H Q' ⟨τ, M, B, Q, h, w, s, k⟩ => by
  refine ⟨τ, M, B, _, h, w, s, fun v t M1 B1 H1 h1 w1 e1 r1 => ?_⟩
  split at h1
  · cases r1
    exact ⟨_, rfl, k _ M1 B1 H1 h1 w1 e1⟩
  · exact h1.elim
def oSl (x : T) (lo hi : Option Int) (M : Mem) (Q : Kt) : Prop := match x with
  | .d (.list xs) => Q (.lst (cutT xs lo hi)) M
  | .d (.tuple xs) => Q (.tup (cutT xs lo hi)) M
  | .scr ns => Q (.lst ((cutT ns lo hi).map .int)) M
  | .lr i => (match M.L[i]? with
    | some (some xs) => Q (.lst (cutT xs lo hi)) M
    | _ => False)
  | _ => False
def mSl (m : Me) (lo hi : Mo) : Me := fun τ M Q => m τ M fun x M1 => lo τ M1 fun l M2 => hi τ M2 fun u M3 => oSl x l u M3 Q
theorem me_slice {lo hi : Option Expr} {ml mh : Mo} {p2 : Pos} (he : ME X e m) (hl : PO X lo (rO X.K ml)) (hu : PO X hi (rO X.K mh)) : ME X (.Subscript e (.Slice lo hi none p2) pos) (mSl m ml mh) := by
  refine PE.of (pe_slice (sl_list.or sl_tupC) he hl hu) fun σ H Q' ⟨τ, M, B, Q, h, w, s, k⟩ => ?_
  refine ⟨τ, M, B, _, h, w, s, fun v t M1 B1 H1 h1 w1 e1 r1 => ⟨τ, M1, B1, _, h1, w1, s.mono e1, fun l M2 B2 H2 h2 w2 e2 => ⟨τ, M2, B2, _, h2, w2, (s.mono e1).mono e2, fun u M3 B3 H3 h3 w3 e3 => ?_⟩⟩⟩
  have e123 := e1.trans (e2.trans e3)
  have r3 := Rt.mono e3 (Rt.mono e2 r1)
  unfold oSl at h3
  split at h3
  · cases r3 with
    | lst e q =>
      refine .inl ⟨_, _, rfl, .of (w3.le _ _ e), fun p hp => ?_⟩
      obtain ⟨w4, e4⟩ := w3.alloc hp (.lst _)
      exact k _ _ M3 _ _ h3 w4 (e123.trans e4) (.lst upd_same (RpA.mono e4.g (RpA.cut q)))
  · cases r3 with
    | tup e q =>
      refine .inr ⟨_, _, rfl, SqT.mono w3.le e, fun z => ?_, fun _ p o hp ho => ?_⟩
      · have z' := z
        rw [RpA.length q] at z'
        rw [cutT_all z'] at h3
        exact k _ _ M3 B3 H3 h3 w3 e123 (.tup e q)
      · obtain ⟨w4, e4⟩ := w3.alloc hp (.frz o (.tup _))
        exact k _ _ M3 _ _ h3 w4 (e123.trans e4) (.tup (.inl ⟨o, upd_same, ho⟩) (RpA.mono e4.g (RpA.cut q)))
  · obtain ⟨a, rfl, e⟩ := r3
    refine .inl ⟨_, _, rfl, SqL.mono w3.le e, fun p hp => ?_⟩
    obtain ⟨w4, e4⟩ := w3.alloc hp (.lst _)
    refine k _ _ M3 _ _ h3 w4 (e123.trans e4) (.lst upd_same ?_)
    rw [← cut_map]
    exact RpA.cut (RpA.of_ints _)
  · split at h3
    · rename_i hL
      obtain ⟨a, rfl, ha⟩ := r3
      obtain ⟨_, vs, e, q⟩ := w3.lc _ _ _ ha hL
      refine .inl ⟨_, _, rfl, .of e, fun p hp => ?_⟩
      obtain ⟨w4, e4⟩ := w3.alloc hp (.lst _)
      exact k _ _ M3 _ _ h3 w4 (e123.trans e4) (.lst upd_same (RpA.mono e4.g (RpA.cut q)))
    · exact h3.elim
  · exact h3.elim
abbrev FA := List T → Mem → Kt → Prop
def CaL (K : PySem.W.Frag) (r : List V → Hp → VK → Prop) (f : FA) : Prop := ∀ xs ts M B H Q Q', f ts M Q → Wd K B M H → Paired (Rt K B) xs ts →
  (∀ v t' M' B' H', Q t' M' → Wd K B' M' H' → Ext B H B' H' → Rt K B' v t' → Q' v H') → r xs H Q'
def mCall (f : FA) (r : Ma) : Me := fun τ M Q => r τ M fun ts M1 => f ts M1 Q
theorem call_of {K : PySem.W.Frag} {r : List V → Hp → VK → Prop} {f : FA} (hl : CaL K r f) {σ : L2.St} {H : Hp} {Q' : VK} (h : rE K (mCall f mr) σ H Q') : tCB r (rA K mr) σ H Q' := by
  obtain ⟨τ, M, B, Q, h, w, s, k⟩ := h
  exact ⟨τ, M, B, _, h, w, s, fun v t M1 B1 H1 h1 w1 e1 r1 => hl v t M1 B1 H1 Q Q' h1 w1 r1 fun v t M2 B2 H2 h2 w2 e2 => k v t M2 B2 H2 h2 w2 (e1.trans e2)⟩
theorem me_callB {x : Str} {p : Pos} {id : String} {r : List V → Hp → VK → Prop} {f : FA} (hc : CallR X (.builtin id) r) (hl : CaL X.K r f) (hg : Gl X x) (hm : X.mg x = none) (hv : bootBuiltins x = some (.builtin id)) (ha : MA X (e :: es) mr) (hn : x ≠ "__name__" := by decide) (hdb : (x == ("__debug__" : Str)) = false := by decide)
    (he : starEach (e :: es) X.env = (false, eval e X.env) :: starEach es X.env := by rfl) (hpl : (backTo pos (starEach es X.env)).any (·.1) = false := by rfl) : ME X (.Call (.Name x p) (e :: es) [] pos) (mCall f mr) := PE.of (pe_callB hc hg hm hv ha hn hdb he hpl) fun _ _ _ h => call_of hl h
theorem me_callTy {x : Str} {p : Pos} {id : String} {r : List V → Hp → VK → Prop} {f : FA} (hc : CallR X (.type id) r) (hl : CaL X.K r f) (hg : Gl X x) (hm : X.mg x = none) (hv : bootBuiltins x = some (.type id)) (ha : MA X (e :: es) mr) (hn : x ≠ "__name__" := by decide) (hdb : (x == ("__debug__" : Str)) = false := by decide)
    (he : starEach (e :: es) X.env = (false, eval e X.env) :: starEach es X.env := by rfl) (hpl : (backTo pos (starEach es X.env)).any (·.1) = false := by rfl) : ME X (.Call (.Name x p) (e :: es) [] pos) (mCall f mr) := PE.of (pe_callTy hc hg hm hv ha hn hdb he hpl) fun _ _ _ h => call_of hl h
end
section
variable {K : PySem.W.Frag}
theorem paired_one {F : V → T → Prop} {xs : List V} {t : T} (h : Paired F xs [t]) : ∃ v, xs = [v] ∧ F v t := by
  cases h with
  | cons p q =>
    cases q
    exact ⟨_, rfl, p⟩
theorem paired_two {F : V → T → Prop} {xs : List V} {t u : T} (h : Paired F xs [t, u]) : ∃ v w, xs = [v, w] ∧ F v t ∧ F w u := by
  cases h with
  | cons p q =>
    obtain ⟨w, rfl, r⟩ := paired_one q
    exact ⟨_, _, rfl, p, r⟩
theorem now_flat {t : T} {M : Mem} {x : PyData} (e : now t M = some x) : t = .d x ∨ ∃ xs, x = .list xs := by
  cases t with
  | d y => cases e; exact .inl rfl
  | lr i =>
    have e' : (match M.L[i]? with | some (some ds) => some (PyData.list ds) | _ => none) = some x := e
    split at e'
    · cases e'; exact .inr ⟨_, rfl⟩
    · cases e'
  | mr i =>
    have e' : (match M.D[i]? with | some (.lst ts) => (datas ts).map PyData.list | _ => none) = some x := e
    split at e'
    · rename_i ts _
      cases q : datas ts with
      | none => rw [q] at e'; cases e'
      | some ds => rw [q] at e'; cases e'; exact .inr ⟨_, rfl⟩
    · cases e'
  | scr ns => cases e; exact .inr ⟨_, rfl⟩
  | wt xs => cases e
  | exo a c d e' => cases e
  | q x => cases e
/-- the list or the tuple that a value is now -/
theorem Wd.seq {B : Bk} {M : Mem} {H : Hp} (w : Wd K B M H) {v : V} {t : T} (r : Rt K B v t) :
    (∀ xs, now t M = some (.list xs) → ∃ p ys, v = .ref p ∧ SqL K H p ys ∧ RpA K B.G ys xs) ∧ (∀ xs, now t M = some (.tuple xs) → ∃ p ys, v = .ref p ∧ SqT K H p ys ∧ RpA K B.G ys xs) := by
  refine ⟨fun xs e => ?_, fun xs e => ?_⟩
  · cases t with
    | d y =>
      cases e
      cases r with
      | lst e q => exact ⟨_, _, rfl, .of (w.le _ _ e), q⟩
    | lr i =>
      obtain ⟨a, rfl, ha⟩ := r
      unfold now at e
      cases h : M.L[i]? with
      | none => simp [h] at e
      | some o =>
        cases o with
        | none => simp [h] at e
        | some ds =>
          simp only [h] at e
          cases e
          obtain ⟨_, vs, h1, h2⟩ := w.lc i a _ ha h
          exact ⟨_, _, rfl, .of h1, h2⟩
    | mr i =>
      obtain ⟨a, rfl, ha⟩ := r
      unfold now at e
      cases h : M.D[i]? with
      | none => simp [h] at e
      | some o =>
        cases o with
        | dct _ => simp [h] at e
        | dnk _ => simp [h] at e
        | held _ => simp [h] at e
        | exc _ _ => simp [h] at e
        | ins _ _ => simp [h] at e
        | tup _ => simp [h] at e
        | dnd _ => simp [h] at e
        | lst ts =>
          simp only [h] at e
          cases q : datas ts with
          | none => rw [q] at e; cases e
          | some ds =>
            rw [q] at e
            cases e
            obtain ⟨_, vs, h1, h2⟩ := w.dc i a _ ha h
            exact ⟨_, _, rfl, .of h1, datas_rpa (B := { B with l := [] }) h2 q⟩
    | scr ns =>
      obtain ⟨a, rfl, ha⟩ := r
      cases e
      exact ⟨_, _, rfl, SqL.mono w.le ha, RpA.of_ints ns⟩
    | wt xs => cases e
    | exo a c d e' => cases e
    | q x => cases e
  · rcases now_flat e with z | ⟨ys, z⟩
    · subst z
      cases r with
      | tup e q => exact ⟨_, _, rfl, SqT.mono w.le e, q⟩
    · cases z
/-- len -/
def fLen : FA := fun ts M Q => match ts with
  | [t] => (match now t M with
    | some (.list xs) => Q (.int xs.length) M
    | some (.tuple xs) => Q (.int xs.length) M
    | some (.str z) => z.length ≤ sizeLine ∧ Q (.int z.length) M
    | _ => False)
  | _ => False
def rLen (K : PySem.W.Frag) : List V → Hp → VK → Prop := fun xs H Q => (∃ p ys, xs = [.ref p] ∧ (SqL K H p ys ∨ SqT K H p ys) ∧ Q (.int ys.length) H) ∨ (∃ z, xs = [.str z] ∧ z.length ≤ sizeLine ∧ Q (.int z.length) H)
theorem cr_len {X : Cx} : CallR X (.builtin "len") (rLen X.K) := call_len_seq.or call_len_str
theorem cal_len : CaL K (rLen K) fLen := by
  intro xs ts M B H Q Q' h w r k
  unfold fLen at h
  split at h
  · obtain ⟨v, rfl, r1⟩ := paired_one r
    split at h
    · rename_i e
      obtain ⟨p, ys, rfl, h1, h2⟩ := (w.seq r1).1 _ e
      refine .inl ⟨p, ys, rfl, .inl h1, ?_⟩
      rw [RpA.length h2]
      exact k _ _ M B H h w (.refl _ _) (.int _)
    · rename_i e
      obtain ⟨p, ys, rfl, h1, h2⟩ := (w.seq r1).2 _ e
      refine .inl ⟨p, ys, rfl, .inr h1, ?_⟩
      rw [RpA.length h2]
      exact k _ _ M B H h w (.refl _ _) (.int _)
    · rename_i z e
      rcases now_flat e with y | ⟨ys, y⟩
      · subst y
        cases r1
        exact .inr ⟨_, rfl, h.1, k _ _ M B H h.2 w (.refl _ _) (.int _)⟩
      · cases y
    · exact h.elim
  · exact h.elim
/-- tuple(..) -/
def fTuple : FA := fun ts M Q => match ts with
  | [t] => (match now t M with
    | some (.list xs) => Q (.tup xs) M
    | some (.tuple xs) => Q (.tup xs) M
    | _ => False)
  | _ => False
def rTuple (K : PySem.W.Frag) : List V → Hp → VK → Prop := fun xs H Q => ∃ p ys, xs = [.ref p] ∧ ((SqL K H p ys ∧ ∀ (l : Addr) (o : Obj), H l = none → o.dict = none → Q (.ref l) (upd H l (.frz o (.tup ys)))) ∨ (SqT K H p ys ∧ Q (.ref p) H))
/-- all ints -/
def intsOf : List PyData → Option (List Int)
  | [] => some []
  | .int i :: r => (intsOf r).map (i :: ·)
  | _ :: _ => none
/-- the ints of a list now -/
def nowI (t : T) (M : Mem) : Option (List Int) := match now t M with
  | some (.list xs) => intsOf xs
  | _ => none
def fMax : FA := fun ts M Q => match ts with
  | [.d (.int i), .d (.int j)] => Q (.int (if j > i then j else i)) M
  | [t] => (match nowI t M with
    | some ns => 0 < ns.length ∧ ∀ m, m ∈ ns → (∀ y, y ∈ ns → y ≤ m) → Q (.int m) M
    | none => False)
  | _ => False
def fMin : FA := fun ts M Q => match ts with
  | [.d (.int i), .d (.int j)] => Q (.int (if j < i then j else i)) M
  | [t] => (match nowI t M with
    | some ns => 0 < ns.length ∧ ∀ m, m ∈ ns → (∀ y, y ∈ ns → m ≤ y) → Q (.int m) M
    | none => False)
  | _ => False
def fInt : FA := fun ts M Q => match ts with
  | [.d (.int i)] => Q (.int i) M
  | [.d (.bool b)] => Q (.int (if b then 1 else 0)) M
  | _ => False
theorem cal_int : CaL K (fun xs H Q => (∃ i, xs = [V.int i] ∧ Q (.int i) H) ∨ ∃ k, xs = [V.bl k] ∧ Q (.int (if k then 1 else 0)) H) fInt := by
  intro xs ts M B H Q Q' h w r k
  unfold fInt at h
  split at h
  · obtain ⟨v, rfl, r1⟩ := paired_one r
    cases r1
    exact .inl ⟨_, rfl, k _ _ M B H h w (.refl _ _) (.int _)⟩
  · obtain ⟨v, rfl, r1⟩ := paired_one r
    cases r1
    exact .inr ⟨_, rfl, k _ _ M B H h w (.refl _ _) (.int _)⟩
  · exact h.elim
def fAbs : FA := fun ts M Q => match ts with
  | [.d (.int i)] => Q (.int (if i < 0 then -i else i)) M
  | _ => False
theorem cal_abs : CaL K (fun xs H Q => ∃ i, xs = [V.int i] ∧ Q (.int (if i < 0 then -i else i)) H) fAbs := by
  intro xs ts M B H Q Q' h w r k
  unfold fAbs at h
  split at h
  · obtain ⟨v, rfl, r1⟩ := paired_one r
    cases r1
    exact ⟨_, rfl, k _ _ M B H h w (.refl _ _) (.int _)⟩
  · exact h.elim
end
end L3
set_option Elab.async false
set_option linter.all false
set_option maxRecDepth 100000
namespace L3
open PySem PySem.Spec L2
def noL : T → Bool
  | .lr _ => false
  | _ => true
def isL (t : T) (M : Mem) : Prop := match t with
  | .lr i => ∃ ds, M.L[i]? = some (some ds)
  | .mr i => ∃ ts, M.D[i]? = some (.lst ts)
  | .d (.list _) => True
  | _ => False
theorem Rt.deck {K : PySem.W.Frag} {B : Bk} {v : V} {t : T} (n : noL t = true) (r : Rt K B v t) : Rt K { B with l := [] } v t := by
  cases t with
  | lr i => cases n
  | d x => exact r
  | mr i => exact r
  | scr ns => exact r
  | wt xs => exact r
  | exo a c d e => exact r
  | q x => exact r
theorem Rt.undeck {K : PySem.W.Frag} {B : Bk} {v : V} {t : T} (r : Rt K { B with l := [] } v t) : Rt K B v t := Rt.mono' (B := { B with l := [] }) (B' := B) (fun _ _ e => e) (List.prefix_refl _) (List.nil_prefix) r
theorem Wd.isL {K : PySem.W.Frag} {B : Bk} {M : Mem} {H : Hp} (w : Wd K B M H) {v : V} {t : T} (r : Rt K B v t) (h : L3.isL t M) : ∃ p xs, v = .ref p ∧ SqL K H p xs := by
  unfold L3.isL at h
  split at h
  · obtain ⟨ds, e⟩ := h
    obtain ⟨a, rfl, ha⟩ := r
    obtain ⟨_, xs, h1, _⟩ := w.lc _ _ _ ha e
    exact ⟨a, xs, rfl, .of h1⟩
  · obtain ⟨ts, e⟩ := h
    obtain ⟨a, rfl, ha⟩ := r
    obtain ⟨_, xs, h1, _⟩ := w.dc _ _ _ ha e
    exact ⟨a, xs, rfl, .of h1⟩
  · cases r with
    | lst e q => exact ⟨_, _, rfl, .of (w.le _ _ e)⟩
  · exact h.elim
def MeL (K : PySem.W.Frag) (r : V → List V → Hp → VK → Prop) (f : T → FA) : Prop := ∀ x xs t ts M B H Q Q', f t ts M Q → Wd K B M H → Rt K B x t → Paired (Rt K B) xs ts →
  (∀ v t' M' B' H', Q t' M' → Wd K B' M' H' → Ext B H B' H' → Rt K B' v t' → Q' v H') → r x xs H Q'
def mMeth (f : T → FA) (o : Me) (r : Ma) : Me := fun τ M Q => o τ M fun x M1 => isL x M1 ∧ r τ M1 fun ts M2 => f x ts M2 Q
def mMeth0 (f : T → FA) (o : Me) : Me := fun τ M Q => o τ M fun x M1 => isL x M1 ∧ f x [] M1 Q
section
variable {X : Cx} {o e : Expr} {es : List Expr} {mo m : Me} {mr : Ma} {name : Str} {id : String} {apos cpos : Pos} {r : V → List V → Hp → VK → Prop} {f : T → FA}
theorem me_lm (pa : PlainAttrs "list") (slot : Slot "list" name id) (hty : typeOf (.builtin id) = pure (.type "method_descriptor")) (hm : MtR X id r) (hl : MeL X.K r f) (ho : ME X o mo) (ha : MA X (e :: es) mr)
    (hbase : attributeBase o name X.env (eval o X.env) = eval o X.env := by rfl)
    (hfew : ((backTo cpos (starEach (e :: es) X.env)).all (fun x => !x.1) && (backToKw cpos (keywordEach [] X.env)).all (fun x => x.1.isSome) && decide ((e :: es).length + ([] : List Keyword).length + (if ([] : List Keyword).isEmpty then 0 else 1) < 30)) = true := by rfl)
    (hline : (apos.endLine == cpos.line) = true := by rfl) (hs : starEach (e :: es) X.env = (false, eval e X.env) :: starEach es X.env := by rfl) (hplain : (backTo cpos (starEach es X.env)).any (·.1) = false := by rfl) :
    ME X (.Call (.Attribute o name apos) (e :: es) [] cpos) (mMeth f mo mr) := by
  refine PE.of (pe_bm pa slot hty hm ho ha hbase hfew hline hs hplain) fun σ H Q' ⟨τ, M, B, Q, h, w, s, k⟩ => ?_
  refine ⟨τ, M, B, _, h, w, s, fun v t M1 B1 H1 h1 w1 e1 r1 => ?_⟩
  obtain ⟨p, xs, rfl, hq⟩ := w1.isL r1 h1.1
  refine ⟨.inl ⟨rfl, xs, hq⟩, τ, M1, B1, _, h1.2, w1, s.mono e1, fun vs ts M2 B2 H2 h2 w2 e2 r2 => ?_⟩
  exact hl _ vs t ts M2 B2 H2 Q Q' h2 w2 (Rt.mono e2 r1) r2 fun v t M3 B3 H3 h3 w3 e3 => k v t M3 B3 H3 h3 w3 (e1.trans (e2.trans e3))
theorem me_lm0 (pa : PlainAttrs "list") (slot : Slot "list" name id) (hty : typeOf (.builtin id) = pure (.type "method_descriptor")) (hm : MtR X id r) (hl : MeL X.K r f) (ho : ME X o mo)
    (hbase : attributeBase o name X.env (eval o X.env) = eval o X.env := by rfl) (hline : (apos.endLine == cpos.line) = true := by rfl) :
    ME X (.Call (.Attribute o name apos) [] [] cpos) (mMeth0 f mo) := by
  refine PE.of (pe_bm0 pa slot hty hm ho hbase hline) fun σ H Q' ⟨τ, M, B, Q, h, w, s, k⟩ => ?_
  refine ⟨τ, M, B, _, h, w, s, fun v t M1 B1 H1 h1 w1 e1 r1 => ?_⟩
  obtain ⟨p, xs, rfl, hq⟩ := w1.isL r1 h1.1
  refine ⟨.inl ⟨rfl, xs, hq⟩, ?_⟩
  exact hl _ [] t [] M1 B1 H1 Q Q' h1.2 w1 r1 .nil fun v t M3 B3 H3 h3 w3 e3 => k v t M3 B3 H3 h3 w3 (e1.trans e3)
end
def fApp (x : T) : FA := fun ts M Q => match x, ts with
  | .lr i, [.d z] => (match M.L[i]? with
    | some (some ds) => ds.length < sizeLine ∧ Q .non { M with L := M.L.set i (some (ds ++ [z])) }
    | _ => False)
  | .mr i, [t] => (match M.D[i]? with
    | some (.lst us) => noL t = true ∧ us.length < sizeLine ∧ Q .non { M with D := M.D.set i (.lst (us ++ [t])) }
    | _ => False)
  | _, _ => False
theorem paired_snoc {F : V → T → Prop} {xs : List V} {ts : List T} (h : Paired F xs ts) {x : V} {t : T} (q : F x t) : Paired F (xs ++ [x]) (ts ++ [t]) := PySem.Paired.snoc h q
theorem mel_app {K : PySem.W.Frag} : MeL K rAppend fApp := by
  intro x xs t ts M B H Q Q' h w rx rs k
  unfold fApp at h
  split at h
  · rename_i i z
    split at h
    · rename_i ds hL
      obtain ⟨v, rfl, r1⟩ := paired_one rs
      obtain ⟨a, rfl, ha⟩ := rx
      obtain ⟨_, vs, e, q⟩ := w.lc _ _ _ ha hL
      refine ⟨a, vs, v, rfl, rfl, e, by rw [RpA.length q]; exact h.1, ?_⟩
      obtain ⟨w2, e2⟩ := w.setL ha hL (RpA.append q (.cons r1 .nil))
      exact k _ _ _ _ _ h.2 w2 e2 .non
    · exact h.elim
  · rename_i i z
    split at h
    · rename_i us hD
      obtain ⟨v, rfl, r1⟩ := paired_one rs
      obtain ⟨a, rfl, ha⟩ := rx
      obtain ⟨_, vs, e, q⟩ := w.dc _ _ _ ha hD
      refine ⟨a, vs, v, rfl, rfl, e, by rw [paired_len q]; exact h.2.1, ?_⟩
      obtain ⟨w2, e2⟩ := w.setD ha hD (o := .lst (vs ++ [v])) (c := .lst (us ++ [z])) fun H' eH => ⟨_, eH, paired_snoc q (r1.deck h.1)⟩
      exact k _ _ _ _ _ h.2.2 w2 e2 .non
    · exact h.elim
  · exact h.elim
theorem paired_dropLast {F : V → T → Prop} : ∀ {xs : List V} {ts : List T}, Paired F xs ts → Paired F xs.dropLast ts.dropLast
  | _, _, .nil => .nil
  | _, _, .cons (l₁ := xs) p q => by
    cases q with
    | nil => exact .nil
    | cons p2 q2 => exact .cons p (paired_dropLast (.cons p2 q2))
def fPop (x : T) : FA := fun ts M Q => match x, ts with
  | .lr i, [] => (match M.L[i]? with
    | some (some ds) => ∃ z, ds[ds.length - 1]? = some z ∧ Q (.d z) { M with L := M.L.set i (some ds.dropLast) }
    | _ => False)
  | .mr i, [] => (match M.D[i]? with
    | some (.lst us) => ∃ t, us[us.length - 1]? = some t ∧ Q t { M with D := M.D.set i (.lst us.dropLast) }
    | _ => False)
  | _, _ => False
theorem mel_pop {K : PySem.W.Frag} : MeL K rPop fPop := by
  intro x xs t ts M B H Q Q' h w rx rs k
  unfold fPop at h
  split at h
  · rename_i i
    cases rs
    split at h
    · rename_i ds hL
      obtain ⟨a, rfl, ha⟩ := rx
      obtain ⟨_, vs, e, q⟩ := w.lc _ _ _ ha hL
      obtain ⟨z, hz, hQ⟩ := h
      obtain ⟨u, h1, h2⟩ := RpA.get q hz
      refine ⟨a, vs, u, rfl, rfl, e, by rw [RpA.length q]; exact h1, ?_⟩
      obtain ⟨w2, e2⟩ := w.setL ha hL (RpA.dropLast q)
      exact k _ _ _ _ _ hQ w2 e2 h2
    · exact h.elim
  · rename_i i
    cases rs
    split at h
    · rename_i us hD
      obtain ⟨a, rfl, ha⟩ := rx
      obtain ⟨_, vs, e, q⟩ := w.dc _ _ _ ha hD
      obtain ⟨z, hz, hQ⟩ := h
      obtain ⟨u, h1, h2⟩ := paired_get q hz
      refine ⟨a, vs, u, rfl, rfl, e, by rw [paired_len q]; exact h1, ?_⟩
      obtain ⟨w2, e2⟩ := w.setD ha hD (o := .lst vs.dropLast) (c := .lst us.dropLast) fun H' eH => ⟨_, eH, paired_dropLast q⟩
      exact k _ _ _ _ _ hQ w2 e2 h2.undeck
    · exact h.elim
  · exact h.elim
def lookT (kvs : List (Key × T)) (k : Key) : Option T := (kvs.find? fun kv => decide (kv.1 = k)).map (·.2)
def putT (kvs : List (Key × T)) (k : Key) (t : T) : List (Key × T) :=
  if (kvs.any fun kv => decide (kv.1 = k)) = true then kvs.map (fun kv => if kv.1 = k then (kv.1, t) else kv) else kvs ++ [(k, t)]
abbrev KT (K : PySem.W.Frag) (B : Bk) : List (Key × V) → List (Key × T) → Prop := Paired (fun (p : Key × V) (q : Key × T) => p.1 = q.1 ∧ Rt K { B with l := [] } p.2 q.2)
theorem KT.look {K : PySem.W.Frag} {B : Bk} {vs : List (Key × V)} {ts : List (Key × T)} {k : Key} (h : KT K B vs ts) : ∀ {t : T}, lookT ts k = some t → ∃ v, valV vs k = some v ∧ Rt K { B with l := [] } v t := by
  induction h with
  | nil => intro t e; cases e
  | @cons p q ps qs f _ ih =>
    intro t e
    by_cases z : q.1 = k
    · have e' : lookT (q :: qs) k = some q.2 := by simp [lookT, List.find?_cons, z]
      rw [e'] at e
      cases e
      exact ⟨p.2, valV_pos (f.1.trans z), f.2⟩
    · have e' : lookT (q :: qs) k = lookT qs k := by simp [lookT, List.find?_cons, z]
      rw [e'] at e
      obtain ⟨v, h1, h2⟩ := ih e
      exact ⟨v, (valV_neg fun y => z (f.1.symm.trans y)).trans h1, h2⟩
theorem KT.any {K : PySem.W.Frag} {B : Bk} {vs : List (Key × V)} {ts : List (Key × T)} {k : Key} (h : KT K B vs ts) : (vs.any fun kv => decide (kv.1 = k)) = (ts.any fun kv => decide (kv.1 = k)) := by
  induction h with
  | nil => rfl
  | cons f _ ih => rw [List.any_cons, List.any_cons, ih, f.1]
theorem KT.put {K : PySem.W.Frag} {B : Bk} {vs : List (Key × V)} {ts : List (Key × T)} {k : Key} {v : V} {t : T} (h : KT K B vs ts) (r : Rt K { B with l := [] } v t) : KT K B (putK vs k v) (putT ts k t) := by
  unfold putK putT
  rw [h.any]
  split
  · have m : ∀ {vs : List (Key × V)} {ts : List (Key × T)}, KT K B vs ts → KT K B (vs.map fun kv => if kv.1 = k then (kv.1, v) else kv) (ts.map fun kv => if kv.1 = k then (kv.1, t) else kv) := by
      intro vs ts h
      induction h with
      | nil => exact .nil
      | @cons p q ps qs f _ ih =>
        refine .cons ?_ ih
        by_cases z : q.1 = k
        · have e1 : (fun kv : Key × V => if kv.1 = k then (kv.1, v) else kv) p = (p.1, v) := if_pos (f.1.trans z)
          have e2 : (fun kv : Key × T => if kv.1 = k then (kv.1, t) else kv) q = (q.1, t) := if_pos z
          rw [e1, e2]
          exact ⟨f.1, r⟩
        · have e1 : (fun kv : Key × V => if kv.1 = k then (kv.1, v) else kv) p = p := if_neg fun y => z (f.1.symm.trans y)
          have e2 : (fun kv : Key × T => if kv.1 = k then (kv.1, t) else kv) q = q := if_neg z
          rw [e1, e2]
          exact f
    exact m h
  · exact PySem.Paired.snoc h ⟨rfl, r⟩
def keyOf : T → Option Key
  | .d (.str s) => some (.inr s)
  | .d (.int i) => some (.inl i)
  | _ => none
theorem keyOf_kV {K : PySem.W.Frag} {B : Bk} {v : V} {t : T} {k : Key} (r : Rt K B v t) (e : keyOf t = some k) : v = kV k := by
  unfold keyOf at e
  split at e
  · cases e
    cases r
    rfl
  · cases e
    cases r
    rfl
  · cases e
def oDGet : F2 := fun x y M Q => match x, keyOf y with
  | .mr i, some k => (match M.D[i]? with
    | some (.dct kvs) => ∃ t, lookT kvs k = some t ∧ Q t M
    | _ => False)
  | _, _ => False
theorem opl_dget {K : PySem.W.Frag} : OpL K (fun x y H Q => ∃ a v, x = .ref a ∧ DGet H a y (some v) ∧ Q v H) oDGet := by
  intro x y t u M B H Q Q' h w rx ry k
  unfold oDGet at h
  split at h
  · rename_i kk hk
    split at h
    · rename_i kvs hD
      obtain ⟨a, rfl, ha⟩ := rx
      obtain ⟨_, vs, e, q⟩ := w.dc _ _ _ ha hD
      obtain ⟨t', h1, hQ⟩ := h
      obtain ⟨v, h2, h3⟩ := KT.look q h1
      refine ⟨a, v, rfl, ?_, k _ _ M B H hQ w (.refl _ _) h3.undeck⟩
      rw [keyOf_kV ry hk, ← h2]
      exact .k e
    · exact h.elim
  · exact h.elim
section
variable {X : Cx} {o i e value : Expr} {es : List Expr} {mo mi mv m : Me} {pos pos' : Pos}
theorem me_dget (hu : X.A.units + 1 < cLine) (ho : ME X o mo) (hi : ME X i mi) (hs : NoSl i) : ME X (.Subscript o i pos) (mOp oDGet mo mi) := PE.of (pe_dget hu ho hi hs) fun _ _ _ h => two opl_dget h
def mDPut (d k v : Me) : Ms := fun E τ M => v τ M fun t M1 => d τ M1 fun x M2 => k τ M2 fun y M3 => match x, keyOf y with
  | .mr i, some kk => (match M3.D[i]? with
    | some (.dct kvs) => noL t = true ∧ kvs.length < sizeLine ∧ E.nx τ { M3 with D := M3.D.set i (.dct (putT kvs kk t)) }
    | _ => False)
  | _, _ => False
theorem ms_dput (hu : X.A.units + 1 < cLine) (ho : ME X o mo) (hi : ME X i mi) (hv : ME X value mv) (hs : swapsWith value (some (.Subscript o i pos')) pos.line X.env = pure false) :
    MS X (.Assign [.Subscript o i pos'] value pos) (mDPut mo mi mv) := PS.of (ps_dput hu ho hi hv hs) fun D σ H ⟨E, τ, M, B, h, w, s, g⟩ => by
  refine ⟨τ, M, B, _, h, w, s, fun v t M1 B1 H1 h1 w1 e1 r1 => ⟨τ, M1, B1, _, h1, w1, s.mono e1, fun x tx M2 B2 H2 h2 w2 e2 r2 => ⟨τ, M2, B2, _, h2, w2, (s.mono e1).mono e2, fun y ty M3 B3 H3 h3 w3 e3 r3 => ?_⟩⟩⟩
  split at h3
  · rename_i kk hk
    split at h3
    · rename_i kvs hD
      obtain ⟨a, rfl, ha⟩ := Rt.mono e3 r2
      obtain ⟨_, vs, e, q⟩ := w3.dc _ _ _ ha hD
      have rv := Rt.deck h3.1 (Rt.mono e3 (Rt.mono e2 r1))
      have hz : vs.length < sizeLine := by
        rw [paired_len q]
        exact h3.2.1
      refine ⟨a, _, rfl, by rw [keyOf_kV r3 hk]; exact DPut.k e hz, ?_⟩
      obtain ⟨w4, e4⟩ := w3.setD ha hD (o := .dK (putK vs kk v)) (c := .dct (putT kvs kk t)) fun H' eH => ⟨_, eH, KT.put q rv⟩
      have e14 := e1.trans (e2.trans (e3.trans e4))
      exact g.nx _ _ _ _ _ h3.2.2 w4 e14 (s.mono e14)
    · exact h3.elim
  · exact h3.elim
/-- o[i] = v, a list -/
def mLPut (d k v : Me) : Ms := fun E τ M => v τ M fun t M1 => d τ M1 fun x M2 => k τ M2 fun y M3 => match x, y, t with
  | .lr i, .d (.int j), .d z => (match M3.L[i]? with
    | some (some ds) => ∃ n, ixN ds.length j = some n ∧ E.nx τ { M3 with L := M3.L.set i (some (ds.set n z)) }
    | _ => False)
  | _, _, _ => False
def mLPutD (d k v : Me) : Ms := fun E τ M => v τ M fun t M1 => d τ M1 fun x M2 => k τ M2 fun y M3 => match x, y with
  | .mr i, .d (.int j) => (match M3.D[i]? with
    | some (.lst ds) => noL t = true ∧ ∃ n, ixN ds.length j = some n ∧ E.nx τ { M3 with D := M3.D.set i (.lst (ds.set n t)) }
    | _ => False)
  | _, _ => False
end
def goD : List (Str × Me) → En → Mem → (List (Key × T) → Mem → Prop) → Prop
  | [], _, M, Q => Q [] M
  | (s, m) :: r, τ, M, Q => m τ M fun t M1 => noL t = true ∧ goD r τ M1 fun kts M2 => Q ((.inr s, t) :: kts) M2
def mDisp (ps : List (Str × Me)) : Me := fun τ M Q => goD ps τ M fun kts M1 => ((kts.map (·.1)).Nodup ∧ kts.length ≤ 15) ∧ Q (.mr M1.D.length) { M1 with D := M1.D ++ [.dct kts] }
abbrev trsOf (K : PySem.W.Frag) (ps : List (Str × Me)) : List (TE × TE) := ps.map fun p => (tC (.str p.1), rE K p.2)
theorem pairs_of {K : PySem.W.Frag} : ∀ (ps : List (Str × Me)) {σ : L2.St} {τ : En} {M : Mem} {B : Bk} {H : Hp} {Q : List (Key × T) → Mem → Prop} {Q' : List (V × V) → Hp → Prop}, goD ps τ M Q → Wd K B M H → Sl K B σ τ →
    (∀ kvs kts M' B' H', Q kts M' → Wd K B' M' H' → Ext B H B' H' → KT K B' kvs kts → Q' (kvs.map fun kv => (kV kv.1, kv.2)) H') → tPairs (trsOf K ps) σ H Q'
  | [], σ, τ, M, B, H, Q, Q', h, w, s, k => k [] [] M B H h w (.refl _ _) .nil
  | (x, m) :: r, σ, τ, M, B, H, Q, Q', h, w, s, k => by
    refine ⟨τ, M, B, _, h, w, s, fun v t M1 B1 H1 h1 w1 e1 r1 => ?_⟩
    refine pairs_of r h1.2 w1 (s.mono e1) fun kvs kts M2 B2 H2 h2 w2 e2 r2 => ?_
    exact k ((.inr x, v) :: kvs) ((.inr x, t) :: kts) M2 B2 H2 h2 w2 (e1.trans e2) (.cons ⟨rfl, Rt.deck h1.1 (Rt.mono e2 r1)⟩ r2)
theorem KT.keys {K : PySem.W.Frag} {B : Bk} {vs : List (Key × V)} {ts : List (Key × T)} (h : KT K B vs ts) : vs.map (·.1) = ts.map (·.1) := by
  induction h with
  | nil => rfl
  | cons f _ ih => rw [List.map_cons, List.map_cons, ih, f.1]
theorem merge_nil : ∀ (more acc : List (Key × V)), ((acc ++ more).map (·.1)).Nodup → mergeK acc more = acc ++ more
  | [], acc, _ => (List.append_nil _).symm
  | p :: r, acc, h => by
    show mergeK (putK acc p.1 p.2) r = _
    have n : (acc.any fun kv => decide (kv.1 = p.1)) = false := by
      rw [List.map_append, List.map_cons, List.nodup_append] at h
      rw [List.any_eq_false]
      intro q hq z
      exact h.2.2 q.1 (List.mem_map_of_mem hq) p.1 (by simp) (of_decide_eq_true z)
    have e : putK acc p.1 p.2 = acc ++ [p] := by
      unfold putK
      rw [n]
      rfl
    rw [e, merge_nil r (acc ++ [p]) (by rw [List.append_assoc]; exact h), List.append_assoc]
    rfl
theorem Ext.adoptR {B B2 : Bk} {H H2 : Hp} {p : Addr} {o : HO} (hp : H p = none) (hn : p ∉ B.r) (hm : p ∉ B.l) (x : Ext B H B2 H2) : Ext B H { B2 with r := B2.r ++ [p] } (upd H2 p o) := by
  refine ⟨x.g, x.r.trans (List.prefix_append _ _), x.l, fun a u e h1 h2 => ?_, fun a e => ?_, fun a e => ?_, x.ln, x.gf⟩
  · rw [upd_ne (ne_of_none e hp)]
    exact x.fr a u e h1 h2
  · by_cases z : a = p
    · rw [z]
      exact hp
    · rw [upd_ne z] at e
      exact x.tr a e
  · rcases List.mem_append.mp e with z | z
    · exact x.rn a z
    · rw [List.mem_singleton] at z
      rw [z]
      exact .inr hp
/-- an object that stood beside the world comes into the deck -/
theorem Wd.adoptR {K : PySem.W.Frag} {B : Bk} {M : Mem} {H : Hp} (w : Wd K B M H) {p : Addr} (hG : B.G p = none) (hr : p ∉ B.r) (hl : p ∉ B.l) {o : HO} {c : Cell} (h : ∀ H', H' p = some o → CellAt K { B with r := B.r ++ [p] } H' p c) :
    Wd K { B with r := B.r ++ [p] } { M with D := M.D ++ [c] } (upd H p o) := by
  have ne : ∀ {a : Addr}, a ∈ B.r ++ B.l → a ≠ p := fun {a} ha z => by
    rw [z] at ha
    exact (List.mem_append.mp ha).elim hr hl
  refine ⟨fun a u e => ?_, by simp [w.rlen], w.llen, ?_, fun i a c' h1 h2 => ?_, fun i a es h1 h2 => ?_, fun a ha => ?_⟩
  · rw [upd_ne (ne_of_none e hG)]
    exact w.le a u e
  · show ((B.r ++ [p]) ++ B.l).Nodup
    obtain ⟨n1, n2, n3⟩ := List.nodup_append.mp w.nd
    rw [List.nodup_append]
    refine ⟨nodup_snoc n1 hr, n2, fun x hx y hy z => ?_⟩
    rcases List.mem_append.mp hx with q | q
    · exact n3 x q y hy z
    · rw [List.mem_singleton] at q
      subst z
      subst q
      exact hl hy
  · have h1' : (B.r ++ [p])[i]? = some a := h1
    have h2' : (M.D ++ [c])[i]? = some c' := h2
    rcases Nat.lt_or_ge i B.r.length with z | z
    · rw [List.getElem?_append_left z] at h1'
      rw [List.getElem?_append_left (by rw [← w.rlen]; exact z)] at h2'
      obtain ⟨q1, q2⟩ := w.dc i a c' h1' h2'
      exact ⟨q1, CellAt.mono (B := B) (B' := { B with r := B.r ++ [p] }) (fun _ _ e => e) (List.prefix_append _ _) (upd_ne (ne (List.mem_append_left _ (mem_of_get h1')))) q2⟩
    · rw [List.getElem?_append_right z] at h1'
      rw [List.getElem?_append_right (by rw [← w.rlen]; exact z), ← w.rlen] at h2'
      cases j : i - B.r.length with
      | succ k => rw [j] at h1'; simp at h1'
      | zero =>
        rw [j] at h1' h2'
        simp only [List.getElem?_cons_zero, Option.some.injEq] at h1' h2'
        subst h1'
        subst h2'
        exact ⟨hG, h _ upd_same⟩
  · obtain ⟨q1, ys, q2, q3⟩ := w.lc i a es h1 h2
    exact ⟨q1, ys, (upd_ne (ne (List.mem_append_right _ (mem_of_get h1)))).trans q2, q3⟩
  · have ha' : a ∈ (B.r ++ [p]) ++ B.l := ha
    by_cases z : a = p
    · rw [z, upd_same]
      exact fun q => nomatch q
    · rw [upd_ne z]
      refine w.tr a ?_
      rcases List.mem_append.mp ha' with y | y
      · rcases List.mem_append.mp y with y | y
        · exact List.mem_append_left _ y
        · rw [List.mem_singleton] at y
          exact absurd y z
      · exact List.mem_append_right _ y
/-- an object that stood beside the world never changes again -/
theorem Wd.adoptG {K : PySem.W.Frag} {B : Bk} {M : Mem} {H : Hp} (w : Wd K B M H) {p : Addr} (hG : B.G p = none) (hr : p ∉ B.r) (hl : p ∉ B.l) {o : HO} (hH : H p = some o) : Wd K { B with G := upd B.G p o } M H := by
  refine ⟨fun a u e => ?_, w.rlen, w.llen, w.nd, fun i a c h1 h2 => ?_, fun i a ds h1 h2 => ?_, w.tr⟩
  · have e' : upd B.G p o a = some u := e
    by_cases z : a = p
    · rw [z, upd_same] at e'
      rw [z, hH]
      exact e'
    · rw [upd_ne z] at e'
      exact w.le a u e'
  · obtain ⟨q1, q2⟩ := w.dc i a c h1 h2
    have na : a ≠ p := fun z => hr (by rw [← z]; exact mem_of_get h1)
    exact ⟨(upd_ne na).trans q1, CellAt.mono (B := B) (B' := { B with G := upd B.G p o }) (upd_keep hG) (List.prefix_refl _) rfl q2⟩
  · obtain ⟨q1, xs, q2, q3⟩ := w.lc i a ds h1 h2
    have na : a ≠ p := fun z => hl (by rw [← z]; exact mem_of_get h1)
    exact ⟨(upd_ne na).trans q1, xs, q2, RpA.mono (upd_keep hG) q3⟩
/-- an object beside the world -/
theorem Wd.side {K : PySem.W.Frag} {B : Bk} {M : Mem} {H : Hp} (w : Wd K B M H) {p : Addr} (hp : H p = none) (o : HO) : Wd K B M (upd H p o) := by
  obtain ⟨hG, hr, hl⟩ := w.fresh hp
  refine ⟨fun a u e => ?_, w.rlen, w.llen, w.nd, fun i a c h1 h2 => ?_, fun i a ds h1 h2 => ?_, fun a ha => ?_⟩
  · rw [upd_ne (ne_of_none e hG)]
    exact w.le a u e
  · obtain ⟨q1, q2⟩ := w.dc i a c h1 h2
    exact ⟨q1, CellAt.mono (fun _ _ e => e) (List.prefix_refl _) (upd_ne fun z => hr (by rw [← z]; exact mem_of_get h1)) q2⟩
  · obtain ⟨q1, xs, q2, q3⟩ := w.lc i a ds h1 h2
    exact ⟨q1, xs, (upd_ne fun z => hl (by rw [← z]; exact mem_of_get h1)).trans q2, q3⟩
  · rw [upd_ne fun z => ?_]
    · exact w.tr a ha
    · subst z
      exact w.tr a ha hp
theorem Ext.side {B : Bk} {H : Hp} {p : Addr} (hp : H p = none) (o : HO) : Ext B H B (upd H p o) := by
  refine ⟨fun _ _ e => e, List.prefix_refl _, List.prefix_refl _, fun a u e _ _ => ?_, fun a e => ?_, fun _ e => .inl e, fun _ e => .inl e, fun _ _ e => .inl e⟩
  · rw [upd_ne (ne_of_none e hp)]
    exact e
  · by_cases z : a = p
    · rw [z]
      exact hp
    · rw [upd_ne z] at e
      exact e
theorem me_disp {X : Cx} {pos : Pos} {keys : List (Option Expr)} {values : List Expr} {ps : List (Str × Me)} (h : PPs X pos keys values (trsOf X.K ps)) (hall : keys.all (·.isSome) = true) (hl : keys.length = values.length) (h0 : keys ≠ [])
    (h15 : keys.length ≤ 15) : ME X (.Dict keys values pos) (mDisp ps) := PE.of (pe_disp h hall hl h0 h15) fun σ H Q' ⟨τ, M, B, Q, h, w, s, k⟩ => by
  intro p hp
  obtain ⟨hG, hr, hl⟩ := w.fresh hp
  have x0 : Ext B H B (upd H p (.dK [])) := .side hp _
  refine pairs_of ps h (w.side hp (.dK [])) s fun kvs kts M2 B2 H2 h2 w2 e2 r2 => ?_
  have hH : H2 p = some (.dK []) := e2.fr p _ upd_same hr hl
  obtain ⟨⟨hnd, h15⟩, hQ⟩ := h2
  refine ⟨hH, kvs, rfl, by rw [paired_len r2]; exact h15, ?_⟩
  rw [merge_nil kvs [] (by rw [List.nil_append, KT.keys r2]; exact hnd), List.nil_append]
  have x2 : Ext B H { B2 with r := B2.r ++ [p] } (upd H2 p (.dK kvs)) := .adoptR hp hr hl (x0.trans e2)
  have nr : p ∉ B2.r := fun z => (e2.rn p z).elim hr fun q => by rw [upd_same] at q; cases q
  have nl : p ∉ B2.l := fun z => (e2.ln p z).elim hl fun q => by rw [upd_same] at q; cases q
  have nG : B2.G p = none := by
    cases q : B2.G p with
    | none => rfl
    | some o =>
      rcases e2.gf p o q with z | z | z
      · rw [hG] at z; cases z
      · rw [upd_same] at z; cases z
      · exact absurd z hl
  have w3 := w2.adoptR nG nr nl (o := .dK kvs) (c := .dct kts) fun H' eH => ⟨kvs, eH, Paired.imp (fun _ _ f => ⟨f.1, Rt.mono' (B := { B2 with l := [] }) (B' := { B2 with r := B2.r ++ [p], l := [] }) (fun _ _ e => e) (List.prefix_append _ _) (List.prefix_refl _) f.2⟩) r2⟩
  exact k _ _ _ _ _ hQ w3 x2 ⟨p, rfl, by rw [← w2.rlen]; exact get_snoc⟩
end L3
set_option Elab.async false
set_option linter.all false
set_option maxRecDepth 100000
namespace L3
open PySem PySem.Spec L2
def mNext : Ms := fun E τ M => E.nx τ M
def mSeq (s r : Ms) : Ms := fun E τ M => s { E with nx := r E } τ M
def mDrop (m : Me) : Ms := fun E τ M => m τ M fun _ M1 => E.nx τ M1
def mRet (m : Me) : Ms := fun E τ M => m τ M E.rt
def mIf (c : Mb) (s r : Ms) : Ms := fun E τ M => c τ M fun b M1 => if b = true then s E τ M1 else r E τ M1
def mSet (i : Nat) (m : Me) : Ms := fun E τ M => m τ M fun t M1 => E.nx (τ.set i (some t)) M1
def mAsg (m : Me) (g : Mg) : Ms := fun E τ M => m τ M fun t M1 => g t τ M1 E.nx
def mPar (i j : Nat) (r : Ma) : Ms := fun E τ M => r τ M fun ts M1 => match ts with
  | [t, u] => E.nx ((τ.set i (some t)).set j (some u)) M1
  | _ => False
section
variable {X : Cx} {e c tg : Expr} {m : Me} {mc : Mb} {mr : Ma} {st : Stmt} {sts a b : List Stmt} {s r : Ms} {pos : Pos} {g : Mg}
theorem mss_nil : MSs X [] mNext := PSs.of pss_nil fun D σ H ⟨E, τ, M, B, h, w, sl, g⟩ => g.nx τ M B σ H h w (.refl _ _) sl
theorem mss_cons (h1 : MS X st s) (h2 : MSs X sts r) : MSs X (st :: sts) (mSeq s r) := PSs.of (pss_cons h1 h2) fun D σ H ⟨E, τ, M, B, h, w, sl, g⟩ =>
  ⟨{ E with nx := r E }, τ, M, B, h, w, sl, fun τ' M' B' σ' H' q w' e' s' => ⟨E, τ', M', B', q, w', s', g.ext e'⟩, g.rt, g.bk, g.ct⟩
theorem mss_one (h1 : MS X st s) : MSs X [st] s := pss_one h1
theorem ms_expr (he : ME X e m) (hs : swapsWith e none pos.line X.env = pure false := by rfl) : MS X (.Expr e pos) (mDrop m) := PS.of (ps_expr he hs) fun D σ H ⟨E, τ, M, B, h, w, sl, g⟩ =>
  ⟨τ, M, B, _, h, w, sl, fun v t M1 B1 H1 h1 w1 e1 _ => g.nx τ M1 B1 σ H1 h1 w1 e1 (sl.mono e1)⟩
theorem ms_ret (he : ME X e m) : MS X (.Return (some e) pos) (mRet m) := PS.of (ps_ret he) fun D σ H ⟨E, τ, M, B, h, w, sl, g⟩ =>
  ⟨τ, M, B, _, h, w, sl, g.rt⟩
theorem ms_if (hc : MB X c mc) (ha : MSs X a s) (hb : MSs X b r) : MS X (.If c a b pos) (mIf mc s r) := PS.of (ps_if hc ha hb) fun D σ H ⟨E, τ, M, B, h, w, sl, g⟩ => by
  refine ⟨τ, M, B, _, h, w, sl, fun k M1 B1 H1 h1 w1 e1 => ?_⟩
  cases k with
  | true => exact ⟨E, τ, M1, B1, h1, w1, sl.mono e1, g.ext e1⟩
  | false => exact ⟨E, τ, M1, B1, h1, w1, sl.mono e1, g.ext e1⟩
theorem ms_set {i : Nat} {x : Str} {pos' : Pos} (hN : X.N.Nodup) (hi : X.N[i]? = some x) (hx : Loc X.env.scope x) (he : ME X e m) (hs : swapsWith e (some (.Name x pos')) pos.line X.env = pure false := by rfl)
    (hf : X.fn x = true ∨ X.env.scope.names.lookup x = some .local := by first | exact .inl rfl | exact .inr rfl | assumption) : MS X (.Assign [.Name x pos'] e pos) (mSet i m) := PS.of (L2.ps_set hN hi hx he hs hf) fun D σ H ⟨E, τ, M, B, h, w, sl, g⟩ =>
  ⟨τ, M, B, _, h, w, sl, fun v t M1 B1 H1 h1 w1 e1 r1 => g.nx _ M1 B1 _ H1 h1 w1 e1 ((sl.mono e1).set i r1)⟩
theorem ms_asg {os : List Nat} (he : ME X e m) (hg : MG X tg os g) (hs : swapsWithSole [tg] e pos.line X.env = pure false := by rfl) (hw : swappedStores [tg] e X.env = pure none := by rfl)
    (h1 : (assignEach [tg] X.env).map (·.2) = [assign tg X.env] := by rfl) : MS X (.Assign [tg] e pos) (mAsg m g) := PS.of (ps_asg he hg hs hw h1) fun D σ H ⟨E, τ, M, B, h, w, sl, g⟩ =>
  ⟨τ, M, B, _, h, w, sl, fun v t M1 B1 H1 h1 w1 e1 r1 => ⟨t, τ, M1, B1, _, h1, w1, sl.mono e1, r1, fun τ2 M2 B2 σ2 H2 h2 w2 e2 s2 _ => g.nx _ M2 B2 _ H2 h2 w2 (e1.trans e2) s2⟩⟩
theorem ms_par {i j : Nat} {x y : Str} {e1 e2 : Expr} {px py pt : Pos} {kt k2 : Nat} {pt2 : Pos} (hc : X.calm = true) (hN : X.N.Nodup) (hi : X.N[i]? = some x) (hj : X.N[j]? = some y) (hij : i ≠ j)
    (hx : X.env.scope.names.lookup x = some .local) (hy : X.env.scope.names.lookup y = some .local) (ha : MA X [e1, e2] mr)
    (hw : swappedStores [.Tuple [.Name x px, .Name y py] kt pt] (.Tuple [e1, e2] k2 pt2) X.env = pure (some [x, y]))
    (hs : swapsWithSole [.Tuple [.Name x px, .Name y py] kt pt] (.Tuple [e1, e2] k2 pt2) pos.line X.env = pure false := by rfl) :
    MS X (.Assign [.Tuple [.Name x px, .Name y py] kt pt] (.Tuple [e1, e2] k2 pt2) pos) (mPar i j mr) := PS.of (ps_par hc hN hi hj hij hx hy ha hw hs) fun D σ H ⟨E, τ, M, B, h, w, sl, g⟩ => by
  refine ⟨τ, M, B, _, h, w, sl, fun v t M1 B1 H1 h1 w1 e1 r1 => ?_⟩
  split at h1
  · obtain ⟨v, u, rfl, r2, r3⟩ := paired_two r1
    exact ⟨v, u, rfl, g.nx _ M1 B1 _ H1 h1 w1 e1 (((sl.mono e1).set i r2).set j r3)⟩
  · exact h1.elim
def gN (i : Nat) : Mg := fun t τ M Q => Q (τ.set i (some t)) M
abbrev Mgs := List PyData → En → Mem → (En → Mem → Prop) → Prop
def gsNil : Mgs := fun xs τ M Q => xs = [] ∧ Q τ M
def gsCons (g : Mg) (r : Mgs) : Mgs := fun xs τ M Q => match xs with
  | x :: ys => g (.d x) τ M fun τ1 M1 => r ys τ1 M1 Q
  | [] => False
def gTu (n : Nat) (r : Mgs) : Mg := fun t τ M Q => match t with
  | .d (.tuple xs) => xs.length = n ∧ r xs τ M Q
  | .wt xs => xs.length = n ∧ r xs τ M Q
  | _ => False
theorem PGs.of {es : List Expr} {t t' : TGs} (h : PGs X es t) (w : ∀ v σ H Q, t' v σ H Q → t v σ H Q) : PGs X es t' := ⟨fun _ _ _ _ _ _ _ iv rv q => h.run _ _ _ _ _ _ _ iv rv (w _ _ _ _ q)⟩
variable {gr : Mgs} {es : List Expr}
theorem mg_name {i : Nat} {x : Str} (hN : X.N.Nodup) (hi : X.N[i]? = some x) (hx : Loc X.env.scope x) (hf : X.fn x = true ∨ X.env.scope.names.lookup x = some .local := by first | exact .inl rfl | exact .inr rfl | assumption) : MG X (.Name x pos) [i] (gN i) :=
  PG.of (pg_name hN hi hx hf) fun v σ H Q' ⟨t, τ, M, B, Q, h, w, s, r, k⟩ => k _ M B _ H h w (.refl _ _) (s.set i r) ⟨List.length_set, fun j n => List.getElem?_set_ne fun z => n (by simp [z])⟩
end
abbrev Mi := En → Mem → (List T → Mem → Prop) → Prop
/-- J gives the trees ts, one after another, while what is frozen in G stands -/
def WalkT (K : PySem.W.Frag) (B : Bk) (J : It) (ts : List T) : Prop := Walk J ts.length (fun H => ∀ a o, B.G a = some o → H a = some o) fun i H x H' =>
  (H' = H ∧ ∃ t, ts[i]? = some t ∧ Rt K B x t) ∨ ∃ p vs ds u, x = .ref p ∧ H p = none ∧ H' = upd H p u ∧ RpA K B.G vs ds ∧ (u = .tup vs ∧ ts[i]? = some (.wt ds) ∨ ∃ o : Obj, o.dict = none ∧ u = .frz o (.tup vs) ∧ ts[i]? = some (.d (.tuple ds)))
def rI (K : PySem.W.Frag) (m : Mi) : TI := fun σ H R => ∃ τ M B Q, m τ M Q ∧ Wd K B M H ∧ Sl K B σ τ ∧ ∀ ts M' B' H' J, Q ts M' → Wd K B' M' H' → Ext B H B' H' → WalkT K B' J ts → R J H'
abbrev MI (X : Cx) (tg iter : Expr) (m : Mi) : Prop := PI X tg iter (rI X.K m)
theorem PI.of {X : Cx} {tg iter : Expr} {t t' : TI} (h : PI X tg iter t) (w : ∀ σ H Q, t' σ H Q → t σ H Q) : PI X tg iter t' := ⟨fun _ _ _ _ _ iv q => h.run _ _ _ _ _ iv (w _ _ _ q)⟩
section
variable {X : Cx} {e c tg : Expr} {m : Me} {mr : Ma} {pos : Pos}
/-- a list or a tuple that never changes -/
def iSeq (m : Me) : Mi := fun τ M Q => m τ M fun t M1 => match t with
  | .d (.list xs) => Q (xs.map T.d) M1
  | .d (.tuple xs) => Q (xs.map T.d) M1
  | .scr ns => Q (ns.map T.int) M1
  | _ => False
theorem mapd_get {xs : List PyData} {i : Nat} {x : PyData} (e : xs[i]? = some x) : (xs.map T.d)[i]? = some (.d x) := by
  rw [List.getElem?_map, e]
  rfl
theorem walkT_l {K : PySem.W.Frag} {B : Bk} {a : Addr} {vs : List V} {ds : List PyData} (e : SqL K B.G a vs) (q : RpA K B.G vs ds) : WalkT K B (Itl K a) (ds.map T.d) := by
  unfold WalkT
  rw [List.length_map, ← RpA.length q]
  refine walk_list.mono (fun H g => SqL.mono g e) fun i H x H' hi g y => .inl ⟨y.1, ?_⟩
  have hd : i < ds.length := by rw [← RpA.length q]; exact hi
  obtain ⟨u, h1, h2⟩ := RpA.get q (List.getElem?_eq_getElem hd)
  refine ⟨_, mapd_get (List.getElem?_eq_getElem hd), ?_⟩
  rw [y.2] at h1
  cases h1
  exact h2
theorem walkT_t {K : PySem.W.Frag} {B : Bk} {a : Addr} {vs : List V} {ds : List PyData} (e : SqT K B.G a vs) (q : RpA K B.G vs ds) : WalkT K B (Itt K a) (ds.map T.d) := by
  unfold WalkT
  rw [List.length_map, ← RpA.length q]
  refine walk_tup.mono (fun H g => SqT.mono0 g e) fun i H x H' hi g y => .inl ⟨y.1, ?_⟩
  have hd : i < ds.length := by rw [← RpA.length q]; exact hi
  obtain ⟨u, h1, h2⟩ := RpA.get q (List.getElem?_eq_getElem hd)
  refine ⟨_, mapd_get (List.getElem?_eq_getElem hd), ?_⟩
  rw [y.2] at h1
  cases h1
  exact h2
/-- a list's, a tuple's iterator has come -/
theorem pie_l {pn : List (Addr × Obj)} {sg : L2.St} {hp : Hp} {sh : Shared} {a : Addr} {vs : List V} {R : It → Hp → Prop} (iv : Inv X pn sg hp sh) (hq : SqL X.K hp a vs) (hR : R (Itl X.K a) hp) :
    wpAny (model X.prog X.w) X.A (pyIter (.ref a)) (PIE X pn sg tg R) X.xe sh := by
  obtain ⟨its, _, pl, _⟩ := iv.list hq
  refine wpAny_pyIter_list pl.isList ?_
  refine ⟨sh.heap.objs.size, [sh.heap.objs.size], _, _, hp, rfl, ?_, turn_list a _, ?_, fun b mb => ?_, hR⟩
  · exact iv.kept (t' := sh.toks) fun _ _ z => Heap.get?_push_of_some _ z
  · exact ⟨_, Heap.get?_push_size _ rfl, rfl, rfl⟩
  · obtain rfl : b = sh.heap.objs.size := List.mem_singleton.mp mb
    exact iv.fpOk (Nat.le_refl _) (iv.hok.fresh (Nat.le_refl _))
theorem pie_t {pn : List (Addr × Obj)} {sg : L2.St} {hp : Hp} {sh : Shared} {a : Addr} {vs : List V} {R : It → Hp → Prop} (iv : Inv X pn sg hp sh) (hq : SqT X.K hp a vs) (hR : R (Itt X.K a) hp) :
    wpAny (model X.prog X.w) X.A (pyIter (.ref a)) (PIE X pn sg tg R) X.xe sh := by
  obtain ⟨its, _, pl, _⟩ := iv.tuple hq
  refine wpAny_pyIter_tuple (items := its.toArray) pl ?_
  refine ⟨sh.heap.objs.size, [sh.heap.objs.size], _, _, hp, rfl, ?_, turn_tuple a _, ?_, fun b mb => ?_, hR⟩
  · exact iv.kept (t' := sh.toks) fun _ _ z => Heap.get?_push_of_some _ z
  · exact ⟨_, Heap.get?_push_size _ rfl, rfl, rfl⟩
  · obtain rfl : b = sh.heap.objs.size := List.mem_singleton.mp mb
    exact iv.fpOk (Nat.le_refl _) (iv.hok.fresh (Nat.le_refl _))
theorem mi_seq (he : ME X e m) : MI X tg e (iSeq m) := by
  refine ⟨fun pn sh sg hp R iv ⟨τ, M, B, Q, h, w, s, k⟩ => ?_⟩
  let P := fun (x : V) (H1 : Hp) => ∃ t M1 B1, (match t with | .d (.list xs) => Q (xs.map T.d) M1 | .d (.tuple xs) => Q (xs.map T.d) M1 | .scr ns => Q (ns.map T.int) M1 | _ => False) ∧ Wd X.K B1 M1 H1 ∧ Ext B hp B1 H1 ∧ Rt X.K B1 x t
  refine thn (he.run pn sh sg hp P iv ⟨τ, M, B, _, h, w, s, fun v t M1 B1 H1 h1 w1 e1 r1 => ⟨t, M1, B1, h1, w1, e1, r1⟩⟩) fun v s1 ⟨x, H1, i1, rx, t, M1, B1, h1, w1, e1, r1⟩ => ?_
  split at h1
  · cases r1 with
    | lst e q =>
      cases rx
      exact pie_l i1 (.of (w1.le _ _ e)) (k _ M1 B1 H1 _ h1 w1 e1 (walkT_l (.of e) q))
  · cases r1 with
    | tup e q =>
      cases rx
      exact pie_t i1 (SqT.mono w1.le e) (k _ M1 B1 H1 _ h1 w1 e1 (walkT_t e.t q))
  · obtain ⟨a, rfl, e⟩ := r1
    cases rx
    refine pie_l i1 (SqL.mono w1.le e) (k _ M1 B1 H1 _ h1 w1 e1 ?_)
    have := walkT_l (K := X.K) (B := B1) e (RpA.of_ints _)
    rw [List.map_map] at this
    exact this
  · exact h1.elim
/-- range(n) -/
def rangeT (n : Nat) : List T := (List.range n).map fun (i : Nat) => T.int (i : Int)
def iRange (r : Ma) : Mi := fun τ M Q => r τ M fun ts M1 => match ts with
  | [.d (.int j)] => (-(2 ^ 62) ≤ j ∧ j < 2 ^ 62) ∧ Q (rangeT j.toNat) M1
  | _ => False
theorem mi_range {a : Expr} {p : Pos} (hg : Gl X "range") (hm : X.mg "range" = none) (ha : MA X [a] mr) (hs : starEach [a] X.env = [(false, eval a X.env)] := by rfl) : MI X tg (.Call (.Name "range" p) [a] [] pos) (iRange mr) := PI.of (pi_range1 hg hm ha hs) fun σ H R ⟨τ, M, B, Q, h, w, s, k⟩ => by
  refine ⟨τ, M, B, _, h, w, s, fun v t M1 B1 H1 h1 w1 e1 r1 => ?_⟩
  split at h1
  · obtain ⟨v, rfl, r⟩ := paired_one r1
    cases r
    rename_i j
    refine ⟨j, rfl, h1.1.1, h1.1.2, k _ M1 B1 H1 _ h1.2 w1 e1 ?_⟩
    unfold WalkT rangeT
    rw [List.length_map, List.length_range]
    refine walk_range.mono (fun _ _ => trivial) fun i H x H' hi _ y => .inl ⟨y.1, T.int (i : Int), ?_, ?_⟩
    · rw [List.getElem?_map, List.getElem?_range hi]
      rfl
    · rw [y.2]
      show Rt X.K B1 (.int (0 + (i : Int))) (T.int (i : Int))
      rw [Int.zero_add]
      exact .int _
  · exact h1.elim
def goFor (g : Mg) (b : Ms) (E : Es) : List T → En → Mem → Prop
  | [], τ, M => E.nx τ M
  | t :: ts, τ, M => g t τ M fun τ1 M1 => b { E with nx := goFor g b E ts, ct := goFor g b E ts, bk := E.nx } τ1 M1
def mFor (i : Mi) (g : Mg) (b : Ms) : Ms := fun E τ M => i τ M fun ts M1 => goFor g b E ts τ M1
theorem drop_at {α : Type} {l : List α} {i : Nat} (h : i < l.length) : l.drop i = l[i] :: l.drop (i + 1) := List.drop_eq_getElem_cons h
/-- what is given at a turn is in the world -/
theorem WalkT.step {K : PySem.W.Frag} {B1 B2 : Bk} {M2 : Mem} {H1 H2 H3 : Hp} {ts : List T} {i : Nat} {x : V} (hi : i < ts.length) (w2 : Wd K B2 M2 H2) (e2 : Ext B1 H1 B2 H2)
    (y : (H3 = H2 ∧ ∃ t, ts[i]? = some t ∧ Rt K B1 x t) ∨ ∃ p vs ds u, x = .ref p ∧ H2 p = none ∧ H3 = upd H2 p u ∧ RpA K B1.G vs ds ∧ (u = .tup vs ∧ ts[i]? = some (.wt ds) ∨ ∃ o : Obj, o.dict = none ∧ u = .frz o (.tup vs) ∧ ts[i]? = some (.d (.tuple ds)))) :
    ∃ B3, Wd K B3 M2 H3 ∧ Ext B2 H2 B3 H3 ∧ Rt K B3 x ts[i] := by
  have hg : ts[i]? = some ts[i] := List.getElem?_eq_getElem hi
  rcases y with ⟨rfl, t, h1, h2⟩ | ⟨p, vs, ds, u, rfl, h1, rfl, h2, ⟨rfl, h3⟩ | ⟨o, ho, rfl, h3⟩⟩
  · rw [hg] at h1
    cases h1
    exact ⟨B2, w2, .refl _ _, Rt.mono e2 h2⟩
  · rw [hg] at h3
    obtain ⟨w3, e3⟩ := w2.alloc h1 (.tup vs)
    refine ⟨_, w3, e3, ?_⟩
    rw [Option.some.inj h3]
    exact ⟨p, vs, rfl, .inl (.inl upd_same), RpA.mono e3.g (RpA.mono e2.g h2)⟩
  · rw [hg] at h3
    obtain ⟨w3, e3⟩ := w2.alloc h1 (.frz o (.tup vs))
    refine ⟨_, w3, e3, ?_⟩
    rw [Option.some.inj h3]
    exact .tup (.inl ⟨o, upd_same, ho⟩) (RpA.mono e3.g (RpA.mono e2.g h2))
theorem ms_for {os : List Nat} {body : List Stmt} {i : Mi} {g : Mg} {b : Ms} (hp : PassesOwn (model X.prog X.w) X.A X.env X.xe) (hc : X.calm = true) (hi : MI X tg e i) (hg : MG X tg os g) (hb : MSs X body b)
    (hs : ∀ x, foldedSetIterable e X.env x = pure x := by intro _; rfl) : MS X (.For tg e body [] pos) (mFor i g b) := PS.of (ps_for hp hc hi hg hb hs) fun D σ H ⟨E, τ, M, B, h, w, sl, go⟩ => by
  refine ⟨τ, M, B, _, h, w, sl, fun ts M1 B1 H1 J h1 w1 e1 W => ?_⟩
  refine for_it W (fun i σ2 H2 => ∃ τ2 M2 B2, goFor g b E (ts.drop i) τ2 M2 ∧ Wd X.K B2 M2 H2 ∧ Sl X.K B2 σ2 τ2 ∧ Ext B1 H1 B2 H2) ⟨τ, M1, B1, h1, w1, sl.mono e1, .refl _ _⟩ ?_ ?_ ?_
  · rintro i σ2 H2 _ ⟨τ2, M2, B2, _, w2, _, e2⟩ a o z
    exact w2.le a o (e2.g a o z)
  · rintro i x σ2 H2 H3 hi ⟨τ2, M2, B2, h2, w2, s2, e2⟩ y
    obtain ⟨B3, w3, e3, r3⟩ := WalkT.step hi w2 e2 y
    rw [drop_at hi] at h2
    refine ⟨ts[i], τ2, M2, B3, _, h2, w3, s2.mono e3, r3, fun τ4 M4 B4 σ4 H4 h4 w4 e4 s4 _ => ?_⟩
    have e14 := e2.trans (e3.trans e4)
    refine ⟨_, τ4, M4, B4, h4, w4, s4, ⟨?_, ?_, ?_, ?_⟩⟩
    · exact fun τ5 M5 B5 σ5 H5 q w5 e5 s5 => ⟨τ5, M5, B5, q, w5, s5, e14.trans e5⟩
    · exact fun v t M5 B5 H5 q w5 e5 r5 => go.rt v t M5 B5 H5 q w5 (e1.trans (e14.trans e5)) r5
    · exact fun τ5 M5 B5 σ5 H5 q w5 e5 s5 => go.nx τ5 M5 B5 σ5 H5 q w5 (e1.trans (e14.trans e5)) s5
    · exact fun τ5 M5 B5 σ5 H5 q w5 e5 s5 => ⟨τ5, M5, B5, q, w5, s5, e14.trans e5⟩
  · rintro σ2 H2 ⟨τ2, M2, B2, h2, w2, s2, e2⟩
    rw [List.drop_length] at h2
    exact go.nx τ2 M2 B2 σ2 H2 h2 w2 (e1.trans e2) s2
def goLc (g : Mg) (c : Mb) (m : Me) (τ0 : En) (Q : List PyData → Mem → Prop) : List T → List PyData → Mem → Prop
  | [], acc, M => Q acc M
  | t :: ts, acc, M => g t τ0 M fun τ1 M1 => c τ1 M1 fun k M2 => if k = true then m τ1 M2 fun y M3 => (match y with
      | .d z => acc.length < sizeLine ∧ goLc g c m τ0 Q ts (acc ++ [z]) M3
      | _ => False) else goLc g c m τ0 Q ts acc M2
def mLc (i : Mi) (g : Mg) (c : Mb) (m : Me) (vs : List Nat) : Me := fun τ M Q => i τ M fun ts M1 => goLc g c m (wipeT τ vs) (fun acc M2 => Q (.lst acc) M2) ts [] M1
def bYes : Mb := fun _ M Q => Q true M
abbrev MTs (X : Cx) (ifs : List Expr) (c : Mb) : Prop := PTs X ifs (rB X.K c)
theorem PTs.of {ifs : List Expr} {t t' : TT} (h : PTs X ifs t) (w : ∀ σ H Q, t' σ H Q → t σ H Q) : PTs X ifs t' := ⟨fun _ _ _ _ _ iv q => h.run _ _ _ _ _ iv (w _ _ _ q)⟩
theorem mts_nil : MTs X [] bYes := PTs.of pts_nil fun σ H Q' ⟨τ, M, B, Q, h, w, s, k⟩ => k _ M B H h w (.refl _ _)
theorem Ext.adoptG {B B2 : Bk} {H H2 : Hp} {p : Addr} {o : HO} (hp : H p = none) (x : Ext B H B2 H2) : Ext B H { B2 with G := upd B2.G p o } H2 ∨ B2.G p ≠ none := by
  by_cases z : B2.G p = none
  · refine .inl ⟨fun a u e => ?_, x.r, x.l, x.fr, x.tr, x.rn, x.ln, fun a u e => ?_⟩
    · exact upd_keep z a u (x.g a u e)
    · have e' : upd B2.G p o a = some u := e
      by_cases y : a = p
      · rw [y]
        exact .inr (.inl hp)
      · rw [upd_ne y] at e'
        exact x.gf a u e'
  · exact .inr z
theorem lc_gen {K : PySem.W.Frag} {i : Mi} {g : Mg} {os : List Nat} {mc : Mb} {vs0 : List Nat} {σ : L2.St} {H : Hp} {Q' : VK} {τ : En} {M : Mem} {B : Bk} {Qf : List PyData → Mem → Prop} (sub : ∀ j ∈ os, j ∈ vs0)
    (h : i τ M fun ts M1 => goLc g mc m (wipeT τ vs0) Qf ts [] M1) (w : Wd K B M H) (sl : Sl K B σ τ)
    (k : ∀ (D : Addr) (acc : List PyData) (vs : List V) (M2 : Mem) (B2 : Bk) (H2 : Hp), Qf acc M2 → H D = none → Wd K B2 M2 H2 → Ext B H B2 H2 → H2 D = some (.lst vs) → RpA K B2.G vs acc → B2.G D = none → D ∉ B2.r → D ∉ B2.l → Q' (.ref D) H2) :
    tLc (rI K i) (rG K os g) (rB K mc) (rE K m) vs0 σ H Q' := by
  refine ⟨τ, M, B, _, h, w, sl, fun ts M1 B1 H1 J h1 w1 e1 W D hD => ?_⟩
  obtain ⟨dG, dr, dl⟩ := w1.fresh hD
  have sw := (sl.mono e1).wipe vs0
  refine lc_it W (fun i H2 => ∃ acc vs M2 B2, goLc g mc m (wipeT τ vs0) Qf (ts.drop i) acc M2 ∧ Wd K B2 M2 H2 ∧ Ext B1 H1 B2 H2 ∧ H2 D = some (.lst vs) ∧ RpA K B2.G vs acc ∧ B2.G D = none ∧ D ∉ B2.r ∧ D ∉ B2.l) ?_ ?_ ?_ ?_
  · exact ⟨[], [], M1, B1, h1, w1.side hD _, .side hD _, upd_same, .nil, dG, dr, dl⟩
  · rintro i H2 _ ⟨acc, vs, M2, B2, _, w2, e2, _⟩ a o z
    exact w2.le a o (e2.g a o z)
  · rintro i x H2 H3 hlt ⟨acc, vs, M2, B2, h2, w2, e2, d2, r2, g2, n2, l2⟩ y
    obtain ⟨B3, w3, e3, r3⟩ := WalkT.step hlt w2 e2 y
    rw [drop_at hlt, goLc] at h2
    have keepD : ∀ {B4 : Bk} {H4 : Hp}, Ext B2 H2 B4 H4 → H4 D = some (.lst vs) ∧ B4.G D = none ∧ D ∉ B4.r ∧ D ∉ B4.l := fun {B4 H4} e4 => by
      refine ⟨e4.fr D _ d2 n2 l2, ?_, fun z => ?_, fun z => ?_⟩
      · cases q : B4.G D with
        | none => rfl
        | some o =>
          rcases e4.gf D o q with z | z | z
          · rw [g2] at z; cases z
          · rw [d2] at z; cases z
          · exact absurd z l2
      · rcases e4.rn D z with q | q
        · exact n2 q
        · rw [d2] at q; cases q
      · rcases e4.ln D z with q | q
        · exact l2 q
        · rw [d2] at q; cases q
    refine ⟨ts[i], wipeT τ vs0, M2, B3, _, h2, w3, (sw.mono e2).mono e3, r3, fun τ4 M4 B4 σ4 H4 h4 w4 e4 s4 a4 => ⟨a4.wipe sub, ?_⟩⟩
    refine ⟨τ4, M4, B4, _, h4, w4, s4, fun k5 M5 B5 H5 h5 w5 e5 => ?_⟩
    have e25 := e3.trans (e4.trans e5)
    cases k5 with
    | false =>
      obtain ⟨q1, q2, q3, q4⟩ := keepD e25
      exact ⟨acc, vs, M5, B5, h5, w5, e2.trans e25, q1, RpA.mono e25.g r2, q2, q3, q4⟩
    | true =>
      refine ⟨τ4, M5, B5, _, h5, w5, s4.mono e5, fun v t M6 B6 H6 h6 w6 e6 r6 => ?_⟩
      split at h6
      · have e26 := e25.trans e6
        obtain ⟨q1, q2, q3, q4⟩ := keepD e26
        refine ⟨vs, q1, by rw [RpA.length r2]; exact h6.1, acc ++ [_], vs ++ [v], M6, B6, h6.2, ?_, ?_, upd_same, RpA.append (RpA.mono e26.g r2) (.cons r6 .nil), q2, q3, q4⟩
        · -- the world does not know D
          refine ⟨fun a u z => ?_, w6.rlen, w6.llen, w6.nd, fun j a c z1 z2 => ?_, fun j a ds z1 z2 => ?_, fun a ha => ?_⟩
          · rw [upd_ne (ne_of_none z q2)]
            exact w6.le a u z
          · obtain ⟨p1, p2⟩ := w6.dc j a c z1 z2
            exact ⟨p1, CellAt.mono (fun _ _ e => e) (List.prefix_refl _) (upd_ne fun z => q3 (by rw [← z]; exact mem_of_get z1)) p2⟩
          · obtain ⟨p1, xs, p2, p3⟩ := w6.lc j a ds z1 z2
            exact ⟨p1, xs, (upd_ne fun z => q4 (by rw [← z]; exact mem_of_get z1)).trans p2, p3⟩
          · rw [upd_ne fun z => ?_]
            · exact w6.tr a ha
            · rw [z] at ha
              exact (List.mem_append.mp ha).elim q3 q4
        · have x6 := e2.trans e26
          refine ⟨x6.g, x6.r, x6.l, fun a u z n1 n2 => ?_, fun a z => ?_, x6.rn, x6.ln, x6.gf⟩
          · rw [upd_ne (ne_of_none z hD)]
            exact x6.fr a u z n1 n2
          · by_cases q : a = D
            · rw [q]
              exact hD
            · rw [upd_ne q] at z
              exact x6.tr a z
      · exact h6.elim
  · rintro H2 ⟨acc, vs, M2, B2, h2, w2, e2, d2, r2, g2, n2, l2⟩
    rw [List.drop_length] at h2
    exact k D acc vs M2 B2 H2 h2 (e1.tr D hD) w2 (e1.trans e2) d2 r2 g2 n2 l2
theorem lc_of {K : PySem.W.Frag} {i : Mi} {g : Mg} {os : List Nat} {mc : Mb} {vs0 : List Nat} {σ : L2.St} {H : Hp} {Q' : VK} (sub : ∀ j ∈ os, j ∈ vs0) (h : rE K (mLc i g mc m vs0) σ H Q') : tLc (rI K i) (rG K os g) (rB K mc) (rE K m) vs0 σ H Q' := by
  obtain ⟨τ, M, B, Q, h, w, sl, k⟩ := h
  refine lc_gen sub h w sl fun D acc vs M2 B2 H2 h2 hD w2 e2 d2 r2 g2 n2 l2 => ?_
  rcases Ext.adoptG (o := .lst vs) hD e2 with x | x
  · exact k _ _ M2 _ H2 h2 (w2.adoptG g2 n2 l2 d2) x (.lst upd_same (RpA.mono (upd_keep g2) r2))
  · exact absurd g2 x
section
variable {elt : Expr} {ifs : List Expr} {scope : Scope} {own : List (Str × Nat)} {i : Mi} {g : Mg} {os : List Nat} {mc : Mb}
theorem me_lc (hc : X.calm = true) (hN : X.N.Nodup) (hi : MI X tg e i) (ok : BlkOk X.N X.env.scope scope own)
    (hg : ∀ (s : Shared) (H : Hp) (C : Addr) (cl : List (Str × Addr)) (fp : List Addr), MG (X.blk s H scope (compEnvC scope cl C X.env) fp) tg os g) (ht : ∀ (s : Shared) (H : Hp) (C : Addr) (cl : List (Str × Addr)) (fp : List Addr), MTs (X.blk s H scope (compEnvC scope cl C X.env) fp) ifs mc)
    (he : ∀ (s : Shared) (H : Hp) (C : Addr) (cl : List (Str × Addr)) (fp : List Addr), ME (X.blk s H scope (compEnvC scope cl C X.env) fp) elt m) (sub : ∀ j ∈ os, j ∈ own.map (·.2)) (hs : ∀ x, foldedSetIterable e X.env x = pure x := by intro _; rfl) :
    ME X (.ListComp elt [⟨tg, e, ifs, 0⟩] scope pos) (mLc i g mc m (own.map (·.2))) := PE.of (pe_lc (te := rE X.K m) (tt := rB X.K mc) (g := rG X.K os g) hc hN hi ok hg ht he hs) fun _ _ _ h => lc_of sub h
variable {n : Nat} {y : Str} {py spos : Pos}
end
end
end L3
set_option Elab.async false
set_option linter.all false
set_option maxRecDepth 100000
namespace L3
open PySem PySem.Spec L2
def Gd (A : Around) : Prop := A.guards = some []
structure FnG (P : Program) (w : World) (K : PySem.W.Frag) (mg : Str → Option Value) (base : Heap) (k : Nat) (f : Addr) (fd : FuncData) (ps : List Str) (sp : Sp) : Prop where
  len : ∀ vs H Q E, sp vs H Q E → vs.length = ps.length
  run : ∀ (A : Around) (outer : List Env) (sh : Shared) (H : Hp) (args : Args) (us : List Value) (vs : List V) (Q : VK) (E : XK), Gd A → Room k A → Env0 P w K mg base A outer sh H → BindsTo sh fd args (ps.zip us) → Vals vs us → sp vs H Q E →
    codeAny (model P w) A (.call (.ref f) args) (CR CX0 outer P w H sh Q E) sh
theorem FnG.mono {P : Program} {w : World} {K : PySem.W.Frag} {mg : Str → Option Value} {base : Heap} {j k : Nat} {f : Addr} {fd : FuncData} {ps : List Str} {sp : Sp} (F : FnG P w K mg base j f fd ps sp) (h : j ≤ k) : FnG P w K mg base k f fd ps sp :=
  ⟨F.len, fun A outer sh H args us vs Q E gd rm => F.run A outer sh H args us vs Q E gd (rm.mono h)⟩
theorem fng_of {P : Program} {w : World} {K : PySem.W.Frag} {mg : Str → Option Value} {base : Heap} {x qual : Str} {st : Stmt} {f : Addr} {fd : FuncData} {N ps : List Str} {k : Nat} {sp : Sp}
    (F : Fun K x qual st f fd) (S : FnScope N ps (defScope st)) (len : ∀ vs H Q E, sp vs H Q E → vs.length = ps.length)
    (body : ∀ (cdv : Value) (A : Around) (outer : List Env) (sh : Shared) (H : Hp) (vs : List V) (Q : VK) (E : XK), Gd (A.deeper (PyProof.Rows.envOfC qual (defScope st) sh.heap.objs.size f cdv)) → Room k (A.deeper (PyProof.Rows.envOfC qual (defScope st) sh.heap.objs.size f cdv)) → sp vs H Q E →
      ∃ t, PSs (cxOf CX0 P w K mg base N qual (defScope st) f cdv A outer sh H E).nox (defBody st) t ∧ t { nx := fun _ H' => Q .non H', rt := Q } (start N vs) H) :
    FnG P w K mg base (k + 1) f fd ps sp := by
  obtain ⟨oc, od, kV, doc, pm, an, cdv, ct, osl, rfl, lk, hcd⟩ := F.ex
  refine ⟨len, fun A outer sh H args us vs Q E gd rm e0 bnd rv q => ?_⟩
  have hlen := len _ _ _ _ q
  have kin : K.In sh.heap := e0.mod.kin.keeps fun b o z => (e0.bs b o z).1
  have nolim : sh.heap.NoLimit := e0.mod.nolimit.keeps fun b o z => (e0.bs b o z).1
  have kinds : ∀ y ∈ ps.zip us, (defScope st).names.lookup y.1 = some .local ∨ ((defScope st).names.lookup y.1 = some .cell ∧ ((cellsFrom (sh.heap.objs.size + 1) (defScope st).names []).lookup y.1).isSome = true) := by
    rintro ⟨nm, vl⟩ hy
    exact (S.par nm (List.of_mem_zip hy).1).elim .inl fun z => .inr ⟨z, PySem.W.cellsFrom_some _ _ _ (.inl z)⟩
  refine codeAny_call_function rm.depth (kin _ _ lk) rfl S.co S.gen rfl (PySem.W.codeRec_of kin hcd) (bnd _ _ _ _ ?_)
  refine wpAny_newFunctionEnv_cells S.kind kinds fun env he sh1 xx => ?_
  subst he
  refine ⟨nolim.keeps xx.toInCall.keep, codeAny_func ?_⟩
  obtain ⟨t, ht, hq⟩ := body cdv A outer sh H vs Q E gd (rm.deeper _) q
  have iv := inv_start (CX := CX0) (E := E) S rm.hd e0 hlen rv xx
  refine wpAny_mono (ht.nox.run [] sh1 (start N vs) H _ iv hq) (fun fl sh' hs => ?_) fun _ _ hs => hs
  cases fl with
  | ret u =>
    obtain ⟨v, σ', H', J, r', q'⟩ := hs
    exact ⟨v, H', J.os, J.bare, J.base, J.hok, r', q'⟩
  | next =>
    obtain ⟨σ', H', J, q'⟩ := hs
    exact ⟨V.non, H', J.os, J.bare, J.base, J.hok, rfl, q'⟩
  | brk => obtain ⟨_, _, _, q'⟩ := hs; exact False.elim q'
  | cont => obtain ⟨_, _, _, q'⟩ := hs; exact False.elim q'
abbrev FD := List T → List Cell → (T → List Cell → Prop) → Prop
def spM (K : PySem.W.Frag) (m : FD) : Sp := fun vs H Q _ => ∃ ts D B Q1, m ts D Q1 ∧ Wd K B ⟨D, []⟩ H ∧ Paired (Rt K B) vs ts ∧ ∀ v t D' B' H', Q1 t D' → Wd K B' ⟨D', []⟩ H' → Ext B H B' H' → Rt K B' v t → Q v H'
/-- a def of n parameters and N names -/
def mDef (n N : Nat) (body : Ms) : FD := fun ts D Q => ts.length = n ∧ body { nx := fun _ M => Q .non M.D, rt := fun t M => noL t = true ∧ Q t M.D } (ts.map some ++ List.replicate (N - n) none) ⟨D, []⟩
theorem start_sl {K : PySem.W.Frag} {B : Bk} {N : List Str} {vs : List V} {ts : List T} (r : Paired (Rt K B) vs ts) : Sl K B (start N vs) (ts.map some ++ List.replicate (N.length - ts.length) none) := by
  have hl := paired_len r
  refine ⟨by simp [L2.start, hl], fun i t e => ?_⟩
  unfold L2.start
  by_cases hi : i < ts.length
  · rw [List.getElem?_append_left (by rw [List.length_map]; exact hi), List.getElem?_map] at e
    cases h : ts[i]? with
    | none => rw [h] at e; cases e
    | some u =>
      rw [h] at e
      cases e
      obtain ⟨v, h1, h2⟩ := paired_get r h
      exact ⟨v, by rw [List.getElem?_append_left (by rw [List.length_map, hl]; exact hi), List.getElem?_map, h1]; rfl, h2⟩
  · rw [List.getElem?_append_right (by rw [List.length_map]; omega), List.getElem?_replicate] at e
    split at e <;> cases e
/-- a frame's end: its own lists are forgotten -/
theorem Wd.leave {K : PySem.W.Frag} {B : Bk} {M : Mem} {H : Hp} (w : Wd K B M H) : Wd K { B with l := [] } ⟨M.D, []⟩ H :=
  ⟨w.le, w.rlen, rfl, by
    show (B.r ++ []).Nodup
    rw [List.append_nil]
    exact (List.nodup_append.mp w.nd).1, w.dc, fun i a ds h1 _ => by
    have h1' : ([] : List Addr)[i]? = some a := h1
    simp at h1', fun a ha => by
    have ha' : a ∈ B.r ++ [] := ha
    rw [List.append_nil] at ha'
    exact w.tr a (List.mem_append_left _ ha')⟩
theorem ok_def {P : Program} {w : World} {K : PySem.W.Frag} {mg : Str → Option Value} {base : Heap} {x qual : Str} {st : Stmt} {f : Addr} {fd : FuncData} {N ps : List Str} {k : Nat} {m : Ms}
    (F : Fun K x qual st f fd) (S : FnScope N ps (defScope st))
    (body : ∀ (cdv : Value) (A : Around) (outer : List Env) (sh : Shared) (H : Hp) (E : XK), Gd (A.deeper (PyProof.Rows.envOfC qual (defScope st) sh.heap.objs.size f cdv)) → Room k (A.deeper (PyProof.Rows.envOfC qual (defScope st) sh.heap.objs.size f cdv)) →
      MSs (cxOf CX0 P w K mg base N qual (defScope st) f cdv A outer sh H E).nox (defBody st) m) :
    FnG P w K mg base (k + 1) f fd ps (spM K (mDef ps.length N.length m)) := by
  refine fng_of F S (fun vs H Q E h => ?_) fun cdv A outer sh H vs Q E gd rm h => ?_
  · obtain ⟨ts, D, B, Q1, ⟨h1, _⟩, _, r, _⟩ := h
    exact (paired_len r).trans h1
  · obtain ⟨ts, D, B, Q1, ⟨h1, h2⟩, wd, r, kk⟩ := h
    refine ⟨_, body cdv A outer sh H E gd rm, ?_⟩
    have lB : B.l = [] := List.length_eq_zero_iff.mp wd.llen
    have s0 := start_sl (N := N) r
    rw [h1] at s0
    refine ⟨_, _, ⟨D, []⟩, B, h2, wd, s0, ⟨fun τ' M' B' σ' H' q w' e' s' => ?_, fun v t M' B' H' q w' e' r' => ?_, fun _ _ _ _ _ q => q.elim, fun _ _ _ _ _ q => q.elim⟩⟩
    · refine kk .non .non M'.D { B' with l := [] } H' q w'.leave ⟨e'.g, e'.r, ?_, e'.fr, e'.tr, e'.rn, fun a z => absurd z (by simp), e'.gf⟩ .non
      rw [lB]
      exact List.nil_prefix
    · refine kk v t M'.D { B' with l := [] } H' q.2 w'.leave ⟨e'.g, e'.r, ?_, e'.fr, e'.tr, e'.rn, fun a z => absurd z (by simp), e'.gf⟩ (r'.deck q.1)
      rw [lB]
      exact List.nil_prefix
def fDef (m : FD) : FA := fun ts M Q => (∀ t ∈ ts, noL t = true) ∧ m ts M.D fun t D' => Q t { M with D := D' }
theorem paired_deck {K : PySem.W.Frag} {B : Bk} : ∀ {vs : List V} {ts : List T}, Paired (Rt K B) vs ts → (∀ t ∈ ts, noL t = true) → Paired (Rt K { B with l := [] }) vs ts
  | _, _, .nil, _ => .nil
  | _, _, .cons p q, h => .cons (p.deck (h _ (List.mem_cons_self ..))) (paired_deck q fun t z => h t (List.mem_cons_of_mem _ z))
theorem sp_of {K : PySem.W.Frag} {m : FD} {vs : List V} {ts : List T} {M : Mem} {B : Bk} {H : Hp} {Q : Kt} {Q' : VK} {E : XK} (h : fDef m ts M Q) (w : Wd K B M H) (r : Paired (Rt K B) vs ts)
    (k : ∀ v t' M' B' H', Q t' M' → Wd K B' M' H' → Ext B H B' H' → Rt K B' v t' → Q' v H') : spM K m vs H Q' E := by
  refine ⟨ts, M.D, { B with l := [] }, _, h.2, w.leave, paired_deck r h.1, fun v t D' B1 H1 q w1 e1 r1 => ?_⟩
  have l1 : B1.l = [] := List.length_eq_zero_iff.mp w1.llen
  have own : ∀ a ∈ B.l, H a ≠ none := fun a z => w.tr a (List.mem_append_right _ z)
  have nr1 : ∀ a ∈ B.l, a ∉ B1.r := fun a z y => by
    rcases e1.rn a y with q | q
    · exact w.rl q z
    · exact own a z q
  have stay : ∀ {a : Addr} {o : HO}, a ∈ B.l → H a = some o → H1 a = some o := fun {a o} z e => e1.fr a o e (fun y => w.rl y z) fun y => by cases y
  have e' : Ext B H { B1 with l := B.l } H1 := ⟨e1.g, e1.r, List.prefix_refl _, fun a o e n1 n2 => e1.fr a o e n1 (by intro y; cases y), e1.tr, e1.rn, fun a z => .inl z, fun a o e => (e1.gf a o e).elim .inl fun z => z.elim (fun z => .inr (.inl z)) (by intro z; cases z)⟩
  refine k v t { M with D := D' } { B1 with l := B.l } H1 q ⟨w1.le, w1.rlen, w.llen, ?_, w1.dc, fun i a ds h1 h2 => ?_, fun a ha => ?_⟩ e' ?_
  · show (B1.r ++ B.l).Nodup
    have n1 := w1.nd
    rw [l1, List.append_nil] at n1
    refine List.nodup_append.mpr ⟨n1, (List.nodup_append.mp w.nd).2.1, fun x hx y hy z => ?_⟩
    subst z
    exact nr1 x hy hx
  · obtain ⟨q1, xs, q2, q3⟩ := w.lc i a ds h1 h2
    have ml := mem_of_get h1
    refine ⟨?_, xs, stay ml q2, RpA.mono e1.g q3⟩
    show B1.G a = none
    cases z : B1.G a with
    | none => rfl
    | some o =>
      rcases e1.gf a o z with y | y | y
      · rw [show B.G a = none from q1] at y; cases y
      · exact absurd y (own a ml)
      · cases y
  · have ha' : a ∈ B1.r ++ B.l := ha
    rcases List.mem_append.mp ha' with z | z
    · exact w1.tr a (List.mem_append_left _ z)
    · exact fun y => own a z (e1.tr a y)
  · cases t with
    | d x => exact r1
    | mr i => exact r1
    | lr i =>
      obtain ⟨a, _, z⟩ := r1
      rw [l1] at z
      simp at z
    | scr ns => exact r1
    | wt xs => exact r1
    | exo a c d e => exact r1
    | q x => exact r1
section
variable {X : Cx} {k : Nat} {f : Addr} {fd : FuncData} {ps ks : List Str} {m : FD} {x : Str} {p pos : Pos} {e : Expr} {es : List Expr} {mr mk : Ma} {kws : List Keyword}
theorem run_g {args : Args} {us : List Value} {vs : List V} {sp : Sp} {pn : List (Addr × Obj)} {sh : Shared} {sg : L2.St} {hp : Hp} {Q : VK} (F : FnG X.prog X.w X.K X.mg X.base k f fd ps sp) (gd : Gd X.A) (rm : Room k X.A)
    (hb : BindsTo sh fd args (ps.zip us)) (iv : Inv X pn sg hp sh) (rv : Vals vs us) (h : sp vs hp Q E0) : wpAny (model X.prog X.w) X.A (call (.ref f) args.pos args.kw) (EP X pn sg Q) X.xe sh := by
  refine wpAny_call (codeAny_mono (F.run X.A X.stack sh hp args us vs Q E0 gd rm iv.env0 hb rv h) fun r sh' hq => ?_)
  cases r with
  | error z => exact False.elim hq
  | ok fl =>
    cases fl with
    | ret u => exact iv.after hq
    | next => exact hq.elim
    | brk => exact hq.elim
    | cont => exact hq.elim
theorem me_call (F : FnG X.prog X.w X.K X.mg X.base k f fd ps (spM X.K m)) (gd : Gd X.A) (rm : Room k X.A) (hg : Gl X x) (hm : X.mg x = some (.ref f)) (hk : PySem.W.keepIn X.K (.ref f) = true) (hb : Binds X.K fd ps [])
    (ha : MA X (e :: es) mr) (hdb : (x == ("__debug__" : Str)) = false := by decide) (he : starEach (e :: es) X.env = (false, eval e X.env) :: starEach es X.env := by rfl) (hpl : (backTo pos (starEach es X.env)).any (·.1) = false := by rfl) :
    ME X (.Call (.Name x p) (e :: es) [] pos) (mCall (fDef m) mr) := by
  refine ⟨fun pn sh sg hp Q' iv ⟨τ, M, B, Q, h, w, s, kk⟩ => wpAny_Call_Name_kw (ld_glob iv hg hm ?_ hdb)⟩
  let P := fun (vs : List V) (H1 : Hp) => spM X.K m vs H1 Q' E0
  refine PySem.W.callWith_K (h₀ := X.base) iv.ok.mod.kin hk (thn (ha.run pos pn sh sg hp P iv ⟨τ, M, B, _, h, w, s, fun vs ts M1 B1 H1 h1 w1 e1 r1 => ?_⟩) fun us s1 ⟨vs, H1, i1, r, q⟩ => ⟨i1.kIn, ?_⟩) he hpl
  · exact sp_of h1 w1 r1 fun v t M2 B2 H2 h2 w2 e2 r2 => kk v t M2 B2 H2 h2 w2 (e1.trans e2) r2
  · have hl : (us ++ []).length = ps.length := by
      rw [List.append_nil, ← r.length]
      exact F.len _ _ _ _ q
    have hbb := hb s1 us i1.kIn hl
    rw [List.append_nil] at hbb
    exact run_g (args := ⟨us, []⟩) F gd rm hbb i1 r q
abbrev MK (X : Cx) (kws : List Keyword) (m : Ma) : Prop := PK X kws (rA X.K m)
theorem PK.of {t t' : TA} (h : PK X kws t) (w : ∀ σ H Q, t' σ H Q → t σ H Q) : PK X kws t' := ⟨fun _ _ _ _ _ _ iv q => h.run _ _ _ _ _ _ iv (w _ _ _ q)⟩
theorem mk_nil : MK X [] aNil := PK.of pk_nil fun σ H Q' ⟨τ, M, B, Q, h, w, s, k⟩ => k _ _ M B H h w (.refl _ _) .nil
theorem mk_cons {nm : Option Str} {kpos : Pos} {me : Me} (ha : ME X e me) (hr : MK X kws mr) : MK X (⟨nm, e, kpos⟩ :: kws) (aCons me mr) := PK.of (pk_cons ha hr) fun σ H Q' ⟨τ, M, B, Q, h, w, s, k⟩ => by
  refine ⟨τ, M, B, _, h, w, s, fun v t M1 B1 H1 h1 w1 e1 r1 => ⟨τ, M1, B1, _, h1, w1, s.mono e1, fun v2 t2 M2 B2 H2 h2 w2 e2 r2 => ?_⟩⟩
  exact k _ _ M2 B2 H2 h2 w2 (e1.trans e2) (.cons (Rt.mono e2 r1) r2)
def mCallK (g : {α : Type} → List α → List α) (n : Nat) (f : FA) (r : Ma) : Me := fun τ M Q => r τ M fun ts M1 => ts.length = n ∧ f (g ts) M1 Q
end
end L3
set_option Elab.async false
set_option linter.all false
set_option maxRecDepth 100000
namespace L3
open PySem PySem.Spec L2
structure OkShow (x : PyData) : Prop where
  sh : x.showable = true
  nd : x.hasDict = false
  dp : x.depth ≤ 100
  ln : x.shown.length ≤ sizeLine
def fRepr : FA := fun ts M Q => match ts with
  | [t] => (match now t M with
    | some x => OkShow x ∧ Q (.str x.shown) M
    | none => False)
  | _ => False
theorem head_core {P : Program} {w : World} {K : PySem.W.Frag} {mg mb : Str → Option Value} {k : Nat} {fa a : Addr} {fd : FuncData} {x : Str} {sp : Sp} {s1 : Shared} {vs : List Value} {H : Hp}
    (kin : K.In s1.heap) (ns : s1.heap.Ns mainGlobals mg) (nb : s1.heap.Ns builtinsNs mb) (bb : ∀ x : Str, x ≠ "__name__" → mb x = bootBuiltins x) (lim : s1.heap.NoLimit) (gens : s1.gens = #[])
    (ha : s1.heap.get? a = some { cls := .type "list", data := .seq vs.toArray }) (rm : Room k callerA)
    (F : ∀ base : Heap, K.In base → base.Ns mainGlobals mg → FnG P w K mg base k fa fd [x] sp) (bnd : ∀ (s : Shared) (u : Value), BindsTo s fd ⟨[u], []⟩ [(x, u)])
    (hO : Only H) (hsp : sp [.ref a] H (fun v _ => v = .bl true) fun _ _ _ => False) (hok : HOk P w H s1.heap) (hA : ∀ b, H b ≠ none → b = a) (hK : H a ≠ none → K.lookup a = none) :
    codeAny (model P w) callerA (.call (.ref fa) ⟨[.ref a], []⟩) (fun r s' => r = .ok (.ret (.bool true)) ∧ PySem.OldK s1.heap s'.heap ∧ s'.os = s1.os ∧ PyProof.Rows.AllBare s'.gens) s1 := by
  have untr : ∀ {b : Addr} {o : Obj}, s1.heap.get? b = some o → (∀ u, H b = some u → b = a → False) → (hidT s1.heap H).get? b = some o := fun {b o} e n => by
    refine hidT_get e ?_
    cases z : H b with
    | none => rfl
    | some u => exact (n u z (hA b (by rw [z]; exact fun y => nomatch y))).elim
  have nsK : ∀ {b : Addr} {m : Str → Option Value}, s1.heap.Ns b m → (hidT s1.heap H).Ns b m := by
    rintro b m ⟨o, es, ep, e, d, r⟩
    refine ⟨o, es, ep, untr e fun u _ z => ?_, d, r⟩
    subst z
    rw [ha] at e
    cases e
    exact nomatch (show Data.seq vs.toArray _ = Data.dict es ep from d)
  have kinb : K.In (hidT s1.heap H) := fun b o e => untr (kin b o e) fun u z y => by
    subst y
    rw [hK (by rw [z]; exact fun y => nomatch y)] at e
    cases e
  obtain ⟨mc, l1, l2⟩ := lim
  have md : Mod K mg (hidT s1.heap H) := ⟨kinb, nsK ns, ⟨mb, nsK nb, bb⟩, ⟨mc, nsK l1, l2⟩⟩
  have e0 : Env0 P w K mg (hidT s1.heap H) callerA [] s1 H := by
    refine ⟨rfl, md, fun b o e => of_hidT e, Nat.le_of_eq (hidT_size _ _), trivial, fun b z => ?_, hok, .of_eq gens⟩
    cases (show b ∈ ([] : List Addr) from z)
  refine codeAny_mono ((F _ kinb (nsK ns)).run callerA [] s1 H ⟨[.ref a], []⟩ [.ref a] [.ref a] _ _ rfl rm e0 (bnd s1 (.ref a)) (.cons rfl .nil) hsp) fun r s' h => ?_
  cases r with
  | error e => exact False.elim h
  | ok fl =>
    cases fl with
    | next => exact h.elim
    | brk => exact h.elim
    | cont => exact h.elim
    | ret u =>
      obtain ⟨v, H', os, bare, un, hok', r', q⟩ := h
      obtain rfl : v = .bl true := q
      obtain rfl : u = Value.bool true := r'
      refine ⟨rfl, PySem.OldK.of_keep fun b o e => ?_, os, bare⟩
      cases q : H b with
      | none =>
        refine un.keep b o e q (fun z => ?_) (fun z => ?_)
        · cases (show b ∈ ([] : List Addr) from z)
        · cases z
      | some u =>
        rcases hO b with z | ⟨ob, xs, z⟩
        · rw [q] at z; cases z
        · obtain ⟨e1, _⟩ := hok b _ z
          obtain ⟨e2, _⟩ := hok' b _ (un.frzs b ob _ z)
          rw [e] at e1
          cases e1
          exact e2
theorem head_call {P : Program} {w : World} {K : PySem.W.Frag} {mg mb : Str → Option Value} {k : Nat} {fa a : Addr} {fd : FuncData} {x : Str} {sp : Sp} {s1 : Shared} {vs : List Value} {ns : List Int}
    (kin : K.In s1.heap) (hns : s1.heap.Ns mainGlobals mg) (nb : s1.heap.Ns builtinsNs mb) (bb : ∀ x : Str, x ≠ "__name__" → mb x = bootBuiltins x) (lim : s1.heap.NoLimit) (gens : s1.gens = #[])
    (ha : s1.heap.get? a = some { cls := .type "list", data := .seq vs.toArray }) (hi : PyProof.Rows.IntsAre vs ns) (hl : ns.length ≤ sizeLine) (rm : Room k callerA)
    (F : ∀ base : Heap, K.In base → base.Ns mainGlobals mg → FnG P w K mg base k fa fd [x] sp) (bnd : ∀ (s : Shared) (u : Value), BindsTo s fd ⟨[u], []⟩ [(x, u)])
    (hsp : ∀ H : Hp, Only H → SqL K H a (ns.map V.int) → sp [.ref a] H (fun v _ => v = .bl true) fun _ _ _ => False) :
    codeAny (model P w) callerA (.call (.ref fa) ⟨[.ref a], []⟩) (fun r s' => r = .ok (.ret (.bool true)) ∧ PySem.OldK s1.heap s'.heap ∧ s'.os = s1.os ∧ PyProof.Rows.AllBare s'.gens) s1 := by
  have rv := vals_ints hi
  have hlen := hi.length
  cases hk : K.lookup a with
  | some o =>
    have e := kin a o hk
    rw [ha] at e
    cases e
    have hO : Only (fun _ => none) := fun _ => .inl rfl
    refine head_core kin hns nb bb lim gens ha rm F bnd hO (hsp _ hO (.inr ⟨_, vs.toArray, _, hk, rfl, rfl, rfl, ?_, ?_⟩)) (fun b u z => nomatch z) (fun b z => absurd rfl z) fun z => absurd rfl z
    · rw [List.size_toArray, hlen]
      exact hl
    · simpa using rv
  | none =>
    let H : Hp := fun b => if b = a then some (.frz { cls := .type "list", data := .seq vs.toArray } (.lst (ns.map V.int))) else none
    have hH : ∀ b u, H b = some u → b = a ∧ u = .frz { cls := .type "list", data := .seq vs.toArray } (.lst (ns.map V.int)) := fun b u z => by
      by_cases y : b = a
      · exact ⟨y, (Option.some.inj ((if_pos y).symm.trans z)).symm⟩
      · cases (if_neg y).symm.trans z
    have hO : Only H := fun b => by
      by_cases y : b = a
      · exact .inr ⟨_, _, if_pos y⟩
      · exact .inl (if_neg y)
    refine head_core kin hns nb bb lim gens ha rm F bnd hO (hsp H hO (.inl (.inr ⟨_, if_pos rfl⟩))) (fun b u z => ?_) (fun b z => ?_) fun _ => hk
    · obtain ⟨rfl, rfl⟩ := hH b u z
      exact ⟨ha, by rw [List.length_map]; exact hl, vs, _, rv, ha⟩
    · cases y : H b with
      | none => exact absurd y z
      | some u => exact (hH b u y).1
/-- THE END: the law's promise over trees -/
theorem walkG {l : PySem.W.OpenLaw} {n k : Nat} {q : Program} {loose : List Str} {XP : (Str → Option Value) → Heap → Prop} {YP : World → Heap → Prop} {d : DefRec} {K : Params → PySem.W.Frag} {m : FD} {x : Str}
    (hn : l.most = some n) (hn2 : n ≤ sizeLine) (hdf : d.params.defaults = []) (rm : Room k callerA) (hY : ∀ (w : World) (h : Heap), YP w h → (K w.params).In h)
    (F : ∀ (w : World) (mg : Str → Option Value) (fa : Addr) (h : Heap), (K w.params).In h → h.Ns mainGlobals mg → mg d.name = some (.ref fa) →
      ∃ fd : FuncData, (∀ (s : Shared) (u : Value), BindsTo s fd ⟨[u], []⟩ [(x, u)]) ∧ ∀ base : Heap, (K w.params).In base → base.Ns mainGlobals mg → FnG l.prog w (K w.params) mg base k fa fd [x] (spM (K w.params) m))
    (law : ∀ ns : List Int, ns.length ≤ n → m [.scr ns] [] fun t _ => t = T.bl true) :
    PySem.W.WalkO q loose XP YP l.row.toRowW d [] (fun f vs => PySem.call f vs) := by
  refine Att.attach_call hn hdf fun w s₀ s1 mg mb fa o pm cd doc a vs ns G Y ho hd hcd hmg hobj hints hlen hg => ?_
  obtain ⟨fd, hb, hF⟩ := F w mg fa _ (hY w _ Y) G.T.g hmg
  refine head_call (hY w _ Y) G.T.g G.T.b G.T.builtins G.T.nolimit hg hobj hints (Nat.le_trans hlen hn2) rm hF hb fun H hO hS => ?_
  refine ⟨[.scr ns], [], ⟨H, [], []⟩, _, law ns hlen, ⟨fun _ _ z => z, rfl, rfl, List.nodup_nil, fun i a c z => ?_, fun i a c z => ?_, fun a z => ?_⟩, .cons ⟨a, rfl, hS⟩ .nil, fun v t D' B' H' z w' e' r' => ?_⟩
  · simp at z
  · simp at z
  · cases z
  · subst z
    cases r'
    rfl
end L3
set_option Elab.async false
set_option linter.all false
set_option maxRecDepth 100000
namespace L3
open PySem PySem.Spec L2
def Kn (P : Program) (w : World) (K : PySem.W.Frag) (mg : Str → Option Value) (base : Heap) (k : Nat) (x : Str) (st : Stmt) (ps : List Str) (m : FD) : Prop :=
  ∃ f fd, FnG P w K mg base k f fd ps (spM K m) ∧ mg x = some (.ref f) ∧ Fun K x x st f fd ∧ Binds K fd ps []
section
variable {X : Cx} {j k : Nat} {x : Str} {st : Stmt} {ps ks : List Str} {m : FD} {p pos : Pos} {e : Expr} {es : List Expr} {mr : Ma} {kws : List Keyword}
theorem me_fn (h : Kn X.prog X.w X.K X.mg X.base j x st ps m) (gd : Gd X.A) (rm : Room k X.A) (hj : j ≤ k) (hg : Gl X x) (ha : MA X (e :: es) mr) (hdb : (x == ("__debug__" : Str)) = false := by decide)
    (he : starEach (e :: es) X.env = (false, eval e X.env) :: starEach es X.env := by rfl) (hpl : (backTo pos (starEach es X.env)).any (·.1) = false := by rfl) : ME X (.Call (.Name x p) (e :: es) [] pos) (mCall (fDef m) mr) :=
  let ⟨_, _, F, hm, U, hb⟩ := h
  me_call F gd (rm.mono hj) hg hm U.kp hb ha hdb he hpl
end
def CDv (i j : Int) : Prop := 0 < j ∧ j < 18446744073709551616
theorem CDv.wide {i j : Int} (h : CDv i j) : CDivW i j := by
  refine ⟨h.1, ?_⟩
  have h2 : j.natAbs < 2 ^ 64 := by have := h.2; have := h.1; omega
  have h3 : j.natAbs ≠ 0 := by have := h.1; omega
  have h4 : j.natAbs.log2 < 64 := (Nat.log2_lt h3).mpr h2
  omega
section
variable {X : Cx} {a b c e : Expr} {ma mb m : Me} {pos : Pos}
def oSub : F2 := oI (fun _ _ => True) fun i j => .int (i - j)
def oDiv : F2 := oI CDv fun i j => .int (i / j)
def oMod : F2 := oI (fun _ j => 0 < j) fun i j => .int (i % j)
def oPow : F2 := oI CPow fun i j => .int (i ^ j.toNat)
def oShl : F2 := oI CPow fun i j => .int (i * 2 ^ j.toNat)
def oAnd : F2 := oI (fun _ _ => True) fun i j => .int (Builtin.bitAnd i j)
def oLt : F2 := oI (fun _ _ => True) fun i j => .bool (decide (i < j))
def oLe : F2 := oI (fun _ _ => True) fun i j => .bool (decide (i ≤ j))
def oGt : F2 := oI (fun _ _ => True) fun i j => .bool (decide (j < i))
def oGe : F2 := oI (fun _ _ => True) fun i j => .bool (decide (j ≤ i))
theorem me_add (ha : ME X a ma) (hb : ME X b mb) : ME X (.BinOp a .Add b pos) (mOp oAdd ma mb) := me_op opr_add opl_add ha hb
theorem me_sub (ha : ME X a ma) (hb : ME X b mb) : ME X (.BinOp a .Sub b pos) (mOp oSub ma mb) := me_op op_sub (opl_I0 fun _ _ _ => .int _) ha hb
theorem me_mul (ha : ME X a ma) (hb : ME X b mb) : ME X (.BinOp a .Mult b pos) (mOp oMul ma mb) := me_op opr_mul opl_mul ha hb
theorem opr_div : OpR X (binaryOp .FloorDiv) (L2.rI CDv fun i j => .int (i / j)) := by
  intro pn sh sg hp x y v u Q iv rx ry ⟨i, j, e1, e2, c, q⟩
  exact op_fdivW pn sh sg hp x y v u Q iv rx ry ⟨i, j, e1, e2, c.wide, q⟩
theorem me_div (ha : ME X a ma) (hb : ME X b mb) : ME X (.BinOp a .FloorDiv b pos) (mOp oDiv ma mb) := me_op opr_div (opl_I fun _ _ _ => .int _) ha hb
theorem me_mod (ha : ME X a ma) (hb : ME X b mb) : ME X (.BinOp a .Mod b pos) (mOp oMod ma mb) := me_op op_mod (opl_I fun _ _ _ => .int _) ha hb
theorem me_pow (ha : ME X a ma) (hb : ME X b mb) : ME X (.BinOp a .Pow b pos) (mOp oPow ma mb) := me_op op_pow (opl_I fun _ _ _ => .int _) ha hb
theorem me_lt (ha : ME X a ma) (hb : ME X b mb) : ME X (.Compare a [.Lt] [b] pos) (mOp oLt ma mb) := me_cmp op_lt (opl_I0 fun _ _ _ => .bl _) ha hb (nomark _)
theorem me_eq {k : Nat} (rm : Room k X.A) (ha : ME X a ma) (hb : ME X b mb) : ME X (.Compare a [.Eq] [b] pos) (mOp (oEq false) ma mb) := me_cmp (opr_eq rm.units) opl_eq ha hb (nomark _)
theorem mb_lt (ha : ME X a ma) (hb : ME X b mb) : MB X (.Compare a [.Lt] [b] pos) (mTest (mOp oLt ma mb)) := mb_cmp op_lt (opl_I0 fun _ _ _ => .bl _) ha hb (nomark _)
theorem mb_gt (ha : ME X a ma) (hb : ME X b mb) : MB X (.Compare a [.Gt] [b] pos) (mTest (mOp oGt ma mb)) := mb_cmp op_gt (opl_I0 fun _ _ _ => .bl _) ha hb (nomark _)
theorem mb_ge (ha : ME X a ma) (hb : ME X b mb) : MB X (.Compare a [.GtE] [b] pos) (mTest (mOp oGe ma mb)) := mb_cmp op_ge (opl_I0 fun _ _ _ => .bl _) ha hb (nomark _)
theorem mb_eq {k : Nat} (rm : Room k X.A) (ha : ME X a ma) (hb : ME X b mb) : MB X (.Compare a [.Eq] [b] pos) (mTest (mOp (oEq false) ma mb)) := mb_cmp (opr_eq rm.units) opl_eq ha hb (nomark _)
theorem mb_ne {k : Nat} (rm : Room k X.A) (ha : ME X a ma) (hb : ME X b mb) : MB X (.Compare a [.NotEq] [b] pos) (mTest (mOp (oEq true) ma mb)) := mb_cmp (opr_ne rm.units) opl_ne ha hb (nomark _)
theorem me_append {mo : Me} {mr : Ma} {o x : Expr} {apos cpos : Pos} (ho : ME X o mo) (ha : MA X [x] mr) (hbase : attributeBase o "append" X.env (eval o X.env) = eval o X.env := by rfl)
    (hfew : ((backTo cpos (starEach [x] X.env)).all (fun x => !x.1) && (backToKw cpos (keywordEach [] X.env)).all (fun x => x.1.isSome) && decide (([x] : List Expr).length + ([] : List Keyword).length + (if ([] : List Keyword).isEmpty then 0 else 1) < 30)) = true := by rfl)
    (hline : (apos.endLine == cpos.line) = true := by rfl) (hs : starEach [x] X.env = (false, eval x X.env) :: starEach [] X.env := by rfl) : ME X (.Call (.Attribute o "append" apos) [x] [] cpos) (mMeth fApp mo mr) :=
  me_lm PySem.F.plainAttrs_list PySem.F.slot_list_append PySem.F.type_list_append mt_append mel_app ho ha hbase hfew hline hs rfl
theorem me_pop {mo : Me} {o : Expr} {apos cpos : Pos} (ho : ME X o mo) (hbase : attributeBase o "pop" X.env (eval o X.env) = eval o X.env := by rfl) (hline : (apos.endLine == cpos.line) = true := by rfl) : ME X (.Call (.Attribute o "pop" apos) [] [] cpos) (mMeth0 fPop mo) :=
  me_lm0 PySem.F.plainAttrs_list PySem.F.slot_list_pop PySem.F.type_list_pop mt_pop mel_pop ho hbase hline
end
section
variable {X : Cx} {e : Expr} {es : List Expr} {mr : Ma} {p pos : Pos}
theorem me_len (hg : Gl X "len") (hm : X.mg "len" = none) (ha : MA X (e :: es) mr) (he : starEach (e :: es) X.env = (false, eval e X.env) :: starEach es X.env := by rfl) (hpl : (backTo pos (starEach es X.env)).any (·.1) = false := by rfl) : ME X (.Call (.Name "len" p) (e :: es) [] pos) (mCall fLen mr) := me_callB cr_len cal_len hg hm (by decide +kernel) ha (by decide) (by decide) he hpl
theorem me_abs (hg : Gl X "abs") (hm : X.mg "abs" = none) (ha : MA X (e :: es) mr) (he : starEach (e :: es) X.env = (false, eval e X.env) :: starEach es X.env := by rfl) (hpl : (backTo pos (starEach es X.env)).any (·.1) = false := by rfl) : ME X (.Call (.Name "abs" p) (e :: es) [] pos) (mCall fAbs mr) := me_callB call_abs cal_abs hg hm (by decide +kernel) ha (by decide) (by decide) he hpl
theorem me_inti (hg : Gl X "int") (hm : X.mg "int" = none) (ha : MA X (e :: es) mr) (he : starEach (e :: es) X.env = (false, eval e X.env) :: starEach es X.env := by rfl) (hpl : (backTo pos (starEach es X.env)).any (·.1) = false := by rfl) : ME X (.Call (.Name "int" p) (e :: es) [] pos) (mCall fInt mr) := me_callTy call_int1 cal_int hg hm (by decide +kernel) ha (by decide) (by decide) he hpl
end
end L3
set_option Elab.async false
set_option linter.all false
set_option maxRecDepth 100000
namespace L3
open PySem PySem.Spec L2
section
variable {m : Me}
end
section
variable {X : Cx} {e tg : Expr} {m : Me} {pos : Pos} {elt : Expr} {ifs : List Expr} {scope : Scope} {own : List (Str × Nat)} {i : Mi} {g : Mg} {os : List Nat} {mc : Mb} {n : Nat} {y : Str} {py spos : Pos}
/-- swapsWith of a name = [..] on one line -/
theorem swT {gs : List Comprehension} {l : Nat} (hk : X.env.scope.kind = .function) (hy : X.env.scope.names.lookup y = some .local) (hl : (py.line == pos.line) = true)
    (ha : (scope.names.any fun (n, k) => n == y && (k == .local || k == .cell)) = false) : swapsWith (.ListComp elt gs scope pos) (some (.Name y py)) l X.env = pure true := sw_true hk hy hl ha
/-- a list display of the deck, of whatever stands in the deck -/
def mNewD (r : Ma) : Me := fun τ M Q => r τ M fun ts M1 => ((∀ t ∈ ts, noL t = true) ∧ ts.length ≤ sizeLine) ∧ Q (.mr M1.D.length) { M1 with D := M1.D ++ [.lst ts] }
theorem me_newD {es : List Expr} {mr : Ma} (h : MA X es mr) : ME X (.List es pos) (mNewD mr) := PE.of (pe_lst h) fun σ H Q' ⟨τ, M, B, Q, h, w, s, k⟩ => by
  refine ⟨τ, M, B, _, h, w, s, fun v t M1 B1 H1 h1 w1 e1 r1 => ?_⟩
  obtain ⟨⟨hno, hz⟩, q⟩ := h1
  refine ⟨by rw [paired_len r1]; exact hz, fun p hp => ?_⟩
  obtain ⟨w2, e2⟩ := w1.newD hp (o := .lst v) (c := .lst t) fun H' eH => ⟨v, eH, Paired.imp (fun _ _ q => Rt.mono' (B := { B1 with l := [] }) (B' := { B1 with r := B1.r ++ [p], l := [] }) (fun _ _ e => e) (List.prefix_append _ _) (List.prefix_refl _) q) (paired_deck r1 hno)⟩
  exact k _ _ _ _ _ q w2 (e1.trans e2) ⟨p, rfl, by rw [← w1.rlen]; exact get_snoc⟩
end
end L3
set_option Elab.async false
set_option linter.all false
set_option maxRecDepth 100000
namespace L3
open PySem PySem.Spec L2
section
variable {τ : En} {M : Mem} {Q : Kt} {E : Es} {x y : T} {f g : F2} {m r o : Me} {i j n : Nat} {D : List Cell} {L : List (Option (List PyData))}
@[simp] theorem x_var : mVar i τ M Q = ∃ t, τ[i]? = some (some t) ∧ Q t M := rfl
@[simp] theorem x_c {d : PyData} : mC d τ M Q = Q (.d d) M := rfl
@[simp] theorem x_op : mOp f m r τ M Q = m τ M fun x M1 => r τ M1 fun y M2 => f x y M2 Q := rfl
@[simp] theorem x_un {f : F1} : mUn f m τ M Q = m τ M fun x M1 => f x M1 Q := rfl
@[simp] theorem x_neg {i : Int} : oNeg (.d (.int i)) M Q = Q (.int (-i)) M := rfl
@[simp] theorem x_add {i j : Int} : oAdd (.d (.int i)) (.d (.int j)) M Q = Q (.int (i + j)) M := rfl
@[simp] theorem x_addl {a b : List PyData} : oAdd (.d (.list a)) (.d (.list b)) M Q = (a.length + b.length ≤ sizeLine ∧ Q (.lst (a ++ b)) M) := rfl
@[simp] theorem x_addt {a b : List PyData} : oAdd (.d (.tuple a)) (.d (.tuple b)) M Q = (a.length + b.length ≤ sizeLine ∧ Q (.tup (a ++ b)) M) := rfl
@[simp] theorem x_sub {i j : Int} : oSub (.d (.int i)) (.d (.int j)) M Q = Q (.int (i - j)) M := by simp [oSub, oI]
@[simp] theorem x_mul {i j : Int} : oMul (.d (.int i)) (.d (.int j)) M Q = (CMul i j ∧ Q (.int (i * j)) M) := rfl
@[simp] theorem x_div {i j : Int} : oDiv (.d (.int i)) (.d (.int j)) M Q = (CDv i j ∧ Q (.int (i / j)) M) := rfl
@[simp] theorem x_mod {i j : Int} : oMod (.d (.int i)) (.d (.int j)) M Q = (0 < j ∧ Q (.int (i % j)) M) := rfl
@[simp] theorem x_pow {i j : Int} : oPow (.d (.int i)) (.d (.int j)) M Q = (CPow i j ∧ Q (.int (i ^ j.toNat)) M) := rfl
@[simp] theorem x_shl {i j : Int} : oShl (.d (.int i)) (.d (.int j)) M Q = (CPow i j ∧ Q (.int (i * 2 ^ j.toNat)) M) := rfl
@[simp] theorem x_and {i j : Int} : oAnd (.d (.int i)) (.d (.int j)) M Q = Q (.int (Builtin.bitAnd i j)) M := by simp [oAnd, oI]
@[simp] theorem x_lt {i j : Int} : oLt (.d (.int i)) (.d (.int j)) M Q = Q (.bl (decide (i < j))) M := by simp [oLt, oI]
@[simp] theorem x_le {i j : Int} : oLe (.d (.int i)) (.d (.int j)) M Q = Q (.bl (decide (i ≤ j))) M := by simp [oLe, oI]
@[simp] theorem x_gt {i j : Int} : oGt (.d (.int i)) (.d (.int j)) M Q = Q (.bl (decide (j < i))) M := by simp [oGt, oI]
@[simp] theorem x_ge {i j : Int} : oGe (.d (.int i)) (.d (.int j)) M Q = Q (.bl (decide (j ≤ i))) M := by simp [oGe, oI]
@[simp] theorem x_now {d : PyData} : now (.d d) M = some d := rfl
theorem x_eq {a b : PyData} {n : Bool} (h1 : now x M = some a) (h2 : now y M = some b) (s1 : SeqAt.shaped a = true) (s2 : SeqAt.shaped b = true) (no : ∀ z, a ≠ .str z) : oEq n x y M Q = Q (.bl (if n then !PyData.eqv a b else PyData.eqv a b)) M := by
  unfold oEq
  split
  · cases h1
    exact absurd rfl (no _)
  · rw [h1, h2]
    simp [s1, s2]
@[simp] theorem x_eqi {i j : Int} {n : Bool} : oEq n (.d (.int i)) (.d (.int j)) M Q = Q (.bl (if n then !decide (i = j) else decide (i = j))) M := by
  rw [x_eq (a := .int i) (b := .int j) rfl rfl rfl rfl fun _ z => nomatch z]
  rfl
@[simp] theorem x_eqs {a b : Str} {n : Bool} : oEq n (.d (.str a)) (.d (.str b)) M Q = Q (.bl (if n then !decide (a = b) else decide (a = b))) M := rfl
@[simp] theorem x_test : mTest m τ M Q' = m τ M fun x M1 => ∃ k, x = .d (.bool k) ∧ Q' k M1 := rfl
@[simp] theorem x_band {t u : Mb} {R : Bool → Mem → Prop} : bAnd t u τ M R = t τ M fun b M1 => if b = true then u τ M1 R else R false M1 := rfl
@[simp] theorem x_bor {t u : Mb} {R : Bool → Mem → Prop} : bOr t u τ M R = t τ M fun b M1 => if b = true then R true M1 else u τ M1 R := rfl
@[simp] theorem x_bnot {t : Mb} {R : Bool → Mem → Prop} : bNot t τ M R = t τ M fun b M1 => R (!b) M1 := rfl
@[simp] theorem x_byes {R : Bool → Mem → Prop} : bYes τ M R = R true M := rfl
@[simp] theorem x_ite {c : Mb} : mIte c m r τ M Q = c τ M fun b M1 => if b = true then m τ M1 Q else r τ M1 Q := rfl
@[simp] theorem x_chain {a b c : Me} : mChain f g a b c τ M Q = a τ M fun a M1 => b τ M1 fun b M2 => f a b M2 fun t M3 => match t with
  | .d (.bool true) => c τ M3 fun c M4 => g b c M4 Q
  | .d (.bool false) => Q (.bl false) M3
  | _ => False := rfl
@[simp] theorem x_mand : mAnd m r τ M Q = m τ M fun t M1 => match t with
  | .d (.bool true) => r τ M1 Q
  | .d (.bool false) => Q (.bl false) M1
  | _ => False := rfl
@[simp] theorem x_mor : mOr m r τ M Q = m τ M fun t M1 => match t with
  | .d (.bool true) => Q (.bl true) M1
  | .d (.bool false) => r τ M1 Q
  | _ => False := rfl
@[simp] theorem x_mnot : mNot m τ M Q = m τ M fun t M1 => match t with
  | .d (.bool b) => Q (.bl (!b)) M1
  | _ => False := rfl
variable {R : List T → Mem → Prop} {a : Ma}
@[simp] theorem x_anil : aNil τ M R = R [] M := rfl
@[simp] theorem x_acons : aCons m a τ M R = m τ M fun x M1 => a τ M1 fun xs M2 => R (x :: xs) M2 := rfl
@[simp] theorem x_dat0 : datas [] = some [] := rfl
@[simp] theorem x_dat1 {d : PyData} {l : List T} : datas (.d d :: l) = (datas l).map (d :: ·) := rfl
@[simp] theorem x_tup : mTup a τ M Q = a τ M fun ts M1 => match datas ts with
  | some ds => ds.length ≤ sizeLine ∧ Q (.tup ds) M1
  | none => False := rfl
@[simp] theorem x_lst : mLst a τ M Q = a τ M fun ts M1 => match datas ts with
  | some ds => ds.length ≤ sizeLine ∧ Q (.lst ds) M1
  | none => False := rfl
@[simp] theorem x_newL : mNewL a τ M Q = a τ M fun ts M1 => match datas ts with
  | some ds => ds.length ≤ sizeLine ∧ Q (.lr M1.L.length) { M1 with L := M1.L ++ [some ds] }
  | none => False := rfl
@[simp] theorem x_frz : mFrz m τ M Q = m τ M fun t M1 => match t with
  | .lr i => (match M1.L[i]? with
    | some (some ds) => Q (.lst ds) { M1 with L := M1.L.set i none }
    | _ => False)
  | t => Q t M1 := rfl
@[simp] theorem x_ixl {l : List PyData} {k : Int} : oIx (.d (.list l)) (.d (.int k)) M Q = ∃ t, atI l k = some t ∧ Q (.d t) M := rfl
@[simp] theorem x_ixt {l : List PyData} {k : Int} : oIx (.d (.tuple l)) (.d (.int k)) M Q = ∃ t, atI l k = some t ∧ Q (.d t) M := rfl
@[simp] theorem x_ixL {k : Int} : oIx (.lr i) (.d (.int k)) M Q = (match M.L[i]? with
    | some (some xs) => ∃ t, atI xs k = some t ∧ Q (.d t) M
    | _ => False) := rfl
@[simp] theorem x_ixD {k : Int} : oIx (.mr i) (.d (.int k)) M Q = (match M.D[i]? with
    | some (.lst ts) => ∃ t, atI ts k = some t ∧ Q t M
    | _ => False) := rfl
@[simp] theorem x_dget {s : Str} : oDGet (.mr i) (.d (.str s)) M Q = (match M.D[i]? with
    | some (.dct kvs) => ∃ t, lookT kvs (.inr s) = some t ∧ Q t M
    | _ => False) := rfl
@[simp] theorem x_sl {lo hi : Mo} : mSl m lo hi τ M Q = m τ M fun x M1 => lo τ M1 fun l M2 => hi τ M2 fun u M3 => oSl x l u M3 Q := rfl
@[simp] theorem x_onone {P : Option Int → Mem → Prop} : oNone τ M P = P none M := rfl
@[simp] theorem x_opart {P : Option Int → Mem → Prop} : oPart m τ M P = m τ M fun t M1 => match t with
  | .d (.int i) => P (some i) M1
  | _ => False := rfl
@[simp] theorem x_slscr {ns : List Int} {lo hi : Option Int} : oSl (.scr ns) lo hi M Q = Q (.lst ((cutT ns lo hi).map .int)) M := rfl
@[simp] theorem x_sltup {ns : List PyData} {lo hi : Option Int} : oSl (.d (.tuple ns)) lo hi M Q = Q (.tup (cutT ns lo hi)) M := rfl
@[simp] theorem x_sllst {ns : List PyData} {lo hi : Option Int} : oSl (.d (.list ns)) lo hi M Q = Q (.lst (cutT ns lo hi)) M := rfl
@[simp] theorem x_call {f : FA} : mCall f a τ M Q = a τ M fun ts M1 => f ts M1 Q := rfl
@[simp] theorem x_callk {g : {α : Type} → List α → List α} {f : FA} : mCallK g n f a τ M Q = a τ M fun ts M1 => ts.length = n ∧ f (g ts) M1 Q := rfl
@[simp] theorem x_def {d : FD} {ts : List T} : fDef d ts M Q = ((∀ t ∈ ts, noL t = true) ∧ d ts M.D fun t D' => Q t { M with D := D' }) := rfl
@[simp] theorem x_noL1 {d : PyData} : noL (.d d) = true := rfl
@[simp] theorem x_noL2 : noL (.mr i) = true := rfl
@[simp] theorem x_noL3 {ns : List Int} : noL (.scr ns) = true := rfl
@[simp] theorem x_int {k : Int} : fInt [.d (.int k)] M Q = Q (.int k) M := rfl
@[simp] theorem x_intb {k : Bool} : fInt [.d (.bool k)] M Q = Q (.int (if k then 1 else 0)) M := rfl
@[simp] theorem x_abs {k : Int} : fAbs [.d (.int k)] M Q = Q (.int (if k < 0 then -k else k)) M := rfl
@[simp] theorem x_max2 {k l : Int} : fMax [.d (.int k), .d (.int l)] M Q = Q (.int (if l > k then l else k)) M := rfl
@[simp] theorem x_min2 {k l : Int} : fMin [.d (.int k), .d (.int l)] M Q = Q (.int (if l < k then l else k)) M := rfl
@[simp] theorem x_lenl {l : List PyData} : fLen [.d (.list l)] M Q = Q (.int l.length) M := rfl
@[simp] theorem x_lent {l : List PyData} : fLen [.d (.tuple l)] M Q = Q (.int l.length) M := rfl
@[simp] theorem x_lens {ns : List Int} : fLen [.scr ns] M Q = Q (.int ns.length) M := by
  show Q (.int ((ns.map PyData.int).length : Nat)) M = _
  rw [List.length_map]
@[simp] theorem x_tupl {l : List PyData} : fTuple [.d (.list l)] M Q = Q (.tup l) M := rfl
@[simp] theorem x_tupt {l : List PyData} : fTuple [.d (.tuple l)] M Q = Q (.tup l) M := rfl
@[simp] theorem x_tupL : fTuple [.lr i] { D := D, L := L } Q = (match L[i]? with
    | some (some xs) => Q (.tup xs) { D := D, L := L }
    | _ => False) := by
  unfold fTuple now
  cases h : L[i]? with
  | none => simp [h]
  | some o => cases o <;> simp [h]
@[simp] theorem x_repr {d : PyData} : fRepr [.d d] M Q = (OkShow d ∧ Q (.str d.shown) M) := rfl
@[simp] theorem x_meth {f : T → FA} : mMeth f m a τ M Q = m τ M fun x M1 => isL x M1 ∧ a τ M1 fun ts M2 => f x ts M2 Q := rfl
@[simp] theorem x_meth0 {f : T → FA} : mMeth0 f m τ M Q = m τ M fun x M1 => isL x M1 ∧ f x [] M1 Q := rfl
@[simp] theorem x_isL : isL (.lr i) M = ∃ ds, M.L[i]? = some (some ds) := rfl
@[simp] theorem x_isD : isL (.mr i) M = ∃ ts, M.D[i]? = some (.lst ts) := rfl
@[simp] theorem x_appL {z : PyData} : fApp (.lr i) [.d z] M Q = (match M.L[i]? with
    | some (some ds) => ds.length < sizeLine ∧ Q .non { M with L := M.L.set i (some (ds ++ [z])) }
    | _ => False) := rfl
@[simp] theorem x_appD {t : T} : fApp (.mr i) [t] M Q = (match M.D[i]? with
    | some (.lst us) => noL t = true ∧ us.length < sizeLine ∧ Q .non { M with D := M.D.set i (.lst (us ++ [t])) }
    | _ => False) := rfl
@[simp] theorem x_popD : fPop (.mr i) [] M Q = (match M.D[i]? with
    | some (.lst us) => ∃ t, us[us.length - 1]? = some t ∧ Q t { M with D := M.D.set i (.lst us.dropLast) }
    | _ => False) := rfl
@[simp] theorem x_popL : fPop (.lr i) [] M Q = (match M.L[i]? with
    | some (some ds) => ∃ z, ds[ds.length - 1]? = some z ∧ Q (.d z) { M with L := M.L.set i (some ds.dropLast) }
    | _ => False) := rfl
variable {s t : Ms}
@[simp] theorem x_next : mNext E τ M = E.nx τ M := rfl
@[simp] theorem x_drop : mDrop m E τ M = m τ M fun _ M1 => E.nx τ M1 := rfl
@[simp] theorem x_ret : mRet m E τ M = m τ M E.rt := rfl
@[simp] theorem x_if {c : Mb} : mIf c s t E τ M = c τ M fun b M1 => if b = true then s E τ M1 else t E τ M1 := rfl
@[simp] theorem x_set : mSet i m E τ M = m τ M fun t M1 => E.nx (τ.set i (some t)) M1 := rfl
@[simp] theorem x_asg {g : Mg} : mAsg m g E τ M = m τ M fun t M1 => g t τ M1 E.nx := rfl
@[simp] theorem x_par : mPar i j a E τ M = a τ M fun ts M1 => match ts with
  | [t, u] => E.nx ((τ.set i (some t)).set j (some u)) M1
  | _ => False := rfl
@[simp] theorem x_dput {d k v : Me} : mDPut d k v E τ M = v τ M fun t M1 => d τ M1 fun x M2 => k τ M2 fun y M3 => match x, keyOf y with
  | .mr i, some kk => (match M3.D[i]? with
    | some (.dct kvs) => noL t = true ∧ kvs.length < sizeLine ∧ E.nx τ { M3 with D := M3.D.set i (.dct (putT kvs kk t)) }
    | _ => False)
  | _, _ => False := rfl
@[simp] theorem x_lput {d k v : Me} : mLPut d k v E τ M = v τ M fun t M1 => d τ M1 fun x M2 => k τ M2 fun y M3 => match x, y, t with
  | .lr i, .d (.int j), .d z => (match M3.L[i]? with
    | some (some ds) => ∃ n, ixN ds.length j = some n ∧ E.nx τ { M3 with L := M3.L.set i (some (ds.set n z)) }
    | _ => False)
  | _, _, _ => False := rfl
@[simp] theorem x_key {s : Str} : keyOf (.d (.str s)) = some (.inr s) := rfl
variable {P : En → Mem → Prop} {mi : Mi} {mg : Mg}
@[simp] theorem x_gn {t : T} : gN i t τ M P = P (τ.set i (some t)) M := rfl
@[simp] theorem x_gtu {r : Mgs} {xs : List PyData} : gTu n r (.d (.tuple xs)) τ M P = (xs.length = n ∧ r xs τ M P) := rfl
@[simp] theorem x_gtw {r : Mgs} {xs : List PyData} : gTu n r (.wt xs) τ M P = (xs.length = n ∧ r xs τ M P) := rfl
@[simp] theorem x_gsn {xs : List PyData} : gsNil xs τ M P = (xs = [] ∧ P τ M) := rfl
@[simp] theorem x_gsc {r : Mgs} {d : PyData} {xs : List PyData} : gsCons mg r (d :: xs) τ M P = mg (.d d) τ M fun τ1 M1 => r xs τ1 M1 P := rfl
@[simp] theorem x_iseq {R : List T → Mem → Prop} : iSeq m τ M R = m τ M fun t M1 => match t with
  | .d (.list xs) => R (xs.map T.d) M1
  | .d (.tuple xs) => R (xs.map T.d) M1
  | .scr ns => R (ns.map T.int) M1
  | _ => False := rfl
@[simp] theorem x_irange {R : List T → Mem → Prop} : iRange a τ M R = a τ M fun ts M1 => match ts with
  | [.d (.int j)] => (-(2 ^ 62) ≤ j ∧ j < 2 ^ 62) ∧ R (rangeT j.toNat) M1
  | _ => False := rfl
theorem w_seq (h : s { E with nx := t E } τ M) : mSeq s t E τ M := h
theorem w_for (h : mi τ M fun ts M1 => goFor mg s E ts τ M1) : mFor mi mg s E τ M := h
theorem w_if {c : Mb} (h : c τ M fun b M1 => if b = true then s E τ M1 else t E τ M1) : mIf c s t E τ M := h
theorem x_forn : goFor mg s E [] τ M = E.nx τ M := rfl
theorem x_forc {t : T} {ts : List T} : goFor mg s E (t :: ts) τ M = mg t τ M fun τ1 M1 => s { E with nx := goFor mg s E ts, ct := goFor mg s E ts, bk := E.nx } τ1 M1 := rfl
theorem x_lcc {c : Mb} {τ0 : En} {acc : List PyData} {R : List PyData → Mem → Prop} {t : T} {ts : List T} : goLc mg c m τ0 R (t :: ts) acc M = mg t τ0 M fun τ1 M1 => c τ1 M1 fun k M2 => if k = true then m τ1 M2 fun y M3 => (match y with
      | .d z => acc.length < sizeLine ∧ goLc mg c m τ0 R ts (acc ++ [z]) M3
      | _ => False) else goLc mg c m τ0 R ts acc M2 := by
  rw [goLc] <;> rfl
end
end L3
set_option Elab.async false
set_option linter.all false
set_option maxRecDepth 100000
namespace Sh
open PySem PySem.Spec L2 L3
abbrev b__law_draw_0 : Ms := (mDrop (mMeth fApp (mVar 2) (aCons (mOp oDiv (mVar 3) (mVar 1)) aNil)))
abbrev b__law_draw_1 : Ms := (mRet (mOp oMod (mCall fInt (aCons (mVar 3) aNil)) (mVar 1)))
abbrev b__law_draw_2 : Ms := (mSeq (mIf (mTest (mOp oGe (mVar 3) (mVar 1))) b__law_draw_0 mNext) b__law_draw_1)
abbrev b__law_draw_3 : Ms := (mSeq (mSet 3 (mMeth0 fPop (mVar 2))) b__law_draw_2)
abbrev b__law_draw_4 : Ms := (mSet 6 (mOp oMod (mCall fInt (aCons (mOp oAdd (mOp oMul (mVar 6) (mVar 6)) (mOp oMul (mOp oDGet (mVar 0) (mC (.str "stamp"))) (mOp oAdd (mVar 4) (mVar 7)))) aNil)) (mC (.int 4294967279))))
abbrev b__law_draw_5 : Ms := (mRet (mOp oMod (mCall fInt (aCons (mOp oDiv (mVar 6) (mC (.int 512))) aNil)) (mVar 1)))
abbrev b__law_draw_6 : Ms := (mSeq (mFor (iRange (aCons (mC (.int 2)) aNil)) (gN 7) b__law_draw_4) b__law_draw_5)
abbrev b__law_draw_7 : Ms := (mSeq (mSet 6 (mOp oMod (mCall fInt (aCons (mOp oAdd (mOp oAdd (mOp oMul (mOp oIx (mVar 5) (mOp oMod (mCall fInt (aCons (mOp oMul (mVar 4) (mC (.int 7))) aNil)) (mCall fLen (aCons (mVar 5) aNil)))) (mC (.int 2246822519))) (mOp oDGet (mVar 0) (mC (.str "stamp")))) (mOp oMul (mVar 4) (mC (.int 3266489917)))) aNil)) (mC (.int 4294967291)))) b__law_draw_6)
abbrev b__law_draw_8 : Ms := (mSeq (mPar 4 5 (aCons (mOp oDGet (mVar 0) (mC (.str "count"))) (aCons (mOp oDGet (mVar 0) (mC (.str "cells"))) aNil))) b__law_draw_7)
abbrev b__law_draw_9 : Ms := (mSeq (mDPut (mVar 0) (mC (.str "count")) (mOp oAdd (mOp oDGet (mVar 0) (mC (.str "count"))) (mC (.int 1)))) b__law_draw_8)
abbrev b__law_draw_10 : Ms := (mSeq (mIf (bAnd (mTest (mOp (oEq true) (mVar 2) (mLst aNil))) (mTest (mOp oGt (mVar 1) (mC (.int 1))))) b__law_draw_3 mNext) b__law_draw_9)
abbrev b__law_draw_11 : Ms := (mSeq (mSet 2 (mOp oDGet (mVar 0) (mC (.str "deep")))) b__law_draw_10)
abbrev b__law_draw : Ms := b__law_draw_11
def d__law_draw : FD := mDef 2 8 b__law_draw
abbrev b__law_pick_0 : Ms := (mRet (mOp oIx (mVar 1) (mCall (fDef d__law_draw) (aCons (mVar 0) (aCons (mCall fLen (aCons (mVar 1) aNil)) aNil)))))
abbrev b__law_pick : Ms := b__law_pick_0
def d__law_pick : FD := mDef 2 2 b__law_pick
end Sh
set_option Elab.async false
set_option linter.all false
set_option maxRecDepth 100000
namespace L3
open PySem PySem.Spec L2
def isNonT : T → Bool
  | .d .none => true
  | .q .non => true
  | _ => false
def oIsN : F2 := fun x y M Q => y = .d .none ∧ Q (.bl (isNonT x)) M
def oNotN : F2 := fun x y M Q => y = .d .none ∧ Q (.bl (!isNonT x)) M
section
variable {X : Cx} {a b : Expr} {ma mb : Me} {pos : Pos}
end
@[simp] theorem x_isN {x : T} {M : Mem} {Q : Kt} : oIsN x (.d .none) M Q = Q (.bl (isNonT x)) M := by simp [oIsN]
@[simp] theorem x_notN {x : T} {M : Mem} {Q : Kt} : oNotN x (.d .none) M Q = Q (.bl (!isNonT x)) M := by simp [oNotN]
@[simp] theorem isNonT_n : isNonT (.d .none) = true := rfl
@[simp] theorem isNonT_i {i : Int} : isNonT (.d (.int i)) = false := rfl
@[simp] theorem isNonT_t {l : List PyData} : isNonT (.d (.tuple l)) = false := rfl
@[simp] theorem isNonT_l {l : List PyData} : isNonT (.d (.list l)) = false := rfl
end L3
set_option Elab.async false
set_option linter.all false
set_option maxRecDepth 100000
namespace L3
open PySem PySem.Spec L2
section
variable {X : Cx} {pn : List (Addr × Obj)} {sg : L2.St} {hp : Hp} {sh : Shared}
end
section
variable {X : Cx} {pn : List (Addr × Obj)} {sg : L2.St} {hp : Hp} {sh : Shared} {elts : List Expr} {kk : Nat} {tpos : Pos}
end
end L3
set_option Elab.async false
set_option linter.all false
set_option maxRecDepth 100000
namespace L3
open PySem PySem.Spec L2
def enumT (xs : List PyData) : List T := (List.range xs.length).map fun (i : Nat) => T.wt [.int (i : Int), xs.getD i .none]
def zipT (xs ys : List PyData) : List T := (List.range (min xs.length ys.length)).map fun (i : Nat) => T.wt [xs.getD i .none, ys.getD i .none]
def seqOf : T → Option (List PyData)
  | .d (.list xs) => some xs
  | .d (.tuple xs) => some xs
  | _ => none
def iEnum (r : Ma) : Mi := fun τ M Q => r τ M fun ts M1 => match ts with
  | [t] => (match seqOf t with
    | some xs => Q (enumT xs) M1
    | none => False)
  | _ => False
def iZip2 (r : Ma) : Mi := fun τ M Q => r τ M fun ts M1 => match ts with
  | [t, u] => (match seqOf t, seqOf u with
    | some xs, some ys => Q (zipT xs ys) M1
    | _, _ => False)
  | _ => False
section
open PyProof.Rows HT
variable {X : Cx} {e e2 : Expr} {mr : Ma} {p pos tpos : Pos} {elts : List Expr} {kk : Nat}
end
variable {τ : En} {M : Mem} {a : Ma}
@[simp] theorem x_seql {xs : List PyData} : seqOf (.d (.list xs)) = some xs := rfl
@[simp] theorem x_seqt {xs : List PyData} : seqOf (.d (.tuple xs)) = some xs := rfl
@[simp] theorem x_ienum {R : List T → Mem → Prop} : iEnum a τ M R = a τ M fun ts M1 => match ts with
  | [t] => (match seqOf t with
    | some xs => R (enumT xs) M1
    | none => False)
  | _ => False := rfl
@[simp] theorem x_izip2 {R : List T → Mem → Prop} : iZip2 a τ M R = a τ M fun ts M1 => match ts with
  | [t, u] => (match seqOf t, seqOf u with
    | some xs, some ys => R (zipT xs ys) M1
    | _, _ => False)
  | _ => False := rfl
end L3
set_option Elab.async false
set_option linter.all false
set_option maxRecDepth 100000
namespace L3
open PySem PySem.Spec L2
def fPopAt (x : T) : FA := fun ts M Q => match x, ts with
  | .lr i, [.d (.int j)] => (match M.L[i]? with
    | some (some ds) => (0 ≤ j ∧ j < 2 ^ 63 ∧ j.toNat < ds.length) ∧ ∀ z, ds[j.toNat]? = some z → Q (.d z) { M with L := M.L.set i (some (ds.eraseIdx j.toNat)) }
    | _ => False)
  | _, _ => False
section
variable {X : Cx}
end
def CBig (i j : Int) : Prop := i.natAbs < 2 ^ 300 ∧ j.natAbs < 2 ^ 300
def oMulW : F2 := oI CBig fun i j => .int (i * j)
theorem opr_mulW {X : Cx} : OpR X (binaryOp .Mult) (L2.rI CBig fun i j => .int (i * j)) := by
  intro pn sh sg hp x y v u Q iv rx ry ⟨i, j, e1, e2, c, q⟩
  exact op_mulW pn sh sg hp x y v u Q iv rx ry ⟨i, j, e1, e2, wide_mul c.1 c.2 (by omega) (by omega) (by omega), q⟩
theorem me_mulW {X : Cx} {a b : Expr} {ma mb : Me} {pos : Pos} (ha : ME X a ma) (hb : ME X b mb) : ME X (.BinOp a .Mult b pos) (mOp oMulW ma mb) := me_op opr_mulW (opl_I fun _ _ _ => .int _) ha hb
def oRepT : F2 := fun x y M Q => match x, y with
  | .d (.tuple xs), .d (.int j) => (xs ≠ [] ∧ 2 ≤ j ∧ j ≤ 1000 ∧ xs.length ≤ 1000) ∧ Q (.tup (List.replicate j.toNat xs).flatten) M
  | _, _ => False
variable {M : Mem} {Q : Kt} {D : List Cell} {L : List (Option (List PyData))} {i : Nat}
@[simp] theorem x_mulW {i j : Int} : oMulW (.d (.int i)) (.d (.int j)) M Q = (CBig i j ∧ Q (.int (i * j)) M) := rfl
@[simp] theorem x_repT {xs : List PyData} {j : Int} : oRepT (.d (.tuple xs)) (.d (.int j)) M Q = ((xs ≠ [] ∧ 2 ≤ j ∧ j ≤ 1000 ∧ xs.length ≤ 1000) ∧ Q (.tup (List.replicate j.toNat xs).flatten) M) := rfl
@[simp] theorem x_popAt {j : Int} : fPopAt (.lr i) [.d (.int j)] M Q = (match M.L[i]? with
    | some (some ds) => (0 ≤ j ∧ j < 2 ^ 63 ∧ j.toNat < ds.length) ∧ ∀ z, ds[j.toNat]? = some z → Q (.d z) { M with L := M.L.set i (some (ds.eraseIdx j.toNat)) }
    | _ => False) := rfl
section
open PyProof.Rows
variable {prog : Program} {w : World} {A : Around} {E : Value → Shared → Prop} {s : Shared} {l : Addr}
end
section
variable {X : Cx} {e : Expr} {es : List Expr} {mr : Ma} {p pos : Pos}
end
end L3
set_option Elab.async false
set_option linter.all false
set_option maxRecDepth 100000
namespace Sh
open PySem PySem.Spec L2 L3
def rk (cells : List Int) (stamp count : Int) : List (Key × T) := [(.inr "deep", .mr 0), (.inr "cells", .lst (cells.map .int)), (.inr "stamp", .int stamp), (.inr "count", .int count)]
def rd (deep cells : List Int) (stamp count : Int) : List Cell := [.lst (deep.map T.int), .dct (rk cells stamp count)]
@[simp] theorem rk_deep {c : List Int} {s n : Int} : lookT (rk c s n) (.inr "deep") = some (.mr 0) := by
  unfold rk lookT
  rfl
@[simp] theorem rk_cells {c : List Int} {s n : Int} : lookT (rk c s n) (.inr "cells") = some (.lst (c.map .int)) := by
  unfold rk lookT
  rfl
@[simp] theorem rk_stamp {c : List Int} {s n : Int} : lookT (rk c s n) (.inr "stamp") = some (.int s) := by
  unfold rk lookT
  rfl
@[simp] theorem rk_count {c : List Int} {s n : Int} : lookT (rk c s n) (.inr "count") = some (.int n) := by
  unfold rk lookT
  rfl
@[simp] theorem rk_put {c : List Int} {s n m : Int} : putT (rk c s n) (.inr "count") (.int m) = rk c s m := by
  unfold rk putT
  rfl
@[simp] theorem rk_len {c : List Int} {s n : Int} : (rk c s n).length = 4 := rfl
structure RI (D : List Cell) : Prop where
  ex : ∃ (deep cells : List Int) (stamp count : Int), D = rd deep cells stamp count ∧ cells ≠ [] ∧ cells.length ≤ 64 ∧ deep.length ≤ 64 ∧ 0 ≤ stamp ∧ stamp < 4294967291 ∧ 0 ≤ count
theorem sz4 : (4 : Nat) < sizeLine := by rw [sizeLine_eq]; decide
theorem sz64 {n : Nat} (h : n ≤ 100000) : n < sizeLine := by rw [sizeLine_eq]; omega
theorem sz64' {n : Nat} (h : n ≤ 100000) : n ≤ sizeLine := by rw [sizeLine_eq]; omega
theorem datas_ints : ∀ l : List Int, datas (l.map T.int) = some (l.map PyData.int)
  | [] => rfl
  | x :: l => by
    show (datas (l.map T.int)).map (PyData.int x :: ·) = _
    rw [datas_ints l]
    rfl
theorem shaped_ints (l : List Int) : SeqAt.shaped (.list (l.map .int)) = true := by
  have h1 : ∀ l : List Int, PyData.canLayAll0 (l.map .int) = true := by
    intro l
    induction l with
    | nil => rfl
    | cons x l ih => simp [PyData.canLayAll0, PyData.canLay0, ih]
  have h2 : ∀ l : List Int, PyData.depthAll (l.map .int) ≤ 1 := by
    intro l
    induction l with
    | nil => simp [PyData.depthAll]
    | cons x l ih =>
      simp [PyData.depthAll, PyData.depth]
      omega
  unfold SeqAt.shaped
  rw [Bool.and_eq_true]
  refine ⟨by simp [PyData.canLay0, h1], decide_eq_true ?_⟩
  have := h2 l
  simp only [PyData.depth]
  omega
theorem eqv_nil (l : List PyData) : PyData.eqv (.list l) (.list []) = l.isEmpty := by
  cases l <;> simp [PyData.eqv, PyData.eqvAll]
theorem atI_mod {l : List Int} {i : Int} (h0 : 0 ≤ i) (h1 : i < l.length) : ∃ v, atI (l.map PyData.int) i = some (.int v) := by
  obtain ⟨n, rfl⟩ : ∃ n : Nat, i = n := ⟨i.toNat, by omega⟩
  have hn : n < l.length := by omega
  exact ⟨l[n], atI_nat (by rw [List.getElem?_map, List.getElem?_eq_getElem hn]; rfl)⟩
theorem he_nil {deep : List Int} {X : Cell} {n : Bool} {Q : Kt} : oEq n (.mr 0) (.d (.list [])) ⟨[.lst (deep.map T.int), X], []⟩ Q = Q (.bl (if n then !deep.isEmpty else deep.isEmpty)) ⟨[.lst (deep.map T.int), X], []⟩ := by
  rw [x_eq (a := .list (deep.map .int)) (b := .list []) ?_ rfl (shaped_ints _) (shaped_ints []) (fun _ z => nomatch z), eqv_nil]
  · cases deep <;> rfl
  · simp [now, datas_ints]
theorem rang {i j : Int} (h : 0 < j) : 0 ≤ i % j ∧ i % j < j := ⟨Int.emod_nonneg _ (by omega), Int.emod_lt_of_pos _ h⟩
/-- the draw's second half -/
theorem draw_tail {deep cells : List Int} {stamp count many : Int} {Q : T → List Cell → Prop} {t3 : Option T} (hc : cells ≠ []) (hcl : cells.length ≤ 64) (hdl : deep.length ≤ 64) (hs : 0 ≤ stamp) (hs2 : stamp < 4294967291) (hn : 0 ≤ count) (h1 : 1 ≤ many) (h2 : many < 18446744073709551616)
    (q : ∀ n D', 0 ≤ n → n < many → RI D' → Q (.int n) D') : b__law_draw_9 { nx := fun _ M => Q .non M.D, rt := fun t M => noL t = true ∧ Q t M.D } [some (.mr 1), some (.int many), some (.mr 0), t3, none, none, none, none] ⟨rd deep cells stamp count, []⟩ := by
  have hl : 0 < cells.length := List.length_pos_iff.mpr hc
  refine w_seq ?_
  simp [rd, sz4]
  refine w_seq ?_
  simp
  refine w_seq ?_
  have hr := rang (i := (count + 1) * 7) (j := cells.length) (by omega)
  obtain ⟨v, hv⟩ := atI_mod (l := cells) (i := (count + 1) * 7 % cells.length) hr.1 hr.2
  simp
  refine ⟨by unfold CMul; omega, hl, _, hv, ?_⟩
  simp
  refine ⟨by unfold CMul; omega, by unfold CMul; omega, ?_⟩
  refine w_seq (w_for ?_)
  simp [rangeT, List.range_succ]
  have hm := rang (i := v * 2246822519 + stamp + (count + 1) * 3266489917) (j := 4294967291) (by omega)
  rw [x_forc]
  simp
  refine ⟨by unfold CMul; omega, by unfold CMul; omega, ?_⟩
  rw [x_forc]
  simp
  have hm2 := rang (i := (v * 2246822519 + stamp + (count + 1) * 3266489917) % 4294967291 * ((v * 2246822519 + stamp + (count + 1) * 3266489917) % 4294967291) + stamp * (count + 1)) (j := 4294967279) (by omega)
  refine ⟨by unfold CMul; omega, by unfold CMul; omega, ?_⟩
  rw [x_forn]
  simp
  refine ⟨by unfold CDv; omega, by omega, ?_⟩
  have hf := fun x : Int => rang (i := x) (j := many) (by omega)
  exact q _ _ (hf _).1 (hf _).2 ⟨deep, cells, stamp, count + 1, rfl, hc, hcl, hdl, hs, hs2, by omega⟩
theorem sp_draw {D : List Cell} {many : Int} {Q : T → List Cell → Prop} (hD : RI D) (h1 : 1 ≤ many) (h2 : many < 18446744073709551616) (q : ∀ n D', 0 ≤ n → n < many → RI D' → Q (.int n) D') : d__law_draw [.mr 1, .int many] D Q := by
  obtain ⟨deep, cells, stamp, count, rfl, hc, hcl, hdl, hs, hs2, hn⟩ := hD.ex
  refine ⟨rfl, ?_⟩
  have ht := fun (t3 : Option T) => draw_tail (t3 := t3) hc hcl hdl hs hs2 hn h1 h2 q
  refine w_seq ?_
  simp [rd]
  refine w_seq (w_if ?_)
  simp [he_nil]
  by_cases hd : deep = []
  · subst hd
    exact .inl ⟨rfl, ht none⟩
  · refine .inr ⟨hd, ?_⟩
    by_cases hm : many ≤ 1
    · exact .inl ⟨hm, ht none⟩
    · refine .inr ⟨by omega, ?_⟩
      obtain ⟨d0, x, rfl⟩ : ∃ d0 x, deep = d0 ++ [x] := ⟨deep.dropLast, deep.getLast hd, (List.dropLast_concat_getLast hd).symm⟩
      refine w_seq ?_
      simp
      refine w_seq (w_if ?_)
      simp
      have hp := fun x : Int => rang (i := x) (j := many) (by omega)
      have hl2 : d0.length + 1 ≤ 64 := by simpa using hdl
      by_cases hx : x < many
      · exact .inl ⟨hx, by omega, q _ _ (hp x).1 (hp x).2 ⟨d0, cells, stamp, count, rfl, hc, hcl, by omega, hs, hs2, hn⟩⟩
      · refine .inr ⟨by omega, by unfold CDv; omega, sz64 (by omega), by omega, q _ _ (hp x).1 (hp x).2 ⟨d0 ++ [x / many], cells, stamp, count, ?_, hc, hcl, by simpa using hl2, hs, hs2, hn⟩⟩
        simp [rd]
end Sh
set_option Elab.async false
set_option linter.all false
set_option maxRecDepth 100000
namespace Sh
open PySem PySem.Spec L2 L3
theorem for_all {g : Mg} {b : Ms} {E : Es} {ts : List T} {τ : En} {M : Mem} (I : Nat → En → Mem → Prop) (h0 : I 0 τ M)
    (step : ∀ (i : Nat) (τ : En) (M : Mem) (t : T) (R : En → Mem → Prop), ts[i]? = some t → I i τ M → (∀ τ' M', I (i + 1) τ' M' → R τ' M') → g t τ M fun τ1 M1 => b { E with nx := R, ct := R, bk := E.nx } τ1 M1)
    (done : ∀ τ M, I ts.length τ M → E.nx τ M) : goFor g b E ts τ M := by
  have key : ∀ (rest : List T) (i : Nat) (τ : En) (M : Mem), ts.drop i = rest → i ≤ ts.length → I i τ M → goFor g b E rest τ M := by
    intro rest
    induction rest with
    | nil =>
      intro i τ M e hi h
      have : i = ts.length := by
        have := congrArg List.length e
        simp at this
        omega
      subst this
      exact done τ M h
    | cons t rest ih =>
      intro i τ M e hi h
      have hlt : i < ts.length := by
        rcases Nat.lt_or_ge i ts.length with q | q
        · exact q
        · rw [List.drop_eq_nil_of_le q] at e; cases e
      rw [drop_at hlt] at e
      obtain ⟨e1, e2⟩ := List.cons.inj e
      rw [x_forc]
      refine step i τ M t _ (by rw [← e1]; exact List.getElem?_eq_getElem hlt) h fun τ' M' h' => ?_
      exact ih (i + 1) τ' M' e2 hlt h'
  exact key ts 0 τ M rfl (Nat.zero_le _) h0
theorem lc_all {g : Mg} {c : Mb} {m : Me} {τ0 : En} {F : List PyData → Mem → Prop} {ts : List T} {M : Mem} (I : Nat → List PyData → Mem → Prop) (h0 : I 0 [] M)
    (step : ∀ (i : Nat) (acc : List PyData) (M : Mem) (t : T) (R : List PyData → Mem → Prop), ts[i]? = some t → I i acc M → (∀ acc' M', I (i + 1) acc' M' → R acc' M') →
      g t τ0 M fun τ1 M1 => c τ1 M1 fun k M2 => if k = true then m τ1 M2 fun y M3 => (match y with | .d z => acc.length < sizeLine ∧ R (acc ++ [z]) M3 | _ => False) else R acc M2)
    (done : ∀ acc M, I ts.length acc M → F acc M) : goLc g c m τ0 F ts [] M := by
  have key : ∀ (rest : List T) (i : Nat) (acc : List PyData) (M : Mem), ts.drop i = rest → i ≤ ts.length → I i acc M → goLc g c m τ0 F rest acc M := by
    intro rest
    induction rest with
    | nil =>
      intro i acc M e hi h
      have : i = ts.length := by
        have := congrArg List.length e
        simp at this
        omega
      subst this
      exact done acc M h
    | cons t rest ih =>
      intro i acc M e hi h
      have hlt : i < ts.length := by
        rcases Nat.lt_or_ge i ts.length with q | q
        · exact q
        · rw [List.drop_eq_nil_of_le q] at e; cases e
      rw [drop_at hlt] at e
      obtain ⟨e1, e2⟩ := List.cons.inj e
      rw [x_lcc]
      exact step i acc M t (fun a m' => goLc g c m τ0 F rest a m') (by rw [← e1]; exact List.getElem?_eq_getElem hlt) h fun a' M' h' => ih (i + 1) a' M' e2 hlt h'
  exact key ts 0 [] M rfl (Nat.zero_le _) h0
theorem cut63 {ns : List Int} (h : ns.length ≤ 63) : cutT ns none (some 63) = ns := by
  unfold cutT
  have h1 : HT.sIx ns.length 0 none = 0 := rfl
  have h2 : HT.sIx ns.length ns.length (some 63) = ns.length := by
    show (if (63 : Int) < 0 then ((63 : Int) + (ns.length : Int)).toNat else min (63 : Int).toNat ns.length) = ns.length
    rw [if_neg (by omega)]
    omega
  rw [h1, h2]
  simp
end Sh
set_option Elab.async false
set_option linter.all false
set_option maxRecDepth 100000
namespace Sh
open PySem PySem.Spec L2 L3
theorem sp_pick {D : List Cell} {xs : List PyData} {Q : T → List Cell → Prop} (hD : RI D) (h1 : xs ≠ []) (h2 : xs.length < 100000) (q : ∀ x D', x ∈ xs → RI D' → Q (.d x) D') : d__law_pick [.mr 1, .lst xs] D Q := by
  have hl : 0 < xs.length := List.length_pos_iff.mpr h1
  refine ⟨rfl, ?_⟩
  try simp
  refine sp_draw hD (by omega) (by omega) fun n D' n0 n1 hD' => ?_
  obtain ⟨k, rfl⟩ : ∃ k : Nat, n = k := ⟨n.toNat, by omega⟩
  have hk : k < xs.length := by omega
  try simp
  exact ⟨_, atI_nat (List.getElem?_eq_getElem hk), q _ _ (List.getElem_mem hk) hD'⟩
/-- the steps that a kind may have -/
def Al (a : Int) : Prop := a = 1 ∨ a = 2 ∨ a = 4 ∨ a = 8 ∨ a = 16 ∨ a = 32 ∨ a = 64
theorem Al.pos {a : Int} (h : Al a) : 1 ≤ a ∧ a ≤ 64 := by unfold Al at h; omega
end Sh
set_option Elab.async false
set_option linter.all false
set_option maxRecDepth 100000
namespace Sh
open PySem PySem.Spec L2 L3
/-- a kind, as data -/
def kd (k : Int × Int) : PyData := .tuple [.int k.1, .int k.2]
def GK (k : Int × Int) : Prop := (1 ≤ k.1 ∧ k.1 ≤ 1000000000000000000000000000000) ∧ Al k.2
structure GB (K : List (Int × Int)) : Prop where
  ne : K ≠ []
  six : K.length ≤ 6
  ok : ∀ k ∈ K, GK k
theorem range_at {n i : Nat} {t : T} (h : (rangeT n)[i]? = some t) : i < n ∧ t = .int (i : Int) := by
  unfold rangeT at h
  rw [List.getElem?_map] at h
  rcases Nat.lt_or_ge i n with q | q
  · rw [List.getElem?_range q] at h
    cases h
    exact ⟨q, rfl⟩
  · rw [List.getElem?_eq_none (by rw [List.length_range]; exact q)] at h
    cases h
end Sh
set_option Elab.async false
set_option linter.all false
set_option maxRecDepth 100000
namespace Sh
open PySem PySem.Spec L2 L3
def rup (n m : Int) : Int := (n + m - 1) / m * m
abbrev Bk6 := List (Int × Int)
def kat (K : Bk6) (i : Nat) : Int × Int := K.getD i (1, 1)
def sfin (K : Bk6) (i : Nat) (e : Int) : Int := rup e (kat K i).2 + (kat K i).1
def rend (K : Bk6) : List Nat → Int → Int
  | [], e => e
  | i :: r, e => rend K r (sfin K i e)
def mx : List Int → Int
  | [] => 0
  | [x] => x
  | x :: y :: r => max x (mx (y :: r))
def als (K : Bk6) (r : List Nat) : List Int := r.map fun i => (kat K i).2
def ix (i : Nat) : PyData := .int (i : Int)
structure GR (K : Bk6) (r : List Nat) : Prop where
  ne : r ≠ []
  hd : r.length ≤ 100
  ok : ∀ i ∈ r, i < K.length
@[simp] theorem at_0 {x y : PyData} : atI [x, y] 0 = some x := rfl
@[simp] theorem at_1 {x y : PyData} : atI [x, y] 1 = some y := rfl
@[simp] theorem at_k0 {k : Int × Int} {M : Mem} {Q : Kt} : oIx (.d (kd k)) (.d (.int 0)) M Q = Q (.int k.1) M := by simp [kd]
@[simp] theorem at_k1 {k : Int × Int} {M : Mem} {Q : Kt} : oIx (.d (kd k)) (.d (.int 1)) M Q = Q (.int k.2) M := by simp [kd]
def whole (K : Bk6) (r : List Nat) : Int := rup (rend K r 0) (mx (als K r))
end Sh
set_option Elab.async false
set_option linter.all false
set_option maxRecDepth 100000
namespace Sh
open PySem PySem.Spec L2 L3
structure Sw (w k : Nat) (d : PyData) : Prop where
  sh : d.showable = true
  nd : d.hasDict = false
  ls : d.leavesShort 62 = true
  wt : d.weight ≤ w
  dp : d.depth ≤ k
structure SwA (w k : Nat) (d : List PyData) : Prop where
  sh : PyData.showableAll d = true
  nd : PyData.hasDictAll d = false
  ls : PyData.leavesShortAll 62 d = true
  wt : PyData.weightAll d ≤ w
  dp : PyData.depthAll d ≤ k
theorem Sw.mono {w k w' k' : Nat} {d : PyData} (h : Sw w k d) (hw : w ≤ w') (hk : k ≤ k') : Sw w' k' d := ⟨h.sh, h.nd, h.ls, Nat.le_trans h.wt hw, Nat.le_trans h.dp hk⟩
theorem SwA.mono {w k w' k' : Nat} {d : List PyData} (h : SwA w k d) (hw : w ≤ w') (hk : k ≤ k') : SwA w' k' d := ⟨h.sh, h.nd, h.ls, Nat.le_trans h.wt hw, Nat.le_trans h.dp hk⟩
theorem Sw.ok {w k : Nat} {d : PyData} (h : Sw w k d) (hw : w ≤ 200000) (hk : k ≤ 100) : OkShow d := by
  refine ⟨h.sh, h.nd, Nat.le_trans h.dp hk, ?_⟩
  have := PyData.shown_le 62 (by omega) d h.ls
  have := h.wt
  rw [sizeLine_eq]
  have : (62 + 2) * d.weight ≤ 64 * 200000 := Nat.mul_le_mul (by omega) (by omega)
  omega
end Sh
set_option Elab.async false
set_option linter.all false
set_option maxRecDepth 100000
namespace Sh
open PySem PySem.Spec L2 L3
end Sh
set_option Elab.async false
set_option linter.all false
set_option maxRecDepth 100000
namespace Sh
open PySem PySem.Spec L2 L3
def rm (K : Bk6) (i : Nat) : Int := rup (kat K i).1 (kat K i).2
def num (N : List Int) (i : Nat) : Int := N.getD i 0
def thr (K : Bk6) (N : List Int) : List Nat := (List.range K.length).filter fun i => decide (0 < num N i)
structure GN (K : Bk6) (N : List Int) : Prop where
  len : N.length = K.length
  ok : ∀ n ∈ N, 0 ≤ n ∧ n ≤ 1000000000000000000000000000000
  pos : ∃ n ∈ N, 0 < n
theorem num_at {N : List Int} {i : Nat} (h : i < N.length) : num N i = N[i] := by
  unfold num
  rw [List.getD_eq_getElem?_getD, List.getElem?_eq_getElem h]
  rfl
theorem GN.gr {K : Bk6} {N : List Int} (g : GN K N) (gb : GB K) : GR K (thr K N) := by
  refine ⟨?_, ?_, fun i hi => ?_⟩
  · obtain ⟨n, hn, h0⟩ := g.pos
    obtain ⟨i, hi, e⟩ := List.getElem_of_mem hn
    intro z
    have h1 := List.filter_eq_nil_iff.mp z i (List.mem_range.mpr (by rw [← g.len]; exact hi))
    rw [num_at hi, e] at h1
    exact h1 (decide_eq_true h0)
  · have h1 := List.length_filter_le (fun i => decide (0 < num N i)) (List.range K.length)
    rw [List.length_range] at h1
    have := gb.six
    unfold thr
    omega
  · exact List.mem_range.mp (List.mem_filter.mp hi).1
end Sh
set_option Elab.async false
set_option linter.all false
set_option maxRecDepth 100000
namespace Sh
open PySem PySem.Spec L2 L3
end Sh
namespace L3
open PySem PySem.Spec L2 PyProof.Rows
def oRepA : F2 := fun x y M Q => match x, y with
  | .d (.tuple xs), .d (.int j) => (xs ≠ [] ∧ 1 ≤ j ∧ j ≤ 1000 ∧ xs.length ≤ 1000) ∧ Q (.tup (List.replicate j.toNat xs).flatten) M
  | _, _ => False
@[simp] theorem x_repA {xs : List PyData} {j : Int} {M : Mem} {Q : Kt} : oRepA (.d (.tuple xs)) (.d (.int j)) M Q = ((xs ≠ [] ∧ 1 ≤ j ∧ j ≤ 1000 ∧ xs.length ≤ 1000) ∧ Q (.tup (List.replicate j.toNat xs).flatten) M) := rfl
end L3
set_option Elab.async false
set_option linter.all false
set_option maxRecDepth 100000
namespace L3
open PySem PySem.Spec L2
section
variable {X : Cx} {e tg : Expr} {m : Me} {pos : Pos} {elt : Expr} {ifs : List Expr} {scope : Scope} {own : List (Str × Nat)} {i : Mi} {g : Mg} {os : List Nat} {mc : Mb}
end
def fPopD (x : T) : FA := fun ts M Q => match x, ts with
  | .mr i, [.d (.int j)] => (match M.D[i]? with
    | some (.lst us) => (0 ≤ j ∧ j < 2 ^ 63 ∧ j.toNat < us.length) ∧ ∀ z, us[j.toNat]? = some z → Q z { M with D := M.D.set i (.lst (us.eraseIdx j.toNat)) }
    | _ => False)
  | _, _ => False
def fInsD (x : T) : FA := fun ts M Q => match x, ts with
  | .mr i, [.d (.int j), t] => (match M.D[i]? with
    | some (.lst us) => (noL t = true ∧ us.length < sizeLine ∧ 0 ≤ j ∧ j < 2 ^ 63) ∧ Q .non { M with D := M.D.set i (.lst (us.take j.toNat ++ [t] ++ us.drop j.toNat)) }
    | _ => False)
  | _, _ => False
section
variable {X : Cx}
end
section
variable {i : Nat} {M : Mem} {Q : Kt} {D : List Cell}
@[simp] theorem x_popDj {j : Int} : fPopD (.mr i) [.d (.int j)] M Q = (match M.D[i]? with
    | some (.lst us) => (0 ≤ j ∧ j < 2 ^ 63 ∧ j.toNat < us.length) ∧ ∀ z, us[j.toNat]? = some z → Q z { M with D := M.D.set i (.lst (us.eraseIdx j.toNat)) }
    | _ => False) := rfl
@[simp] theorem x_insDj {j : Int} {t : T} : fInsD (.mr i) [.d (.int j), t] M Q = (match M.D[i]? with
    | some (.lst us) => (noL t = true ∧ us.length < sizeLine ∧ 0 ≤ j ∧ j < 2 ^ 63) ∧ Q .non { M with D := M.D.set i (.lst (us.take j.toNat ++ [t] ++ us.drop j.toNat)) }
    | _ => False) := rfl
end
section
variable {τ : En} {M : Mem} {E : Es} {d k v : Me} {r : Ma} {Q : Kt}
@[simp] theorem x_lputD : mLPutD d k v E τ M = v τ M fun t M1 => d τ M1 fun x M2 => k τ M2 fun y M3 => match x, y with
  | .mr i, .d (.int j) => (match M3.D[i]? with
    | some (.lst ds) => noL t = true ∧ ∃ n, ixN ds.length j = some n ∧ E.nx τ { M3 with D := M3.D.set i (.lst (ds.set n t)) }
    | _ => False)
  | _, _ => False := rfl
@[simp] theorem x_newD : mNewD r τ M Q = r τ M fun ts M1 => ((∀ t ∈ ts, noL t = true) ∧ ts.length ≤ sizeLine) ∧ Q (.mr M1.D.length) { M1 with D := M1.D ++ [.lst ts] } := rfl
end
def CDvW (i j : Int) : Prop := 0 < j ∧ j.natAbs < 2 ^ 300
def oDivW : F2 := oI CDvW fun i j => .int (i / j)
@[simp] theorem x_divW {i j : Int} {M : Mem} {Q : Kt} : oDivW (.d (.int i)) (.d (.int j)) M Q = (CDvW i j ∧ Q (.int (i / j)) M) := rfl
def mAugI (f : Int → Int → Int) (i : Nat) (m : Me) : Ms := fun E τ M => ∃ t, τ[i]? = some (some t) ∧ m τ M fun u M1 => match t, u with
  | .d (.int a), .d (.int b) => E.nx (τ.set i (some (.int (f a b)))) M1
  | _, _ => False
section
variable {X : Cx} {e : Expr} {m : Me} {pos pos' : Pos} {i : Nat} {x : Str}
end
@[simp] theorem x_augI {f : Int → Int → Int} {i : Nat} {m : Me} {E : Es} {τ : En} {M : Mem} : mAugI f i m E τ M = ∃ t, τ[i]? = some (some t) ∧ m τ M fun u M1 => match t, u with
  | .d (.int a), .d (.int b) => E.nx (τ.set i (some (.int (f a b)))) M1
  | _, _ => False := rfl
def rangeT2 (lo : Int) (n : Nat) : List T := (List.range n).map fun (i : Nat) => T.int (lo + (i : Int))
def iRange2 (r : Ma) : Mi := fun τ M Q => r τ M fun ts M1 => match ts with
  | [.d (.int i), .d (.int j)] => (-(2 ^ 62) ≤ i ∧ i < 2 ^ 62 ∧ -(2 ^ 62) ≤ j ∧ j < 2 ^ 62) ∧ Q (rangeT2 i (j - i).toNat) M1
  | _ => False
theorem mi_range2 {X : Cx} {tg a b : Expr} {pos p : Pos} {mr : Ma} (hg : Gl X "range") (hm : X.mg "range" = none) (ha : MA X [a, b] mr) (hs : starEach [a, b] X.env = [(false, eval a X.env), (false, eval b X.env)] := by rfl) (hs2 : starEach [b] X.env = [(false, eval b X.env)] := by rfl) : MI X tg (.Call (.Name "range" p) [a, b] [] pos) (iRange2 mr) := PI.of (pi_range2 hg hm ha hs hs2) fun σ H R ⟨τ, M, B, Q, h, w, s, k⟩ => by
  refine ⟨τ, M, B, _, h, w, s, fun v t M1 B1 H1 h1 w1 e1 r1 => ?_⟩
  split at h1
  · obtain ⟨v, u, rfl, r, r'⟩ := paired_two r1
    cases r
    cases r'
    rename_i i j
    refine ⟨i, j, rfl, h1.1, k _ M1 B1 H1 _ h1.2 w1 e1 ?_⟩
    unfold WalkT rangeT2
    rw [List.length_map, List.length_range]
    refine walk_range.mono (fun _ _ => trivial) fun k H x H' hi _ y => .inl ⟨y.1, T.int (i + (k : Int)), ?_, ?_⟩
    · rw [List.getElem?_map, List.getElem?_range hi]
      rfl
    · rw [y.2]
      exact .int _
  · exact h1.elim
@[simp] theorem x_irange2 {a : Ma} {τ : En} {M : Mem} {R : List T → Mem → Prop} : iRange2 a τ M R = a τ M fun ts M1 => match ts with
  | [.d (.int i), .d (.int j)] => (-(2 ^ 62) ≤ i ∧ i < 2 ^ 62 ∧ -(2 ^ 62) ≤ j ∧ j < 2 ^ 62) ∧ R (rangeT2 i (j - i).toNat) M1
  | _ => False := rfl
end L3
set_option Elab.async false
set_option linter.all false
set_option maxRecDepth 100000
namespace L3
open PySem PySem.Spec L2
def rgD (n : Int) : List PyData := (List.range n.toNat).map fun (i : Nat) => .int (i : Int)
def mListR (m : Me) : Me := fun τ M Q => m τ M fun t M1 => match t with
  | .d (.int n) => (0 ≤ n ∧ n ≤ 16777216) ∧ Q (.lst (rgD n)) M1
  | _ => False
@[simp] theorem x_listR {m : Me} {τ : En} {M : Mem} {Q : Kt} : mListR m τ M Q = m τ M fun t M1 => match t with
  | .d (.int n) => (0 ≤ n ∧ n ≤ 16777216) ∧ Q (.lst (rgD n)) M1
  | _ => False := rfl
section
open PyProof.Rows
variable {prog : Program} {w : World} {A : Around} {E : Value → Shared → Prop} {s : Shared} {l : Addr}
end
section
variable {X : Cx} {e : Expr} {es : List Expr} {mr : Ma} {p pos : Pos}
end
end L3
set_option Elab.async false
set_option linter.all false
set_option maxRecDepth 100000
namespace L3
open PySem PySem.Spec L2
def oAddL : F2 := fun x y M Q => match x, y with
  | .d (.list a), .d (.list b) => a.length + b.length ≤ sizeLine ∧ Q (.lr M.L.length) { M with L := M.L ++ [some (a ++ b)] }
  | _, _ => False
@[simp] theorem x_addL {a b : List PyData} {M : Mem} {Q : Kt} : oAddL (.d (.list a)) (.d (.list b)) M Q = (a.length + b.length ≤ sizeLine ∧ Q (.lr M.L.length) { M with L := M.L ++ [some (a ++ b)] }) := rfl
end L3
set_option Elab.async false
set_option linter.all false
set_option maxRecDepth 100000
namespace L3
open PySem PySem.Spec L2 PyProof.Rows
def oRepZ : F2 := fun x y M Q => match x, y with
  | .d (.tuple xs), .d (.int j) => (xs ≠ [] ∧ 0 ≤ j ∧ j ≤ 1000 ∧ xs.length ≤ 1000) ∧ Q (.tup (List.replicate j.toNat xs).flatten) M
  | _, _ => False
@[simp] theorem x_repZ {xs : List PyData} {j : Int} {M : Mem} {Q : Kt} : oRepZ (.d (.tuple xs)) (.d (.int j)) M Q = ((xs ≠ [] ∧ 0 ≤ j ∧ j ≤ 1000 ∧ xs.length ≤ 1000) ∧ Q (.tup (List.replicate j.toNat xs).flatten) M) := rfl
end L3
set_option Elab.async false
set_option linter.all false
set_option maxRecDepth 100000
namespace L3
open PySem PySem.Spec L2
section
variable {X : Cx} {e tg : Expr} {m o : Me} {elt : Expr} {ifs : List Expr} {scope : Scope} {own : List (Str × Nat)} {g : Mg} {os : List Nat} {mc : Mb} {pos : Pos}
end
end L3
set_option Elab.async false
set_option linter.all false
set_option maxRecDepth 100000
namespace L3
open PySem PySem.Spec L2
def mDead : Ms := fun _ _ _ => False
@[simp] theorem x_dead {E : Es} {τ : En} {M : Mem} : mDead E τ M = False := rfl
def tyN : PyData → Option String
  | .none => some "NoneType"
  | .bool _ => some "bool"
  | .int _ => some "int"
  | .str _ => some "str"
  | .list _ => some "list"
  | .tuple _ => some "tuple"
  | _ => none
def mIsi (T0 : String) (m : Me) : Me := fun τ M Q => m τ M fun t M1 => match t with
  | .d x => ∃ a r, tyN x = some a ∧ kitB a T0 = some r ∧ Q (.bl r) M1
  | _ => False
@[simp] theorem x_isi {T0 : String} {m : Me} {τ : En} {M : Mem} {Q : Kt} : mIsi T0 m τ M Q = m τ M fun t M1 => match t with
  | .d x => ∃ a r, tyN x = some a ∧ kitB a T0 = some r ∧ Q (.bl r) M1
  | _ => False := rfl
def mSm (f : Str → FA) (o : Me) (r : Ma) : Me := fun τ M Q => o τ M fun x M1 => match x with
  | .d (.str a) => r τ M1 fun ts M2 => f a ts M2 Q
  | _ => False
section
variable {X : Cx} {o e : Expr} {es : List Expr} {mo m : Me} {mr : Ma} {name : Str} {id : String} {apos cpos : Pos} {r : V → List V → Hp → VK → Prop} {f : Str → FA}
end
section
variable {X : Cx} {o x : Expr} {mo : Me} {mr : Ma} {apos cpos : Pos}
end
@[simp] theorem x_sm {f : Str → FA} {o : Me} {r : Ma} {τ : En} {M : Mem} {Q : Kt} : mSm f o r τ M Q = o τ M fun x M1 => match x with
  | .d (.str a) => r τ M1 fun ts M2 => f a ts M2 Q
  | _ => False := rfl
section
variable {X : Cx} {e : Expr} {es : List Expr} {mr : Ma} {p pos : Pos}
end
end L3
set_option Elab.async false
set_option linter.all false
set_option maxRecDepth 100000
namespace L3
open PySem PySem.Spec L2
section
variable {X : Cx} {a b : Expr} {ma mb : Me} {pos : Pos}
end
end L3
set_option Elab.async false
set_option linter.all false
set_option maxRecDepth 100000
namespace L3
open PySem PySem.Spec L2
def fIns (x : T) : FA := fun ts M Q => match x, ts with
  | .lr i, [.d (.int j), .d z] => (match M.L[i]? with
    | some (some ds) => (ds.length < sizeLine ∧ 0 ≤ j ∧ j < 2 ^ 63) ∧ Q .non { M with L := M.L.set i (some (ds.take j.toNat ++ [z] ++ ds.drop j.toNat)) }
    | _ => False)
  | _, _ => False
@[simp] theorem x_insL {i : Nat} {M : Mem} {Q : Kt} {j : Int} {z : PyData} : fIns (.lr i) [.d (.int j), .d z] M Q = (match M.L[i]? with
    | some (some ds) => (ds.length < sizeLine ∧ 0 ≤ j ∧ j < 2 ^ 63) ∧ Q .non { M with L := M.L.set i (some (ds.take j.toNat ++ [z] ++ ds.drop j.toNat)) }
    | _ => False) := rfl
end L3
set_option Elab.async false
set_option linter.all false
set_option maxRecDepth 100000
namespace L3
open PySem PySem.Spec L2
end L3
set_option Elab.async false
set_option linter.all false
set_option maxRecDepth 100000
namespace L3
open PySem PySem.Spec L2 PyProof.Rows
section
variable {prog : Program} {w : World} {A : Around} {s : Shared}
/-- a tuple of ints -/
def TupN (h : Heap) (v : Value) (ns : List Int) : Prop := ∃ a n dd sl items, v = .ref a ∧ h.get? a = some { cls := .type "tuple", dict := dd, data := .seq items n, slots := sl } ∧ IntsAre items.toList ns
theorem TupN.keep {h h' : Heap} {v : Value} {ns : List Int} (x : TupN h v ns) (k : ∀ b o, h.get? b = some o → h'.get? b = some o) : TupN h' v ns := by
  obtain ⟨a, n, dd, sl, items, rfl, h1, h2⟩ := x
  exact ⟨a, n, dd, sl, items, rfl, k _ _ h1, h2⟩
end
open Classical in
noncomputable def kN (h : Heap) (v : Value) : List Int := if z : ∃ ns, TupN h v ns then choose z else []
section
variable {X : Cx} {a b : Expr} {ma mb : Me} {pos : Pos}
end
end L3
set_option Elab.async false
set_option linter.all false
set_option maxRecDepth 100000
namespace L3
open PySem PySem.Spec L2 PyProof.Rows
end L3
set_option Elab.async false
set_option linter.all false
set_option maxRecDepth 100000
namespace L3
open PySem PySem.Spec L2 PyProof.Rows
def mRevT (m : Me) : Me := fun τ M Q => m τ M fun t M1 => match t with
  | .d (.tuple ds) => Q (.tup ds.reverse) M1
  | _ => False
theorem RpA.reverse {K : PySem.W.Frag} {G : Hp} : ∀ {vs : List V} {ds : List PyData}, RpA K G vs ds → RpA K G vs.reverse ds.reverse
  | _, _, .nil => .nil
  | _, _, .cons p q => by
    rw [List.reverse_cons, List.reverse_cons]
    exact RpA.append (RpA.reverse q) (.cons p .nil)
section
variable {X : Cx} {e o : Expr} {m mo : Me} {mr : Ma} {k : Nat} {p1 p2 p3 pos apos cpos : Pos}
@[simp] theorem x_revT {τ : En} {M : Mem} {Q : Kt} : mRevT m τ M Q = m τ M fun t M1 => match t with
  | .d (.tuple ds) => Q (.tup ds.reverse) M1
  | _ => False := rfl
def mCnt (m : Me) (r : Ma) : Me := fun τ M Q => m τ M fun t M1 => match t with
  | .d (.tuple ds) => r τ M1 fun ts M2 => match ts with
    | [.d (.int k)] => ∃ ns, intsOf ds = some ns ∧ Q (.int (ns.count k : Nat)) M2
    | _ => False
  | _ => False
@[simp] theorem x_count {τ : En} {M : Mem} {Q : Kt} : mCnt m mr τ M Q = m τ M fun t M1 => match t with
  | .d (.tuple ds) => mr τ M1 fun ts M2 => match ts with
    | [.d (.int k)] => ∃ ns, intsOf ds = some ns ∧ Q (.int (ns.count k : Nat)) M2
    | _ => False
  | _ => False := rfl
end
end L3
set_option Elab.async false
set_option linter.all false
set_option maxRecDepth 100000
namespace L3
open PySem PySem.Spec L2 PyProof.Rows
def mAugL (f : Int → Int → Int) (d k v : Me) : Ms := fun E τ M => d τ M fun x M1 => k τ M1 fun y M2 => match x, y with
  | .lr i, .d (.int j) => (match M2.L[i]? with
    | some (some ds) => (0 ≤ j ∧ j < 2 ^ 63) ∧ ∃ a, ds[j.toNat]? = some (.int a) ∧ v τ M2 fun t M3 => match t with
      | .d (.int b) => M3.L[i]? = some (some ds) ∧ E.nx τ { M3 with L := M3.L.set i (some (ds.set j.toNat (.int (f a b)))) }
      | _ => False
    | _ => False)
  | _, _ => False
section
variable {X : Cx} {o i e : Expr} {mo mi me : Me} {mr : Ma} {pos tpos : Pos}
@[simp] theorem x_augL {f : Int → Int → Int} {d k v : Me} {E : Es} {τ : En} {M : Mem} : mAugL f d k v E τ M = d τ M fun x M1 => k τ M1 fun y M2 => match x, y with
  | .lr i, .d (.int j) => (match M2.L[i]? with
    | some (some ds) => (0 ≤ j ∧ j < 2 ^ 63) ∧ ∃ a, ds[j.toNat]? = some (.int a) ∧ v τ M2 fun t M3 => match t with
      | .d (.int b) => M3.L[i]? = some (some ds) ∧ E.nx τ { M3 with L := M3.L.set i (some (ds.set j.toNat (.int (f a b)))) }
      | _ => False
    | _ => False)
  | _, _ => False := rfl
def mPar3 (i j l : Nat) (r : Ma) : Ms := fun E τ M => r τ M fun ts M1 => match ts with
  | [t, u, v] => E.nx (((τ.set i (some t)).set j (some u)).set l (some v)) M1
  | _ => False
@[simp] theorem x_par3 {i j l : Nat} {r : Ma} {E : Es} {τ : En} {M : Mem} : mPar3 i j l r E τ M = r τ M fun ts M1 => match ts with
  | [t, u, v] => E.nx (((τ.set i (some t)).set j (some u)).set l (some v)) M1
  | _ => False := rfl
end
def oMulL : F2 := fun x y M Q => match x, y with
  | .d (.list a), .d (.int j) => (-(2 ^ 63) ≤ j ∧ j < 2 ^ 63 ∧ a.length * j.toNat ≤ sizeLine) ∧ Q (.lr M.L.length) { M with L := M.L ++ [some (List.replicate j.toNat a).flatten] }
  | _, _ => False
@[simp] theorem x_mulL {a : List PyData} {j : Int} {M : Mem} {Q : Kt} : oMulL (.d (.list a)) (.d (.int j)) M Q = ((-(2 ^ 63) ≤ j ∧ j < 2 ^ 63 ∧ a.length * j.toNat ≤ sizeLine) ∧ Q (.lr M.L.length) { M with L := M.L ++ [some (List.replicate j.toNat a).flatten] }) := rfl
end L3
set_option Elab.async false
set_option linter.all false
set_option maxRecDepth 100000
namespace L3
open PySem PySem.Spec L2 PyProof.Rows
end L3
set_option Elab.async false
set_option linter.all false
set_option maxRecDepth 100000
namespace L3
open PySem PySem.Spec L2 PyProof.Rows
theorem KT.lookN {K : PySem.W.Frag} {B : Bk} {vs : List (Key × V)} {ts : List (Key × T)} {k : Key} (h : KT K B vs ts) : (valV vs k).isSome = (lookT ts k).isSome := by
  induction h with
  | nil => rfl
  | @cons p q ps qs f _ ih =>
    by_cases z : q.1 = k
    · have e' : lookT (q :: qs) k = some q.2 := by simp [lookT, List.find?_cons, z]
      rw [e', valV_pos (f.1.trans z)]
      rfl
    · have e' : lookT (q :: qs) k = lookT qs k := by simp [lookT, List.find?_cons, z]
      rw [e', valV_neg fun y => z (f.1.symm.trans y), ih]
def oDIn (n : Bool) : F2 := fun x y M Q => match keyOf x, y with
  | some k, .mr i => (match M.D[i]? with
    | some (.dct kvs) => Q (.bl (if n then !(lookT kvs k).isSome else (lookT kvs k).isSome)) M
    | _ => False)
  | _, _ => False
@[simp] theorem x_din {n : Bool} {j : Int} {i : Nat} {M : Mem} {Q : Kt} : oDIn n (.d (.int j)) (.mr i) M Q = (match M.D[i]? with
    | some (.dct kvs) => Q (.bl (if n then !(lookT kvs (.inl j)).isSome else (lookT kvs (.inl j)).isSome)) M
    | _ => False) := rfl
@[simp] theorem x_keyI {j : Int} : keyOf (.d (.int j)) = some (.inl j) := rfl
section
variable {X : Cx} {o i : Expr} {mo mi : Me} {pos : Pos}
def mDNew : Me := fun _ M Q => Q (.mr M.D.length) { M with D := M.D ++ [.dct []] }
@[simp] theorem x_dnew {τ : En} {M : Mem} {Q : Kt} : mDNew τ M Q = Q (.mr M.D.length) { M with D := M.D ++ [.dct []] } := rfl
end
end L3
set_option Elab.async false
set_option linter.all false
set_option maxRecDepth 100000
namespace Sh
open PySem PySem.Spec L2 L3
theorem pig : ∀ (n : Nat) (l : List Nat), l.Nodup → (∀ x ∈ l, x < n) → l.length ≤ n
  | 0, l, _, h => by
    cases l with
    | nil => simp
    | cons a l => exact absurd (h a List.mem_cons_self) (by omega)
  | n + 1, l, nd, h => by
    have h1 := pig n (l.erase n) (nd.erase n) fun x hx => by
      have := (nd.mem_erase_iff).mp hx
      have := h x this.2
      omega
    have h2 := List.length_erase (a := n) (l := l)
    split at h2 <;> omega
structure Kn (P : Int → T → Prop) (kvs : List (Key × T)) : Prop where
  nd : (kvs.map (·.1)).Nodup
  ok : ∀ p ∈ kvs, ∃ j : Int, p.1 = .inl j ∧ 0 ≤ j ∧ j < 64 ∧ P j p.2
theorem Kn.nil {P : Int → T → Prop} : Kn P [] := ⟨List.nodup_nil, fun p h => nomatch h⟩
theorem Kn.imp {P Q : Int → T → Prop} {kvs : List (Key × T)} (h : Kn P kvs) (f : ∀ j t, P j t → Q j t) : Kn Q kvs :=
  ⟨h.nd, fun p hp => let ⟨j, a, b, c, d⟩ := h.ok p hp; ⟨j, a, b, c, f _ _ d⟩⟩
theorem Kn.look {P : Int → T → Prop} {kvs : List (Key × T)} {j : Int} {t : T} (h : Kn P kvs) (e : lookT kvs (.inl j) = some t) : P j t := by
  unfold lookT at e
  cases hf : kvs.find? fun kv => decide (kv.1 = (.inl j : Key)) with
  | none => rw [hf] at e; cases e
  | some p =>
    rw [hf] at e
    cases e
    have h0 := List.find?_some hf
    have h1 : p.1 = (.inl j : Key) := of_decide_eq_true h0
    obtain ⟨i, a, _, _, d⟩ := h.ok p (List.mem_of_find?_eq_some hf)
    rw [h1] at a
    cases a
    exact d
def kN : Key → Nat
  | .inl j => j.toNat
  | _ => 0
theorem Kn.len {P : Int → T → Prop} {kvs : List (Key × T)} (h : Kn P kvs) : kvs.length ≤ 64 := by
  have := pig 64 (kvs.map fun p => kN p.1) ?_ fun x hx => ?_
  · simpa using this
  · have nd := h.nd
    unfold List.Nodup at nd ⊢
    rw [List.pairwise_map] at nd ⊢
    refine List.Pairwise.imp_of_mem (fun {a b} ha hb hne => ?_) nd
    obtain ⟨i, e1, i0, _, _⟩ := h.ok a ha
    obtain ⟨j, e2, j0, _, _⟩ := h.ok b hb
    rw [e1, e2] at hne ⊢
    intro z
    have z' : i.toNat = j.toNat := z
    exact hne (by rw [show i = j by omega])
  · obtain ⟨p, hp, rfl⟩ := List.mem_map.mp hx
    obtain ⟨j, e, j0, j1, _⟩ := h.ok p hp
    rw [e]
    show j.toNat < 64
    omega
end Sh
set_option Elab.async false
set_option linter.all false
set_option maxRecDepth 100000
namespace Wl
open PySem PySem.Spec L2 L3
end Wl
set_option Elab.async false
set_option linter.all false
set_option maxRecDepth 100000
set_option maxHeartbeats 2000000
namespace L3
open PySem PySem.Spec L2
/-- the exception of the class cls, its dict at d, is e -/
def Rx (K : PySem.W.Frag) (mg : Str → Option Value) (G : Hp) (cls : Value) (d : Option Addr) (e : Exn) : Prop := mg e.cls = some cls ∧ ExR K G d e
abbrev Wx := Exn → Mem → Prop
abbrev Wxs := Exn → En → Mem → Prop
abbrev MeX := Wx → Me
abbrev MaX := Wx → Ma
abbrev MsX := Wxs → Ms
def GoW (K : PySem.W.Frag) (mg : Str → Option Value) (Wt : Wx) (W : WX) (σ : St) (B : Bk) (H : Hp) : Prop := ∀ e cls d M' B' H', Wt e M' → Wd K B' M' H' → Ext B H B' H' → Rx K mg B'.G cls d e → W cls d σ H'
def GoS (K : PySem.W.Frag) (mg : Str → Option Value) (Wt : Wxs) (W : WX) (B : Bk) (H : Hp) : Prop := ∀ e cls d τ' M' B' σ' H', Wt e τ' M' → Wd K B' M' H' → Ext B H B' H' → Sl K B' σ' τ' → Rx K mg B'.G cls d e → W cls d σ' H'
theorem GoW.ext {K : PySem.W.Frag} {mg : Str → Option Value} {Wt : Wx} {W : WX} {σ : St} {B B1 : Bk} {H H1 : Hp} (g : GoW K mg Wt W σ B H) (x : Ext B H B1 H1) : GoW K mg Wt W σ B1 H1 := fun e c d M' B' H' h w y r => g e c d M' B' H' h w (x.trans y) r
theorem GoS.ext {K : PySem.W.Frag} {mg : Str → Option Value} {Wt : Wxs} {W : WX} {B B1 : Bk} {H H1 : Hp} (g : GoS K mg Wt W B H) (x : Ext B H B1 H1) : GoS K mg Wt W B1 H1 := fun e c d t M' B' s H' h w y l r => g e c d t M' B' s H' h w (x.trans y) l r
theorem GoS.at {K : PySem.W.Frag} {mg : Str → Option Value} {Wt : Wxs} {W : WX} {B : Bk} {H : Hp} {σ : St} {τ : En} (g : GoS K mg Wt W B H) (s : Sl K B σ τ) : GoW K mg (fun e M => Wt e τ M) W σ B H := fun e c d M' B' H' h w y r => g e c d τ M' B' σ H' h w y (s.mono y) r
section
variable {X : Cx} {a b e : Expr} {es : List Expr} {m : Me} {mx my : MeX} {mr : Ma} {mrx : MaX} {mc : Mb} {pos : Pos}
end
section
variable {X : Cx} {e c tg : Expr} {m : Me} {mx : MeX} {mc : Mb} {st : Stmt} {sts a b : List Stmt} {s : Ms} {sx rx : MsX} {pos : Pos} {g : Mg}
end
/-- what the written part says of an exception class -/
structure ExF (K : PySem.W.Frag) (C : Addr) : Prop where
  kp : PySem.W.keepIn K (.ref C) = true
  su : PySem.W.subIn K (.ref C) (.type "BaseException") = some true
  ty : PySem.W.typeIn K (.ref C) = some (.type "type")
  cl : (PySem.W.clsIn K C).isSome = true
  ga : PySem.W.findIn K (.ref C) "__getattribute__" = some (some (.builtin "BaseException.__getattribute__"))
  gt : PySem.W.findIn K (.ref C) "__getattr__" = some none
  ha : PySem.W.findIn K (.ref C) "__class__" = some (some (.builtin "object.__class__"))
  hn : PySem.W.specialIn K (.builtin "object.__class__") "__get__" = some (some (.builtin "getset_descriptor.__get__"))
  tk : PySem.W.takesIn K (.builtin "object.__class__") = some true
  mo : PySem.W.mroIn K C (.type "object") = some true
abbrev tailVE : List Value := [.type "ValueError", .type "Exception", .type "BaseException", .type "object"]
section
variable {X : Cx}
end
abbrev FX := List T → List Cell → (T → List Cell → Prop) → (Exn → List Cell → Prop) → Prop
structure FnX (P : Program) (w : World) (K : PySem.W.Frag) (mg : Str → Option Value) (base : Heap) (k : Nat) (f : Addr) (fd : FuncData) (ps : List Str) (sp : Sp) : Prop where
  len : ∀ vs H Q E, sp vs H Q E → vs.length = ps.length
  run : ∀ (A : Around) (outer : List Env) (sh : Shared) (H : Hp) (args : Args) (us : List Value) (vs : List V) (Q : VK) (E : XK), Gd A → Room k A → Env0 P w K mg base A outer sh H → BindsTo sh fd args (ps.zip us) → Vals vs us → sp vs H Q E →
    codeAny (model P w) A (.call (.ref f) args) (CR (L2.CX P w) outer P w H sh Q E) sh
theorem FnX.mono {P : Program} {w : World} {K : PySem.W.Frag} {mg : Str → Option Value} {base : Heap} {j k : Nat} {f : Addr} {fd : FuncData} {ps : List Str} {sp : Sp} (F : FnX P w K mg base j f fd ps sp) (h : j ≤ k) : FnX P w K mg base k f fd ps sp :=
  ⟨F.len, fun A outer sh H args us vs Q E gd rm => F.run A outer sh H args us vs Q E gd (rm.mono h)⟩
section
variable {X : Cx} {j k : Nat} {x : Str} {st : Stmt} {f : Addr} {fd : FuncData} {ps ks : List Str} {m : FX} {p pos : Pos} {e : Expr} {es : List Expr} {mr : Ma} {kws : List Keyword}
end
end L3
set_option Elab.async false
set_option linter.all false
set_option maxRecDepth 100000
set_option maxHeartbeats 2000000
namespace L3
open PySem PySem.Spec L2
section
variable {X : Cx} {x n : Str} {cs : List Str} {i : Nat} {body suite : List Stmt} {b₀ : Stmt} {np pos pos' : Pos} {mb : MsX} {ms : Addr → Value → Option Addr → Exn → Ms} {mo : Ms}
end
section
variable {X : Cx} {a : Addr} {oe : Obj} {cls : Value} {d : Option Addr} {e : Exn} {pn : List (Addr × Obj)} {i : Nat} {x n : Str} {p p2 p3 pos : Pos}
end
end L3
namespace L3
open PySem PySem.Spec L2
theorem exf_of {K : PySem.W.Frag} {C : Addr} (kp : PySem.W.keepIn K (.ref C) = true) (su : PySem.W.subIn K (.ref C) (.type "BaseException") = some true) (ty : PySem.W.typeIn K (.ref C) = some (.type "type")) (cl : PySem.W.isClsIn K C = true)
    (ga : PySem.W.findIn K (.ref C) "__getattribute__" = some (some (.builtin "BaseException.__getattribute__"))) (gt : PySem.W.findIn K (.ref C) "__getattr__" = some none) (ha : PySem.W.findIn K (.ref C) "__class__" = some (some (.builtin "object.__class__")))
    (hn : PySem.W.specialIn K (.builtin "object.__class__") "__get__" = some (some (.builtin "getset_descriptor.__get__"))) (tk : PySem.W.takesIn K (.builtin "object.__class__") = some true) (mo : PySem.W.mroIn K C (.type "object") = some true) : ExF K C :=
  ⟨kp, su, ty, cl, ga, gt, ha, hn, tk, mo⟩
theorem all_nil {α : Type} {P : α → Prop} : ∀ x ∈ ([] : List α), P x := fun x h => absurd h (by simp)
theorem all_cons {α : Type} {P : α → Prop} {a : α} {l : List α} (h : P a) (t : ∀ x ∈ l, P x) : ∀ x ∈ a :: l, P x := fun x hx => by
  rcases List.mem_cons.mp hx with e | e
  · rw [e]; exact h
  · exact t x e
section
variable {X : Cx} {a : Addr} {oe : Obj} {cls : Value} {d : Option Addr} {e : Exn} {pn : List (Addr × Obj)} {i : Nat} {x n : Str} {p p2 p3 pos : Pos}
end
end L3
namespace L3
open PySem PySem.Spec L2
theorem w_ret {m : Me} {E : Es} {τ : En} {M : Mem} (h : m τ M E.rt) : mRet m E τ M := h
theorem w_set {i : Nat} {m : Me} {E : Es} {τ : En} {M : Mem} (h : m τ M fun t M1 => E.nx (τ.set i (some t)) M1) : mSet i m E τ M := h
theorem w_lst {a : Ma} {τ : En} {M : Mem} {Q : Kt} (h : a τ M fun ts M1 => match datas ts with
    | some ds => ds.length ≤ sizeLine ∧ Q (.lst ds) M1
    | none => False) : mLst a τ M Q := h
end L3
set_option Elab.async false
set_option linter.all false
set_option maxRecDepth 100000
set_option maxHeartbeats 2000000
namespace L3
open PySem PySem.Spec L2 PyProof.Rows
section
variable {X : Cx} {pn : List (Addr × Obj)} {sg : L2.St} {H : Hp} {s : Shared}
mutual
theorem nk_data : ∀ k : NestedKey, nk k.data = some k
  | .none => rfl
  | .num i => rfl
  | .text x => rfl
  | .tup ks => by rw [NestedKey.data, nk, nks_datas ks]; rfl
theorem nks_datas : ∀ ks : List NestedKey, nks (NestedKey.datas ks) = some ks
  | [] => rfl
  | k :: ks => by rw [NestedKey.datas, nks, nk_data k, nks_datas ks]
end
end
/-- at b stands the tuple that is the key k -/
def KeyAt (K : PySem.W.Frag) (H : Hp) (b : Addr) (k : NestedKey) : Prop := okKey 8 k = true ∧ ∃ d, nk d = some k ∧ Rp K H (.ref b) d
theorem KeyAt.of {K : PySem.W.Frag} {H : Hp} {b : Addr} {k : NestedKey} (h : okKey 8 k = true) (r : Rp K H (.ref b) k.data) : KeyAt K H b k := ⟨h, _, nk_data k, r⟩
def lookE (es : List (NestedKey × Addr × V)) (k : NestedKey) : Option V := (es.find? fun e => decide (e.1 = k)).map (·.2.2)
abbrev PrE (es : List (NestedKey × Addr × V)) (xs : List (NestedKey × Addr × Value)) : Prop := Paired (fun (p : NestedKey × Addr × V) (q : NestedKey × Addr × Value) => p.1 = q.1 ∧ p.2.1 = q.2.1 ∧ RelV p.2.2 q.2.2) es xs
theorem PrE.look {es : List (NestedKey × Addr × V)} {xs : List (NestedKey × Addr × Value)} (r : PrE es xs) (k : NestedKey) : RelO (lookE es k) ((atKey xs k).map (·.2)) := by
  unfold PrE at r
  induction r with
  | nil => trivial
  | @cons p q ps qs f _ ih =>
    by_cases z : p.1 = k
    · have e1 : lookE (p :: ps) k = some p.2.2 := by simp [lookE, List.find?_cons, z]
      have e2 : (atKey (q :: qs) k).map (·.2) = some q.2.2 := by simp [atKey, List.find?_cons, f.1.symm.trans z]
      rw [e1, e2]
      exact f.2.2
    · have z2 : ¬ q.1 = k := fun y => z (f.1.trans y)
      have e1 : lookE (p :: ps) k = lookE ps k := by simp [lookE, List.find?_cons, z]
      have e2 : (atKey (q :: qs) k).map (·.2) = (atKey qs k).map (·.2) := by simp [atKey, List.find?_cons, z2]
      rw [e1, e2]
      exact ih
theorem PrE.keys {es : List (NestedKey × Addr × V)} {xs : List (NestedKey × Addr × Value)} (r : PrE es xs) : es.map (·.1) = xs.map (·.1) := by
  unfold PrE at r
  induction r with
  | nil => rfl
  | cons f _ ih => rw [List.map_cons, List.map_cons, ih, f.1]
section
variable {P : Program} {w : World} {H : Hp} {h h' : Heap} {a : Addr} {es : List (NestedKey × Addr × V)}
end
section
variable {X : Cx} {pn : List (Addr × Obj)} {sg : L2.St} {H : Hp} {s : Shared} {a b : Addr} {es : List (NestedKey × Addr × V)} {k : NestedKey} {v : V} {u : Value} {A : Around} {E : Value → Shared → Prop}
end
def lookN (kvs : List (NestedKey × T)) (k : NestedKey) : Option T := (kvs.find? fun kv => decide (kv.1 = k)).map (·.2)
abbrev NT (K : PySem.W.Frag) (B : Bk) (es : List (NestedKey × Addr × V)) (kvs : List (NestedKey × T)) : Prop := Paired (fun (p : NestedKey × Addr × V) (q : NestedKey × T) => p.1 = q.1 ∧ okKey 8 q.1 = true ∧ Rp K B.G (.ref p.2.1) q.1.data ∧ Rt K { B with l := [] } p.2.2 q.2) es kvs
theorem NT.look {K : PySem.W.Frag} {B : Bk} {es : List (NestedKey × Addr × V)} {kvs : List (NestedKey × T)} (r : NT K B es kvs) (k : NestedKey) : (lookE es k).isSome = (lookN kvs k).isSome ∧ ∀ t, lookN kvs k = some t → ∃ v, lookE es k = some v ∧ Rt K { B with l := [] } v t := by
  unfold NT at r
  induction r with
  | nil => exact ⟨rfl, fun t e => (nomatch e)⟩
  | @cons p q ps qs f _ ih =>
    by_cases z : q.1 = k
    · have e1 : lookE (p :: ps) k = some p.2.2 := by simp [lookE, List.find?_cons, f.1.trans z]
      have e2 : lookN (q :: qs) k = some q.2 := by simp [lookN, List.find?_cons, z]
      rw [e1, e2]
      exact ⟨rfl, fun t e => by cases e; exact ⟨_, rfl, f.2.2.2⟩⟩
    · have z2 : ¬ p.1 = k := fun y => z (f.1.symm.trans y)
      have e1 : lookE (p :: ps) k = lookE ps k := by simp [lookE, List.find?_cons, z2]
      have e2 : lookN (q :: qs) k = lookN qs k := by simp [lookN, List.find?_cons, z]
      rw [e1, e2]
      exact ih
theorem NT.at {K : PySem.W.Frag} {B : Bk} {M : Mem} {H : Hp} {es : List (NestedKey × Addr × V)} {kvs : List (NestedKey × T)} (w : Wd K B M H) (r : NT K B es kvs) : ∀ e ∈ es, KeyAt K H e.2.1 e.1 := by
  unfold NT at r
  induction r with
  | nil => intro e he; cases he
  | @cons p q ps qs f _ ih =>
    intro e he
    rcases List.mem_cons.mp he with z | he
    · subst z
      rw [← f.1] at f
      exact .of f.2.1 (w.rp f.2.2.1)
    · exact ih e he
section
variable {X : Cx} {o i e f value : Expr} {mo mi mv mz : Me} {pos pos' apos cpos : Pos} {kk : Nat}
end
end L3
set_option Elab.async false
set_option linter.all false
set_option maxRecDepth 100000
set_option maxHeartbeats 2000000
namespace L3
open PySem PySem.Spec L2 PyProof.Rows
end L3
set_option Elab.async false
set_option linter.all false
set_option maxRecDepth 100000
set_option maxHeartbeats 2000000
namespace L3
open PySem PySem.Spec L2 PyProof.Rows
end L3
set_option Elab.async false
set_option linter.all false
set_option maxRecDepth 100000
set_option maxHeartbeats 2000000
namespace L3
open PySem PySem.Spec L2
section
variable {X : Cx} {j k : Nat} {f : Addr} {fd : FuncData} {ps ks : List Str} {m : FD} {st : Stmt} {x : Str} {p pos : Pos} {e : Expr} {es : List Expr} {mr mk : Ma} {kws : List Keyword}
end
end L3
set_option Elab.async false
set_option linter.all false
set_option maxRecDepth 100000
namespace Wm
open PySem PySem.Spec L2 L3 Sh
theorem two_ok : 2 ≤ sizeLine := sz64' (show 2 ≤ 100000 by decide)
theorem sz3 : 3 ≤ sizeLine := sz64' (show 3 ≤ 100000 by decide)
theorem sz1 : 1 ≤ sizeLine := sz64' (show 1 ≤ 100000 by decide)
theorem sz4' : 4 ≤ sizeLine := sz64' (show 4 ≤ 100000 by decide)
theorem w_test {m : Me} {τ : En} {M : Mem} {R : Bool → Mem → Prop} (h : m τ M fun x M1 => ∃ k, x = .d (.bool k) ∧ R k M1) : mTest m τ M R := h
theorem w_bor {c d : Mb} {τ : En} {M : Mem} {R : Bool → Mem → Prop} (h : c τ M fun k M1 => if k = true then R true M1 else d τ M1 R) : bOr c d τ M R := h
theorem w_bnot {c : Mb} {τ : En} {M : Mem} {R : Bool → Mem → Prop} (h : c τ M fun k M1 => R (!k) M1) : bNot c τ M R := h
theorem w_par {i j : Nat} {r : Ma} {E : Es} {τ : En} {M : Mem} (h : r τ M fun ts M1 => match ts with
  | [t, u] => E.nx ((τ.set i (some t)).set j (some u)) M1
  | _ => False) : mPar i j r E τ M := h
theorem w_and {a b : Me} {τ : En} {M : Mem} {Q : Kt} (h : a τ M fun t M1 => match t with
  | .d (.bool true) => b τ M1 Q
  | .d (.bool false) => Q (.bl false) M1
  | _ => False) : mAnd a b τ M Q := h
theorem w_asg {m : Me} {g : Mg} {E : Es} {τ : En} {M : Mem} (h : m τ M fun t M1 => g t τ M1 E.nx) : mAsg m g E τ M := h
theorem w_lc {i : Mi} {g : Mg} {c : Mb} {m : Me} {vs : List Nat} {τ : En} {M : Mem} {Q : Kt} (h : i τ M fun ts M1 => goLc g c m (wipeT τ vs) (fun acc M2 => Q (.lst acc) M2) ts [] M1) : mLc i g c m vs τ M Q := h
theorem w_neS {a : Str} {M : Mem} {Q : Kt} (q : Q (.bl false) M) : oEq true (.d (.str a)) (.d (.str a)) M Q := by
  rw [x_eqs]
  simpa using q
end Wm
set_option Elab.async false
set_option linter.all false
set_option maxRecDepth 100000
set_option maxHeartbeats 2000000
namespace L3
open PySem PySem.Spec L2
theorem keepD {B2 B4 : Bk} {H2 H4 : Hp} {D : Addr} {vs : List V} (d2 : H2 D = some (.lst vs)) (g2 : B2.G D = none) (n2 : D ∉ B2.r) (l2 : D ∉ B2.l) (e4 : Ext B2 H2 B4 H4) : H4 D = some (.lst vs) ∧ B4.G D = none ∧ D ∉ B4.r ∧ D ∉ B4.l := by
  refine ⟨e4.fr D _ d2 n2 l2, ?_, fun z => ?_, fun z => ?_⟩
  · cases q : B4.G D with
    | none => rfl
    | some o =>
      rcases e4.gf D o q with z | z | z
      · rw [g2] at z; cases z
      · rw [d2] at z; cases z
      · exact absurd z l2
  · rcases e4.rn D z with q | q
    · exact n2 q
    · rw [d2] at q; cases q
  · rcases e4.ln D z with q | q
    · exact l2 q
    · rw [d2] at q; cases q
structure BkLe (B B' : Bk) : Prop where
  g : ∀ a o, B.G a = some o → B'.G a = some o
  r : B.r <+: B'.r
  l : B.l <+: B'.l
theorem BkLe.of {B B' : Bk} {H H' : Hp} (x : Ext B H B' H') : BkLe B B' := ⟨x.g, x.r, x.l⟩
theorem BkLe.refl (B : Bk) : BkLe B B := ⟨fun _ _ e => e, List.prefix_refl _, List.prefix_refl _⟩
theorem BkLe.trans {B B1 B2 : Bk} (x : BkLe B B1) (y : BkLe B1 B2) : BkLe B B2 := ⟨fun a o e => y.g a o (x.g a o e), x.r.trans y.r, x.l.trans y.l⟩
theorem Sl.le {K : PySem.W.Frag} {B B' : Bk} (x : BkLe B B') {σ : L2.St} {τ : En} (s : Sl K B σ τ) : Sl K B' σ τ :=
  ⟨s.len, fun i t e => let ⟨v, h, q⟩ := s.at_ i t e; ⟨v, h, Rt.mono' x.g x.r x.l q⟩⟩
section
variable {X : Cx} {elt tg tg1 e e1 : Expr} {ifs ifs1 : List Expr} {scope : Scope} {own : List (Str × Nat)} {i i1 : Mi} {g g1 : Mg} {os os1 : List Nat} {mc mc1 : Mb} {m : Me} {vs1 : List Nat} {pos : Pos}
variable {n : Nat} {y : Str} {py spos : Pos}
end
end L3
set_option Elab.async false
set_option linter.all false
set_option maxRecDepth 100000
set_option maxHeartbeats 2000000
namespace L3
open PySem PySem.Spec L2 PySem.W PyProof.Rows
end L3
set_option Elab.async false
set_option linter.all false
set_option maxRecDepth 100000
set_option maxHeartbeats 2000000
namespace Itp
open PySem PySem.Spec
open Sem (wp)
open AutoSeq1 (wpAny_loadPart')
theorem mro : mroOf (.type "itertools.permutations") = pure [.type "itertools.permutations", .type "object"] := by rw [mroOf_type]; kernel_rfl
abbrev rev : List Char := ['s', 'n', 'o', 'i', 't', 'a', 't', 'u', 'm', 'r', 'e', 'p', '.', 's', 'l', 'o', 'o', 't', 'r', 'e', 't', 'i']
theorem owner : Manifest.owners.lookup (String.ofList rev.reverse) = some Manifest.sig_itertools_permutations := by kernel_rfl
/-- what stands in the object: the pool, where it is, the numbers -/
def fld (t : Addr) (m : Int) (n : Nat) (last : Value) (s : List Nat × List Nat) : List Value := [.ref t, .int m 0, .int n 0, last] ++ (s.1 ++ s.2).map fun (i : Nat) => .int (i : Int) 0
def cyc (n : Nat) : List Nat := (List.range n).map fun i => n - i
end Itp
set_option Elab.async false
set_option linter.all false
set_option maxRecDepth 100000
set_option maxHeartbeats 2000000
namespace Itp
open PySem PySem.Spec
open Sem (wp)
open AutoSeq1 (wpAny_loadPart')
end Itp
set_option Elab.async false
set_option linter.all false
set_option maxRecDepth 100000
set_option maxHeartbeats 2000000
namespace Itp
open PySem PySem.Spec
open Sem (wp)
open AutoSeq1 (wpAny_loadPart')
section
variable {prog : Program} {w : World} {A : Around} {E : Value → Shared → Prop} {s : Shared}
/-- the next order of the places -/
def perNext (n : Nat) : Nat → List Nat → List Nat → Option (List Nat × List Nat)
  | 0, _, _ => none
  | i + 1, ix, cy =>
    if (cy.getD i 0 - 1 == 0) = true then perNext n i (ix.take i ++ ix.drop (i + 1) ++ [ix.getD i 0]) (cy.set i (n - i))
    else some ((ix.set i (ix.getD (n - (cy.getD i 0 - 1)) 0)).set (n - (cy.getD i 0 - 1)) (ix.getD i 0), cy.set i (cy.getD i 0 - 1))
end
end Itp
set_option Elab.async false
set_option linter.all false
set_option maxRecDepth 100000
set_option maxHeartbeats 2000000
namespace Itp
open PySem PySem.Spec
open Sem (wp)
def prun (n : Nat) : Nat → List Nat × List Nat → List (List Nat × List Nat)
  | 0, _ => []
  | f + 1, st => st :: match perNext n n st.1 st.2 with
    | some st2 => prun n f st2
    | none => []
def psts (n : Nat) : List (List Nat × List Nat) := prun n 721 (List.range n, cyc n)
end Itp
set_option Elab.async false
set_option linter.all false
set_option maxRecDepth 100000
set_option maxHeartbeats 2000000
namespace L3
open PySem PySem.Spec L2
/-- all orders of the items -/
def permT (xs : List PyData) : List T := (Itp.psts xs.length).map fun s => T.d (.tuple (s.1.map fun j => xs.getD j .none))
section
open PyProof.Rows HT
variable {X : Cx} {pn : List (Addr × Obj)} {sg : L2.St} {hp : Hp} {sh : Shared} {tg : Expr}
end
end L3
set_option Elab.async false
set_option linter.all false
set_option maxRecDepth 100000
set_option maxHeartbeats 2000000
namespace L3
open PySem PySem.Spec L2
def iPerm (r : Ma) : Mi := fun τ M Q => r τ M fun ts M1 => match ts with
  | [t] => (match seqOf t with
    | some xs => xs.length ≤ 6 ∧ Q (permT xs) M1
    | none => False)
  | _ => False
def iPermR (m : Me) : Mi := fun τ M Q => m τ M fun t M1 => match t with
  | .d (.int n) => (0 ≤ n ∧ n ≤ 6) ∧ Q (permT (rgD n)) M1
  | _ => False
section
open PyProof.Rows HT
variable {X : Cx} {tg e a : Expr} {mr : Ma} {ma : Me} {p p2 pos pos2 : Pos}
end
@[simp] theorem x_iperm {a : Ma} {τ : En} {M : Mem} {R : List T → Mem → Prop} : iPerm a τ M R = a τ M fun ts M1 => match ts with
  | [t] => (match seqOf t with
    | some xs => xs.length ≤ 6 ∧ R (permT xs) M1
    | none => False)
  | _ => False := rfl
@[simp] theorem x_ipermR {m : Me} {τ : En} {M : Mem} {R : List T → Mem → Prop} : iPermR m τ M R = m τ M fun t M1 => match t with
  | .d (.int n) => (0 ≤ n ∧ n ≤ 6) ∧ R (permT (rgD n)) M1
  | _ => False := rfl
end L3
set_option Elab.async false
set_option linter.all false
set_option maxRecDepth 100000
set_option maxHeartbeats 2000000
namespace L3
open PySem PySem.Spec L2
section
open PyProof.Rows HT
variable {X : Cx} {e : Expr} {mr : Ma} {p pos kpos cpos : Pos} {j : Nat}
end
end L3
set_option Elab.async false
set_option linter.all false
set_option maxRecDepth 100000
namespace L3
open PySem PySem.Spec L2
section
variable {X : Cx} {a b : Expr} {ma mb : Me} {pos : Pos}
end
end L3
set_option Elab.async false
set_option linter.all false
set_option maxRecDepth 100000
set_option maxHeartbeats 1000000
namespace SrtV
open PySem PySem.Spec PyProof.Rows TS
def Ok (b : Int) (l : List Int) : Prop := Bd (2 * b + 1) (l.map fun x => x + b)
section
variable {P : Program} {w : World} {A : Around} {E : Value → Shared → Prop} {s : Shared} {Q : Bool → Shared → Prop}
end
def Tups (h : Heap) (d : Nat) (b : Int) (vs : List Value) : Prop := ∀ v ∈ vs, ∃ l, TupInts h v l ∧ l.length = d ∧ Ok b l
theorem Tups.keep {h h' : Heap} {d : Nat} {b : Int} {vs : List Value} (x : Tups h d b vs) (k : ∀ a o, h.get? a = some o → o.cls = .type "tuple" → h'.get? a = some o) : Tups h' d b vs := fun v hv => by
  obtain ⟨l, t, r⟩ := x v hv
  exact ⟨l, t.keeps k, r⟩
section
variable {P : Program} {w : World} {A : Around} {E : Value → Shared → Prop} {s : Shared}
end
section
open PyProof.Rows
variable {P : Program} {w : World} {A : Around} {E : Value → Shared → Prop} {s : Shared}
end
end SrtV
namespace L3
open PySem PySem.Spec L2 PyProof.Rows
end L3
set_option Elab.async false
set_option linter.all false
set_option maxRecDepth 100000
namespace L3
open PySem PySem.Spec L2
section
variable {X : Cx}
end
end L3
set_option Elab.async false
set_option linter.all false
set_option maxRecDepth 100000
set_option maxHeartbeats 2000000
namespace SrtS
open PySem PyProof.Rows Srt SrtO
section
variable {prog : Program} {w : World} {A : Around} {E : Value → Shared → Prop} {s : Shared}
end
end SrtS
namespace L3
open PySem PySem.Spec L2 PyProof.Rows
end L3
set_option Elab.async false
set_option linter.all false
set_option maxRecDepth 100000
set_option maxHeartbeats 2000000
namespace L2
open PySem PySem.Spec PyProof.Rows PySem.Calls
abbrev veMro : List Value := [.type "ValueError", .type "Exception", .type "BaseException", .type "object"]
/-- self of C, then one value -/
def spSx (C : Addr) (fld : Str) : Sp := fun vs H Q _ => ∃ a y, vs = [.ref a, y] ∧ H a = some (exo a C none) ∧ ∀ dx, H dx = none → dx ≠ a → Q .non (upd (upd H dx (exd dx [(fld, y)])) a (exo a C (some dx)))
/-- what the written part says of the class and of its __init__ -/
structure SxF (P : Program) (K : PySem.W.Frag) (mg : Str → Option Value) (C cc cda : Addr) (fld : Str) : Prop where
  oex : OexC K C
  cod : ∃ ccl cdd vs ccs file tf, K.lookup cda = some ⟨ccl, cdd, .fields vs, ccs⟩ ∧ vs[2]? = some (.str file tf) ∧ ((P.main.file : Str) == file) = true
  cel : ∃ cl cld csl, K.lookup cc = some ⟨cl, cld, .cell (some (.ref C)), csl⟩
  mro : PySem.W.mroIn K C (.ref C) = some true
  any : PySem.W.nsIn K cStatics "thirdparty.any" = some none
  sup : PySem.W.ks_superIn K C C "__init__" = some (some (.builtin "ValueError.__init__"))
  sub : PySem.W.subIn K (.ref C) (.type "ValueError") = some true
  exi : PySem.W.excInitIn K C veMro "ValueError.__new__" = true
  fld : PySem.W.findIn K (.ref C) fld = some none
  sg : mg "super" = none
  top : (P.main.scope.names.lookup ("super" : Str)).isSome = false
abbrev sxCall (text : Str) (j0 : Nat) (p0 p1 p2 p3 q0 : Pos) : Expr := .Call (.Attribute (.Call (.Name "super" p0) [] [] p1) "__init__" p2) [.Constant (.str text) j0 q0] [] p3
theorem fn_sx {CX : CXT} {P : Program} {w : World} {K : PySem.W.Frag} {mg : Str → Option Value} {base : Heap} {k : Nat} {f C cc cda : Addr} {fld self arg text : Str} {name qual : Str} {params : Arguments} {scope : Scope} {dV kV doc pm ct oc : Value} {an od : Option Addr}
    {osl : Array (Option Value)} {j0 : Nat} {p0 p1 p2 p3 p4 p5 p6 p7 p8 q0 : Pos} {ar : Arg}
    (lk : K.lookup f = some ⟨oc, od, .func (PySem.W.ksFn name qual params [.Expr (.Call (.Attribute (.Call (.Name "super" p0) [] [] p1) "__init__" p2) [.Constant (.str text) j0 q0] [] p3) p4, .Assign [.Attribute (.Name self p5) fld p6] (.Name arg p7) p8] scope dV kV doc pm an (.ref cda) ct cc), osl⟩)
    (hcd : PySem.W.codeIn K (.ref cda) qual = true) (S : SxF P K mg C cc cda fld)
    (hp : (params.posonlyargs ++ params.args).head? = some ar) (ha : ar.arg = self) (hne : arg ≠ self)
    (hks : scope.names.lookup ("super" : Str) = some .globalImplicit) (hkc : scope.names.lookup ("__class__" : Str) = some .free) (hkS : scope.names.lookup self = some .local) (hkA : scope.names.lookup arg = some .local)
    (hcell : ∀ x ∈ scope.names, x.2 ≠ .cell) (hk : scope.kind = .function) (hco : scope.isCoroutine = false) (hgen : scope.isGenerator = false) 
    (hI : ∀ L, interactive (PySem.W.ksEnv qual scope L f (.ref cda) cc) = false)
    (hE : ∀ L, ∃ pl, eval (sxCall text j0 p0 p1 p2 p3 q0) (PySem.W.ksEnv qual scope L f (.ref cda) cc) = (do
      let ov ← attributeBase (.Call (.Name "super" p0) [] [] p1) "__init__" (PySem.W.ksEnv qual scope L f (.ref cda) cc) (eval (.Call (.Name "super" p0) [] [] p1) (PySem.W.ksEnv qual scope L f (.ref cda) cc))
      standAt p2.atName
      let (fx, first) ← holding [ov] (getMethod ov "__init__" pl)
      callWith p3 fx first (backTo p3 (starEach [.Constant (.str text) j0 q0] (PySem.W.ksEnv qual scope L f (.ref cda) cc))) []))
    (hs1 : ∀ L, swapsWith (sxCall text j0 p0 p1 p2 p3 q0) none p4.line (PySem.W.ksEnv qual scope L f (.ref cda) cc) = pure false)
    (hs2 : ∀ L, swapsWith (.Name arg p7) (some (.Attribute (.Name self p5) fld p6)) p8.line (PySem.W.ksEnv qual scope L f (.ref cda) cc) = pure false)
    (hdS : (self == ("__debug__" : Str)) = false) (hdA : (arg == ("__debug__" : Str)) = false) :
    FnOk P w K mg base CX (k + 1) f (PySem.W.ksFn name qual params [.Expr (.Call (.Attribute (.Call (.Name "super" p0) [] [] p1) "__init__" p2) [.Constant (.str text) j0 q0] [] p3) p4, .Assign [.Attribute (.Name self p5) fld p6] (.Name arg p7) p8] scope dV kV doc pm an (.ref cda) ct cc) [self, arg] (spSx C fld) := by
  refine ⟨fun vs H Q E ⟨a, y, e, _⟩ => by rw [e]; rfl, fun A outer s H args us vs Q E hr e0 hb r hsp => ?_⟩
  obtain ⟨a, y, rfl, ea, hq⟩ := hsp
  cases r with
  | @cons _ u0 _ ur ra r =>
  cases r with
  | @cons _ u _ ur ry r =>
  cases r
  obtain rfl : u0 = Value.ref a := ra
  have KX : K.In s.heap := e0.mod.kin.keeps fun b o e => (e0.bs b o e).1
  have lim : s.heap.NoLimit := e0.mod.nolimit.keeps fun b o e => (e0.bs b o e).1
  obtain ⟨t1, hoa⟩ := exo_at e0.hok ea
  obtain ⟨ccl, cdd, vs, ccs, file, tf, hcode, hvs, hfile⟩ := S.cod
  obtain ⟨cl, cld, csl, hcel⟩ := S.cel
  obtain ⟨nm, q, NN, bs, bm, sn, sub, ab, col, dd, k0, k1, k2, k3, k5, hC, hbm⟩ := S.oex.cls
  have hcl : PySem.W.clsIn K C = some { name := nm, bases := bs, mro := .ref C :: bm, ns := NN, qualname := q, hasDict := true, slotNames := sn, subclasses := sub, abstract := ab, collection := col, hasDel := false } := by unfold PySem.W.clsIn; rw [hC] <;> rfl
  refine PySem.ks_codeAny_call_defAt (binds := [self, arg].zip [.ref a, u]) hr.depth (KX _ _ lk) rfl lim (PySem.W.codeRec_of KX hcd) rfl hb hcell (fun x hx => ?_) (fun h₁ hns hk₁ => ?_) hco hgen hk
  · simp only [List.zip_cons_cons, List.zip_nil_right, List.mem_cons, List.not_mem_nil, or_false] at hx
    rcases hx with rfl | rfl
    · exact hkS
    · exact hkA
  have gk : ∀ b o, b ≠ a → s.heap.get? b = some o → (PySem.W.hideAll s.heap [a]).get? b = some o := fun b o n e => PySem.W.hideAll_get _ e (by simpa using n)
  have F : Fr (PySem.W.hideAll s.heap [a]) s.heap.objs.size h₁ (fun x => ([self, arg].zip [.ref a, u]).reverse.lookup x) := ⟨hns, fun b o e => hk₁ b o (PySem.W.of_hideAll _ e), Nat.le_of_eq (PySem.W.hideAll_size _ _)⟩
  have N : News (PySem.W.hideAll s.heap [a]) s.heap.objs.size h₁ [(a, PySem.W.excObj C t1 none .none)] := fun p hp => by
    obtain rfl := List.mem_singleton.mp hp
    exact ⟨hk₁ _ _ hoa, Nat.ne_of_lt (Heap.lt_size hoa), PySem.W.hideAll_none _ (by simp)⟩
  have ba : ∀ b o, base.get? b = some o → (PySem.W.hideAll s.heap [a]).get? b = some o := fun b o e => gk b o (fun z => by
    have z2 := (e0.bs b o e).2
    rw [z, ea] at z2
    cases z2) (e0.bs b o e).1
  have X₀ : K.In (PySem.W.hideAll s.heap [a]) := e0.mod.kin.keeps ba
  have mS : ([self, arg].zip [Value.ref a, u]).reverse.lookup self = some (.ref a) := by
    have e1 : (self == arg) = false := by simpa using fun z => hne z.symm
    simp [List.lookup, e1]
  have mA : ([self, arg].zip [Value.ref a, u]).reverse.lookup arg = some u := by simp [List.lookup]
  obtain ⟨mb, hmb, hbt⟩ := e0.mod.blt
  have hob : ∃ oD, s.heap.get? C = some oD ∧ oD.data = .cls { name := nm, bases := bs, mro := .ref C :: bm, ns := NN, qualname := q, hasDict := true, slotNames := sn, subclasses := sub, abstract := ab, collection := col, hasDel := false } := ⟨_, KX _ _ hC, rfl⟩
  obtain ⟨oD, hD1, hD2⟩ := hob
  have aC : a ≠ C := fun z => by
    rw [z] at hoa
    rw [hoa] at hD1
    cases hD1
    cases hD2
  have I1 : PySem.W.InstAt h₁ a (PySem.W.excObj C t1 none .none) C none := PySem.W.InstAt.of_exc0 N (by simp)
  obtain ⟨pl, hpl⟩ := hE s.heap.objs.size
  refine PySem.ks_wpAt_execs_cons (PySem.ks_wpAt_Expr_any (PySem.ks_wpAt_MethodCall (pl := pl) ?_ hpl) (hI _) (hs1 _))
  refine PySem.ks_wpAt_super_base (of := _) (fd := _) (ar := ar) (vs := vs) (file := file) (tf := tf) hks hkc (by decide) rfl (hk₁ _ _ (KX _ _ lk)) rfl hp rfl (hk₁ _ _ (KX _ _ hcode)) rfl hvs hfile S.top ?_
  refine PySem.W.ks_loadName_global hk hks (loadGlobal_builtin (mg := mg) (mb := mb) ((e0.mod.glob.keeps ba).keeps F.keep) S.sg ((hmb.keeps ba).keeps F.keep) ((hbt _ (by decide)).trans (show bootBuiltins "super" = some (.type "super") by first | rfl | decide +kernel | kernel_rfl)) ⟨rfl, ?_⟩)
  refine wpAny_loadName_free hk hkc rfl ⟨_, hk₁ _ _ (KX _ _ hcel), rfl⟩ ?_
  refine wpAny_loadName_local hk (by rw [ha]; exact hkS) hns (by rw [ha]; exact mS) ?_
  refine PySem.ks_wpAny_isType_cls (hk₁ _ _ hD1) hD2 ⟨rfl, ?_⟩
  refine PySem.ks_wpAny_call_super (hk₁ _ _ hD1) hD2 (hk₁ _ _ hoa) rfl (fun c z => by cases z) (PySem.W.looks_mroIn (KX.keeps hk₁) S.mro) (fun h2 e2 kk2 => ?_)
  obtain ⟨F2, N2, l2⟩ := PySem.W.ks_newsPush (s := { s with heap := h₁, toks := s.toks + 2 }) F N rfl e2 kk2
  refine PySem.W.kxs_method PySem.W.kxs_ValueError F2 X₀ N2 (List.mem_cons_self ..) (PySem.W.InstAt.of_exc0 N2 (List.mem_cons_of_mem _ (List.mem_cons_self ..))) S.any S.sup S.sub (by decide) (fun qm h3 F3 N3 l3 => ?_)
  refine PySem.W.kxs_callWith1 N3 (List.mem_cons_self ..) ?_
  refine spliced_more (wpAny_Constant_str (spliced_none ⟨PySem.W.kxs_at N3 (List.mem_cons_self ..), ?_⟩))
  have nso : a < h₁.objs.size := l2 _ (List.mem_cons_self ..)
  have nqm : a < qm := l3 _ (List.mem_cons_of_mem _ (List.mem_cons_self ..))
  refine PySem.W.kxs_call F3 X₀ N3 PySem.F.excBase_ValueError S.exi (List.mem_cons_self ..) (.tail (Nat.ne_of_gt nqm) (.tail (Nat.ne_of_gt nso) (.head fun p hp => absurd hp (by simp)))) (by rw [sizeLine_eq]; simp) (fun t2 h4 F4 N4 l4 => ?_)
  refine PySem.ks_wpAt_execs_cons (PySem.ks_wpAt_Assign_Attr ?_ (hs2 _))
  refine wpAt_of_wpAny (wpAny_Name (wpAny_loadName_local hk hkA F4.ns mA ?_) hdA)
  refine wpAny_Name (wpAny_loadName_local hk hkS F4.ns mS ?_) hdS
  have ho4 : h4.get? a = some (PySem.W.excObj C t2 none .none) := (N4 (a, PySem.W.excObj C t2 none .none) (by simp)).1
  refine PySem.W.set_plain (X₀.keeps F4.keep) (ox := PySem.W.excObj C t2 none .none) (od := none) ⟨ho4, rfl, rfl, trivial⟩ S.oex.sa ?_
  refine PySem.HandSPX.exc_osa (X₀.keeps F4.keep) ho4 hcl (show PySem.HandSPX.refsVE (.ref C :: bm) = true from hbm) rfl S.fld (fun h5 tk' dx kk5 dn dne hx hn => ?_)
  refine wpAt_of_wpAny (wpAny_execs_nil ?_)
  have szL : s.heap.objs.size ≤ dx := Nat.le_trans (Nat.le_of_lt F4.ns.lt) dn
  have k : ∀ b o, b ≠ a → s.heap.get? b = some o → h5.get? b = some o := fun b o n e => kk5 b o n (F4.keep b o (gk b o n e))
  have hnd : H dx = none := e0.hok.fresh szL
  have nd : ∀ {b : Addr} {o : Obj}, s.heap.get? b = some o → b ≠ dx := fun {b o} q => Nat.ne_of_lt (Nat.lt_of_lt_of_le (Heap.lt_size q) szL)
  have na : ∀ {b : Addr}, H b = none → b ≠ a := fun {b} n z => by
    rw [z, ea] at n
    cases n
  have Un1 : Un (frs outer) [] H (upd (upd H dx (exd dx [(fld, y)])) a (exo a C (some dx))) s.heap h5 := {
    keep := fun b o q n _ _ => k b o (na n) q
    slot := fun b o q n _ _ => ⟨o.slots, k b o (na n) q⟩
    free := fun b o q n _ => by rw [upd_ne (na n), upd_ne (nd q)]; exact n
    there := fun b o q _ => by
      by_cases hb : b = a
      · exact ⟨_, by rw [hb]; exact hx⟩
      · exact ⟨o, k b o hb q⟩
    tups := fun b xs q => by rw [upd_ne (at_ne ea q exo_tup), upd_ne (ne_of_none q hnd)]; exact q
    frzs := fun b o v q => by rw [upd_ne (at_ne ea q exo_frz), upd_ne (ne_of_none q hnd)]; exact q
    tbls := fun b ps q => ⟨#[], by rw [upd_ne (at_ne ea q exo_tbl), upd_ne (ne_of_none q hnd), q]; simp⟩ }
  have hok5 : HOk P w (upd (upd H dx (exd dx [(fld, y)])) a (exo a C (some dx))) h5 := fun b o q => by
    by_cases hb : b = a
    · subst hb
      rw [upd_same] at q
      cases q
      exact exo_ok hx
    · rw [upd_ne hb] at q
      by_cases hd : b = dx
      · subst hd
        rw [upd_same] at q
        cases q
        exact exd_ok hn (relO_put (fs := []) ry fun g => True.intro)
      · rw [upd_ne hd] at q
        exact (e0.hok b o q).stay (fun c v hc z => k c v (by
            rcases hc with hc | hc
            · rw [hc]
              exact hb
            · exact at_ne ea hc exo_own) z)
          (fun c hc => by rw [upd_ne (at_ne ea hc exo_own), upd_ne (ne_of_none hc hnd)]; exact hc) (fun c xs hc => by rw [upd_ne (at_ne ea hc exo_tup), upd_ne (ne_of_none hc hnd)]; exact hc)
  exact ⟨.non, _, rfl, e0.bare, Un1, hok5, rfl, hq dx hnd dne⟩
end L2
namespace L3
open PySem PySem.Spec L2
section
variable {X : Cx} {e : Expr} {m : Me} {x f : Str} {p pos pos2 : Pos} {k : Nat}
end
end L3
namespace L3
open PySem PySem.Spec L2 PyProof.Rows PySem.Calls
/-- the text of such an __init__ -/
structure SxT (f cda cc : Addr) (slf arg fld text qual : Str) (params : Arguments) (scope : Scope) (j0 : Nat) (p0 p1 p2 p3 p4 p5 p6 p7 p8 q0 : Pos) : Prop where
  par : ∃ ar, (params.posonlyargs ++ params.args).head? = some ar ∧ ar.arg = slf
  ne : arg ≠ slf
  ks : scope.names.lookup ("super" : Str) = some .globalImplicit
  kc : scope.names.lookup ("__class__" : Str) = some .free
  kS : scope.names.lookup slf = some .local
  kA : scope.names.lookup arg = some .local
  cell : ∀ x ∈ scope.names, x.2 ≠ .cell
  kind : scope.kind = .function
  co : scope.isCoroutine = false
  gen : scope.isGenerator = false
  dS : (slf == ("__debug__" : Str)) = false
  dA : (arg == ("__debug__" : Str)) = false
  hI : ∀ L, interactive (PySem.W.ksEnv qual scope L f (.ref cda) cc) = false
  hE : ∀ L, ∃ pl, eval (sxCall text j0 p0 p1 p2 p3 q0) (PySem.W.ksEnv qual scope L f (.ref cda) cc) = (do
      let ov ← attributeBase (.Call (.Name "super" p0) [] [] p1) "__init__" (PySem.W.ksEnv qual scope L f (.ref cda) cc) (eval (.Call (.Name "super" p0) [] [] p1) (PySem.W.ksEnv qual scope L f (.ref cda) cc))
      standAt p2.atName
      let (fx, first) ← holding [ov] (getMethod ov "__init__" pl)
      callWith p3 fx first (backTo p3 (starEach [.Constant (.str text) j0 q0] (PySem.W.ksEnv qual scope L f (.ref cda) cc))) [])
  hs1 : ∀ L, swapsWith (sxCall text j0 p0 p1 p2 p3 q0) none p4.line (PySem.W.ksEnv qual scope L f (.ref cda) cc) = pure false
  hs2 : ∀ L, swapsWith (.Name arg p7) (some (.Attribute (.Name slf p5) fld p6)) p8.line (PySem.W.ksEnv qual scope L f (.ref cda) cc) = pure false
abbrev sxFn (self arg fld text name qual : Str) (params : Arguments) (scope : Scope) (j0 : Nat) (p0 p1 p2 p3 p4 p5 p6 p7 p8 q0 : Pos) (dV kV doc pm : Value) (an : Option Addr) (cda : Addr) (ct : Value) (cc : Addr) : FuncData :=
  PySem.W.ksFn name qual params [.Expr (.Call (.Attribute (.Call (.Name "super" p0) [] [] p1) "__init__" p2) [.Constant (.str text) j0 q0] [] p3) p4, .Assign [.Attribute (.Name self p5) fld p6] (.Name arg p7) p8] scope dV kV doc pm an (.ref cda) ct cc
end L3
set_option Elab.async false
set_option linter.all false
set_option maxRecDepth 100000
set_option maxHeartbeats 2000000
namespace L3
open PySem PySem.Spec L2 PyProof.Rows
section
variable {X : Cx} {pins : List (Addr × Obj)} {σ : L2.St} {H : Hp} {s : Shared} {a : Addr} {oe : Obj} {vs : Array Value} {cls : Value} {d : Option Addr}
theorem exh_ok {P : Program} {w : World} {h : Heap} (e : h.get? a = some oe) (z : Zc cls d oe) (hd : oe.data = .fields vs) : ObjOk P w H h a (exh a cls d) :=
  ⟨⟨oe, vs, e, z, hd⟩, ⟨oe, e⟩, fun _ _ ⟨o, v, q, r⟩ k => ⟨o, v, k o q, r⟩⟩
end
section
variable {X : Cx} {x n : Str} {c : Value} {i : Nat} {body : List Stmt} {np np2 rp pos pos' : Pos} {tb : WX → TS} {Wout : WX}
end
end L3
set_option Elab.async false
set_option linter.all false
set_option maxRecDepth 100000
set_option maxHeartbeats 2000000
namespace L3
open PySem PySem.Spec L2
section
variable {X : Cx} {e tg : Expr} {m o : Me} {elt : Expr} {ifs : List Expr} {scope : Scope} {own : List (Str × Nat)} {g : Mg} {os : List Nat} {mc : Mb} {pos : Pos}
end
section
variable {X : Cx} {x n : Str} {cs : List Str} {f : Str} {i : Nat} {body : List Stmt} {np np2 rp pos pos' : Pos} {mb : MsX}
end
def tXr (K : PySem.W.Frag) (f : Str) (te : TE) : TE := fun σ H Q => te σ H fun x H1 => ∃ (a C : Addr) (d : Option Addr) (dd : Addr) (fs : List (Str × V)) (v : V), x = .ref a ∧ H1 a = some (exh a (.ref C) d) ∧ XfC K C ∧ PySem.W.findIn K (.ref C) f = some none ∧ d = some dd ∧ H1 dd = some (.xd fs) ∧ fs.lookup f = some v ∧ Q v H1
section
open PyProof.Rows
theorem pe_xr {X : Cx} {e : Expr} {te : TE} {pos : Pos} {n : Str} (he : PE X e te) (hb : attributeBase e n X.env (eval e X.env) = eval e X.env := by rfl) : PE X (.Attribute e n pos) (tXr X.K n te) := by
  refine ⟨fun pins s σ H Q I h => ?_⟩
  refine attr_of hb (thn (he.run pins s σ H _ I h) fun u s1 hh => ?_)
  obtain ⟨x, H1, I1, rx, a, C, d, dd, fs, v, ex, hx, T, hno, ed, ea, l, q⟩ := hh
  subst ex
  obtain rfl : u = Value.ref a := rx
  subst ed
  obtain ⟨⟨oe, vs, ha, hz, hd⟩, _⟩ := (I1.hok a _ hx : ObjOk X.prog X.w H1 s1.heap a (exh a (.ref C) (some dd)))
  have hx : ObjOk X.prog X.w H1 s1.heap dd (.xd fs) := I1.hok dd _ ea
  obtain ⟨mA, hns, hr⟩ := hx
  obtain ⟨od, ho, hl⟩ := lookIn_ns hns
  obtain ⟨u, hu, ru⟩ := RelO.some_of (v := v) (o := mA n) (by rw [← l]; exact hr n)
  have J : PySem.W.InstAt s1.heap a oe C (some od) := ⟨ha, hz.1, by unfold PySem.W.notCls; rw [hd] <;> rfl, by rw [hz.2]; exact ho⟩
  exact HandSPX.exc_get I1.kIn J T.ga T.gg T.exC (PySem.W.findObj_own T.hdC hno rfl (by rw [hl, hu])) (handed_of ru) ⟨v, H1, I1.tok _, ru, q⟩
end
end L3
set_option Elab.async false
set_option linter.all false
set_option maxRecDepth 100000
set_option maxHeartbeats 2000000
namespace L3
open PySem PySem.Spec L2
end L3
set_option Elab.async false
set_option linter.all false
set_option maxRecDepth 100000
namespace L3
open PySem PySem.Spec L2
mutual
/-- data as a value of all kinds -/
def up : PyData → Dt
  | .none => .non
  | .bool b => .bl b
  | .int i => .int i
  | .str x => .str x
  | .list xs => .lst (ups xs)
  | .tuple xs => .tup (ups xs)
  | .dict _ => .non
def ups : List PyData → List Dt
  | [] => []
  | x :: xs => up x :: ups xs
end
section
variable {K : PySem.W.Frag} {B : Bk} {M : Mem} {H : Hp}
mutual
theorem Rp.up {G : Hp} : ∀ {v : V} {x : PyData}, Rp K G v x → Rq K G v (up x)
  | _, _, .non => .non
  | _, _, .bl b => .bl b
  | _, _, .int i => .int i
  | _, _, .str x => .str x
  | _, _, .lst e q => .lst e (RpA.up q)
  | _, _, .tup e q => .tup e (RpA.up q)
theorem RpA.up {G : Hp} : ∀ {v : List V} {x : List PyData}, RpA K G v x → RqA K G v (ups x)
  | _, _, .nil => .nil
  | _, _, .cons p q => .cons (Rp.up p) (RpA.up q)
end
theorem RqA.length {G : Hp} : ∀ {v : List V} {x : List Dt}, RqA K G v x → v.length = x.length
  | _, _, .nil => rfl
  | _, _, .cons _ q => by rw [List.length_cons, List.length_cons, RqA.length q]
theorem RqA.append {G : Hp} : ∀ {v w : List V} {x y : List Dt}, RqA K G v x → RqA K G w y → RqA K G (v ++ w) (x ++ y)
  | _, _, _, _, .nil, q => q
  | _, _, _, _, .cons p q, r => .cons p (RqA.append q r)
theorem RqA.get {G : Hp} : ∀ {v : List V} {x : List Dt} {i : Nat} {d : Dt}, RqA K G v x → x[i]? = some d → ∃ u, v[i]? = some u ∧ Rq K G u d
  | _, _, _, _, .nil, e => by simp at e
  | _, _, 0, _, .cons p _, e => by simp at e; subst e; exact ⟨_, rfl, p⟩
  | _, _, i + 1, _, .cons _ q, e => by
    obtain ⟨u, h1, h2⟩ := RqA.get (i := i) q (by simpa using e)
    exact ⟨u, by simpa using h1, h2⟩
theorem RqA.drop {G : Hp} : ∀ {v : List V} {x : List Dt} (n : Nat), RqA K G v x → RqA K G (v.drop n) (x.drop n)
  | _, _, 0, r => r
  | _, _, _ + 1, .nil => .nil
  | _, _, n + 1, .cons _ q => RqA.drop n q
theorem RqA.atI {G : Hp} {v : List V} {x : List Dt} {i : Int} {d : Dt} (r : RqA K G v x) (e : L2.atI x i = some d) : ∃ u, L2.atI v i = some u ∧ Rq K G u d := by
  obtain ⟨j, h1, _, h3⟩ := atI_of (RqA.length r) e
  obtain ⟨u, h4, h5⟩ := RqA.get r h3
  exact ⟨u, by unfold L2.atI; rw [h1]; exact h4, h5⟩
/-- a tree as a value of all kinds -/
def tq : T → Option Dt
  | .d x => some (up x)
  | .q x => some x
  | _ => none
def tqs : List T → Option (List Dt)
  | [] => some []
  | t :: ts => match tq t, tqs ts with
    | some x, some xs => some (x :: xs)
    | _, _ => none
theorem tq_rt {v : V} {t : T} {x : Dt} (r : Rt K B v t) (e : tq t = some x) : Rq K B.G v x := by
  cases t with
  | d y => cases e; exact Rp.up r
  | q y => cases e; exact r
  | mr i => cases e
  | lr i => cases e
  | scr ns => cases e
  | wt xs => cases e
  | exo a c d e' => cases e
theorem tqs_rt : ∀ {vs : List V} {ts : List T} {xs : List Dt}, Paired (Rt K B) vs ts → tqs ts = some xs → RqA K B.G vs xs
  | _, _, _, .nil, e => by
    cases e
    exact .nil
  | _, _, _, .cons (b := t) p q, e => by
    unfold tqs at e
    cases h : tq t with
    | none => rw [h] at e; cases e
    | some x =>
      rw [h] at e
      cases h2 : tqs _ with
      | none => rw [h2] at e; cases e
      | some r =>
        rw [h2] at e
        cases e
        exact .cons (tq_rt p h) (tqs_rt q h2)
/-- a value of all kinds as a tree: what is no list, tuple, dict, object is data -/
def inj : Dt → T
  | .non => .d .none
  | .bl b => .d (.bool b)
  | .int i => .d (.int i)
  | .str x => .d (.str x)
  | x => .q x
theorem inj_rt {v : V} {x : Dt} (r : Rq K B.G v x) : Rt K B v (inj x) := by
  cases r with
  | non => exact Rp.non
  | bl b => exact Rp.bl b
  | int i => exact Rp.int i
  | str s => exact Rp.str s
  | lst e q => exact Rq.lst e q
  | tup e q => exact Rq.tup e q
  | dic e k v q => exact Rq.dic e k v q
  | obj c e => exact Rq.obj c e
  | obj1 c e e2 q => exact Rq.obj1 c e e2 q
  | ins c e => exact Rq.ins c e
@[simp] theorem tq_inj (x : Dt) : tq (inj x) = some x := by cases x <;> rfl
end
def mQTup (r : Ma) : Me := fun τ M Q => r τ M fun ts M1 => ∃ ds, tqs ts = some ds ∧ ds.length ≤ sizeLine ∧ Q (.q (.tup ds)) M1
def mQLst (r : Ma) : Me := fun τ M Q => r τ M fun ts M1 => ∃ ds, tqs ts = some ds ∧ ds.length ≤ sizeLine ∧ Q (.q (.lst ds)) M1
section
variable {X : Cx} {a b c e : Expr} {es : List Expr} {ma mb mc m : Me} {pos : Pos} {mr : Ma}
theorem me_qtup {x1 : Nat} (h : MA X es mr) : ME X (.Tuple es x1 pos) (mQTup mr) := PE.of (pe_tupC h) fun σ H Q' ⟨τ, M, B, Q, h, w, s, k⟩ => by
  refine ⟨τ, M, B, _, h, w, s, fun v t M1 B1 H1 h1 w1 e1 r1 => ?_⟩
  obtain ⟨ds, hd, hl, hq⟩ := h1
  have q := tqs_rt r1 hd
  refine ⟨by rw [RqA.length q]; exact hl, fun p o hp ho => ?_⟩
  obtain ⟨w2, e2⟩ := w1.alloc hp (.frz o (.tup v))
  exact k _ _ M1 _ _ hq w2 (e1.trans e2) (Rq.tup (.inl ⟨o, upd_same, ho⟩) (RqA.mono e2.g q))
theorem me_qlst (h : MA X es mr) : ME X (.List es pos) (mQLst mr) := PE.of (pe_lst h) fun σ H Q' ⟨τ, M, B, Q, h, w, s, k⟩ => by
  refine ⟨τ, M, B, _, h, w, s, fun v t M1 B1 H1 h1 w1 e1 r1 => ?_⟩
  obtain ⟨ds, hd, hl, hq⟩ := h1
  have q := tqs_rt r1 hd
  refine ⟨by rw [RqA.length q]; exact hl, fun p hp => ?_⟩
  obtain ⟨w2, e2⟩ := w1.alloc hp (.lst v)
  exact k _ _ M1 _ _ hq w2 (e1.trans e2) (Rq.lst upd_same (RqA.mono e2.g q))
def oQAdd : F2 := fun x y M Q => match tq x, tq y with
  | some (.lst a), some (.lst b) => a.length + b.length ≤ sizeLine ∧ Q (.q (.lst (a ++ b))) M
  | some (.tup a), some (.tup b) => a.length + b.length ≤ sizeLine ∧ Q (.q (.tup (a ++ b))) M
  | some (.int i), some (.int j) => Q (.d (.int (i + j))) M
  | _, _ => False
theorem opl_qadd {K : PySem.W.Frag} : OpL K (rAdd K) oQAdd := by
  intro x y t u M B H Q Q' h w rx ry k
  unfold oQAdd at h
  split at h
  · rename_i e1 e2
    cases tq_rt rx e1 with
    | lst e1 q1 =>
      cases tq_rt ry e2 with
      | lst e2 q2 =>
        refine .inr (.inr (.inl ⟨_, _, _, _, rfl, rfl, w.le _ _ e1, w.le _ _ e2, ?_, fun p hp => ?_⟩))
        · rw [RqA.length q1, RqA.length q2]
          exact h.1
        · obtain ⟨w', x'⟩ := w.alloc hp (.lst (_ ++ _))
          exact k _ _ M _ _ h.2 w' x' (Rq.lst upd_same (RqA.mono x'.g (RqA.append q1 q2)))
  · rename_i e1 e2
    cases tq_rt rx e1 with
    | tup e1 q1 =>
      cases tq_rt ry e2 with
      | tup e2 q2 =>
        obtain ⟨hl, q⟩ := h
        refine .inr (.inr (.inr ⟨_, _, _, _, rfl, rfl, SqT.mono w.le e1, SqT.mono w.le e2, ?_, fun z => ?_, fun _ z => ?_, fun _ z p o hp ho => ?_⟩))
        · rw [RqA.length q1, RqA.length q2]
          exact hl
        · subst z
          cases q1
          exact k _ _ M B H q w (.refl _ _) (Rq.tup e2 q2)
        · subst z
          cases q2
          rw [List.append_nil] at q
          exact k _ _ M B H q w (.refl _ _) (Rq.tup e1 q1)
        · obtain ⟨w', x'⟩ := w.alloc hp (.frz o (.tup (_ ++ _)))
          exact k _ _ M _ _ q w' x' (Rq.tup (.inl ⟨o, upd_same, ho⟩) (RqA.mono x'.g (RqA.append q1 q2)))
  · rename_i e1 e2
    cases tq_rt rx e1
    cases tq_rt ry e2
    exact .inl ⟨_, _, rfl, rfl, k _ _ M B H h w (.refl _ _) (Rp.int _)⟩
  · exact h.elim
theorem me_qadd (ha : ME X a ma) (hb : ME X b mb) : ME X (.BinOp a .Add b pos) (mOp oQAdd ma mb) := me_op opr_add opl_qadd ha hb
def oQIx : F2 := fun x y M Q => match tq x, y with
  | some (.lst xs), .d (.int j) => ∃ t, atI xs j = some t ∧ Q (inj t) M
  | some (.tup xs), .d (.int j) => ∃ t, atI xs j = some t ∧ Q (inj t) M
  | _, _ => False
theorem opl_qix {K : PySem.W.Frag} : OpL K (rIx2 K) oQIx := by
  intro x y t u M B H Q Q' h w rx ry k
  unfold oQIx at h
  split at h
  · rename_i hx
    cases ry
    cases tq_rt rx hx with
    | lst e q =>
      obtain ⟨d, h1, h2⟩ := h
      obtain ⟨v, h3, h4⟩ := RqA.atI q h1
      exact .inl ⟨_, _, _, v, rfl, rfl, .of (w.le _ _ e), h3, k _ _ M B H h2 w (.refl _ _) (inj_rt h4)⟩
  · rename_i hx
    cases ry
    cases tq_rt rx hx with
    | tup e q =>
      obtain ⟨d, h1, h2⟩ := h
      obtain ⟨v, h3, h4⟩ := RqA.atI q h1
      exact .inr ⟨_, _, _, v, rfl, rfl, SqT.mono w.le e, h3, k _ _ M B H h2 w (.refl _ _) (inj_rt h4)⟩
  · exact h.elim
theorem me_qix (ha : ME X a ma) (hb : ME X b mb) (hs : PlainIx b) : ME X (.Subscript a b pos) (mOp oQIx ma mb) := PE.of (pe_ix ixr ha hb hs) fun _ _ _ h => two opl_qix h
end
def fQLen : FA := fun ts M Q => match ts with
  | [t] => (match tq t with
    | some (.lst xs) => Q (.int xs.length) M
    | some (.tup xs) => Q (.int xs.length) M
    | _ => False)
  | _ => False
theorem cal_qlen {K : PySem.W.Frag} : CaL K (rLen K) fQLen := by
  intro xs ts M B H Q Q' h w r k
  unfold fQLen at h
  split at h
  · obtain ⟨v, rfl, r1⟩ := paired_one r
    split at h
    · rename_i e
      cases tq_rt r1 e with
      | lst e q =>
        refine .inl ⟨_, _, rfl, .inl (.of (w.le _ _ e)), ?_⟩
        rw [RqA.length q]
        exact k _ _ M B H h w (.refl _ _) (Rp.int _)
    · rename_i e
      cases tq_rt r1 e with
      | tup e q =>
        refine .inl ⟨_, _, rfl, .inr (SqT.mono w.le e), ?_⟩
        rw [RqA.length q]
        exact k _ _ M B H h w (.refl _ _) (Rp.int _)
    · exact h.elim
  · exact h.elim
def fQTuple : FA := fun ts M Q => match ts with
  | [t] => (match tq t with
    | some (.lst xs) => Q (.q (.tup xs)) M
    | some (.tup xs) => Q (.q (.tup xs)) M
    | _ => False)
  | _ => False
theorem cal_qtuple {K : PySem.W.Frag} : CaL K (rTuple K) fQTuple := by
  intro xs ts M B H Q Q' h w r k
  unfold fQTuple at h
  split at h
  · obtain ⟨v, rfl, r1⟩ := paired_one r
    split at h
    · rename_i e
      cases tq_rt r1 e with
      | @lst _ ys _ e q =>
        refine ⟨_, _, rfl, .inl ⟨.of (w.le _ _ e), fun l o hl ho => ?_⟩⟩
        obtain ⟨w4, e4⟩ := w.alloc hl (.frz o (.tup ys))
        exact k _ _ M _ _ h w4 e4 (Rq.tup (.inl ⟨o, upd_same, ho⟩) (RqA.mono e4.g q))
    · rename_i e
      cases tq_rt r1 e with
      | tup e q => exact ⟨_, _, rfl, .inr ⟨SqT.mono w.le e, k _ _ M B H h w (.refl _ _) (Rq.tup e q)⟩⟩
    · exact h.elim
  · exact h.elim
section
variable {X : Cx} {e : Expr} {es : List Expr} {mr : Ma} {p pos : Pos}
theorem me_qlen (hg : Gl X "len") (hm : X.mg "len" = none) (ha : MA X (e :: es) mr) (he : starEach (e :: es) X.env = (false, eval e X.env) :: starEach es X.env := by rfl) (hpl : (backTo pos (starEach es X.env)).any (·.1) = false := by rfl) : ME X (.Call (.Name "len" p) (e :: es) [] pos) (mCall fQLen mr) := me_callB cr_len cal_qlen hg hm (by decide +kernel) ha (by decide) (by decide) he hpl
theorem me_qtuple (hg : Gl X "tuple") (hm : X.mg "tuple" = none) (ha : MA X (e :: es) mr) (he : starEach (e :: es) X.env = (false, eval e X.env) :: starEach es X.env := by rfl) (hpl : (backTo pos (starEach es X.env)).any (·.1) = false := by rfl) : ME X (.Call (.Name "tuple" p) (e :: es) [] pos) (mCall fQTuple mr) := me_callTy call_tupleC cal_qtuple hg hm (by decide +kernel) ha (by decide) (by decide) he hpl
end
abbrev Mqs := List Dt → En → Mem → (En → Mem → Prop) → Prop
def qsNil : Mqs := fun xs τ M Q => xs = [] ∧ Q τ M
def qsCons (g : Mg) (r : Mqs) : Mqs := fun xs τ M Q => match xs with
  | x :: ys => g (inj x) τ M fun τ1 M1 => r ys τ1 M1 Q
  | [] => False
def gQTu (n : Nat) (r : Mqs) : Mg := fun t τ M Q => match tq t with
  | some (.tup xs) => xs.length = n ∧ r xs τ M Q
  | _ => False
def rQs (K : PySem.W.Frag) (os : List Nat) (m : Mqs) : TGs := fun vs σ H Q' => ∃ ds τ M B Q, m ds τ M Q ∧ Wd K B M H ∧ Sl K B σ τ ∧ RqA K B.G vs ds ∧ ∀ τ' M' B' σ' H', Q τ' M' → Wd K B' M' H' → Ext B H B' H' → Sl K B' σ' τ' → Ag os σ σ' → Q' σ' H'
abbrev MQs (X : Cx) (es : List Expr) (os : List Nat) (m : Mqs) : Prop := PGs X es (rQs X.K os m)
section
variable {X : Cx} {e : Expr} {es : List Expr} {g : Mg} {gr : Mqs} {pos : Pos}
theorem mqs_nil : MQs X [] [] qsNil := PGs.of pgs_nil fun v σ H Q' ⟨ds, τ, M, B, Q, h, w, s, r, k⟩ => by
  obtain ⟨rfl, q⟩ := h
  cases r
  exact ⟨rfl, k _ M B _ H q w (.refl _ _) s ⟨rfl, fun _ _ => rfl⟩⟩
theorem mqs_cons {o1 o2 : List Nat} (h1 : MG X e o1 g) (h2 : MQs X es o2 gr) (hs : (assignEach (e :: es) X.env).map (·.2) = assign e X.env :: (assignEach es X.env).map (·.2) := by rfl) : MQs X (e :: es) (o1 ++ o2) (qsCons g gr) :=
  PGs.of (pgs_cons h1 h2 hs) fun v σ H Q' ⟨ds, τ, M, B, Q, h, w, s, r, k⟩ => by
  unfold qsCons at h
  split at h
  · cases r with
    | cons p q =>
      refine ⟨_, _, rfl, _, τ, M, B, _, h, w, s, inj_rt p, fun τ1 M1 B1 σ1 H1 h1 w1 e1 s1 a1 => ?_⟩
      exact ⟨_, τ1, M1, B1, Q, h1, w1, s1, RqA.mono e1.g q, fun τ2 M2 B2 σ2 H2 h2 w2 e2 s2 a2 => k τ2 M2 B2 σ2 H2 h2 w2 (e1.trans e2) s2 (a1.trans a2)⟩
  · exact h.elim
theorem mg_qtup {os : List Nat} {k : Nat} {n : Nat} (hc : X.calm = true) (h : MQs X es os gr) (hn : (assignEach es X.env).length = n := by rfl) (hst : (assignEach es X.env).findIdx? (·.1) = none := by rfl) : MG X (.Tuple es k pos) os (gQTu n gr) :=
  PG.of (pg_tup hc h hn hst) fun v σ H Q' ⟨t, τ, M, B, Q, h, w, s, r, k⟩ => by
  unfold gQTu at h
  split at h
  · rename_i he
    cases tq_rt r he with
    | tup e q => exact ⟨_, _, rfl, SqT.mono w.le e, (RqA.length q).trans h.1, _, τ, M, B, Q, h.2, w, s, q, k⟩
  · exact h.elim
end
section
variable {X : Cx} {e c tg : Expr} {m : Me} {mr : Ma} {pos : Pos}
end
end L3
set_option Elab.async false
set_option linter.all false
set_option maxRecDepth 100000
set_option maxHeartbeats 1000000
namespace L3
open PySem PySem.Spec L2
mutual
/-- what stands in the heap, dicts too -/
inductive Sw (h : Heap) : Value → PyData → Prop
  | non : Sw h .none .none
  | bl (b : Bool) : Sw h (.bool b) (.bool b)
  | int (i : Int) (t : Tok) : Sw h (.int i t) (.int i)
  | str (x : Str) (t : Tok) : Sw h (.str x t) (.str x)
  | lst {a : Addr} {o : Obj} {us : List Value} {n : Nat} {ds : List PyData} : h.get? a = some o → o.cls = .type "list" → o.data = .seq us.toArray n → SwA h us ds → Sw h (.ref a) (.list ds)
  | tup {a : Addr} {o : Obj} {us : List Value} {n : Nat} {ds : List PyData} : h.get? a = some o → o.cls = .type "tuple" → o.data = .seq us.toArray n → SwA h us ds → Sw h (.ref a) (.tuple ds)
  | dic {a : Addr} {o : Obj} {es : Array DictEntry} {n : Nat} {kvs : List (PyData × PyData)} : h.get? a = some o → o.cls = .type "dict" → o.data = .dict es n → (a == sysModules) = false →
      SwA h (es.toList.map DictEntry.key) (kvs.map Prod.fst) → SwA h (es.toList.map DictEntry.val) (kvs.map Prod.snd) → Sw h (.ref a) (.dict kvs)
inductive SwA (h : Heap) : List Value → List PyData → Prop
  | nil : SwA h [] []
  | cons {u : Value} {us : List Value} {d : PyData} {ds : List PyData} : Sw h u d → SwA h us ds → SwA h (u :: us) (d :: ds)
end
/-- read, and shown within what stands -/
def Shows (P : Program) (w : World) (h : Heap) (u : Value) (d : PyData) : Prop := (∃ as, Reads h u d as) ∧ ∃ bs, ReadAtMost h d.depth bs ∧ ReprK P w bs h d.depth u d.shown
def ShowsA (P : Program) (w : World) (h : Heap) (us : List Value) (ds : List PyData) : Prop := (∃ as, ReadsAll h us ds as) ∧ ∃ bs, ReadAtMost h (PyData.depthAll ds) bs ∧ ReprAllK P w bs h (PyData.depthAll ds) us (PyData.shownAll ds)
section
variable {P : Program} {w : World} {h : Heap}
theorem shows_lst {a : Addr} {o : Obj} {us : List Value} {n : Nat} {ds : List PyData} (g : h.get? a = some o) (c : o.cls = .type "list") (e : o.data = .seq us.toArray n) (k : ShowsA P w h us ds) : Shows P w h (.ref a) (.list ds) := by
  obtain ⟨⟨as, r⟩, bs, hb, q⟩ := k
  have R : Reads h (.ref a) (.list ds) (a :: as) := .list g c e r
  have far : a ∉ bs := not_mem_of_deeper R (by simp only [PyData.depth]; omega) hb
  refine ⟨⟨_, R⟩, a :: bs, .cons R (by simp only [PyData.depth]; omega) hb, ?_⟩
  simp only [PyData.depth, PyData.shown]
  cases us with
  | nil =>
    cases ds with
    | nil =>
      simp only [PyData.shownAll, listText_nil]
      exact .listEmpty g c e
    | cons x l => cases (show ReadsAll h [] (x :: l) as from r)
  | cons x l => exact .list g c e far (by rw [q.length_eq, List.size_toArray]) fun i y z => q.item i y (by rwa [List.getElem?_toArray] at z)
theorem shows_tup {a : Addr} {o : Obj} {us : List Value} {n : Nat} {ds : List PyData} (g : h.get? a = some o) (c : o.cls = .type "tuple") (e : o.data = .seq us.toArray n) (k : ShowsA P w h us ds) : Shows P w h (.ref a) (.tuple ds) := by
  obtain ⟨⟨as, r⟩, bs, hb, q⟩ := k
  have R : Reads h (.ref a) (.tuple ds) as := .tuple g c e r
  have far : a ∉ bs := not_mem_of_deeper R (by simp only [PyData.depth]; omega) hb
  refine ⟨⟨_, R⟩, a :: bs, .cons R (by simp only [PyData.depth]; omega) hb, ?_⟩
  simp only [PyData.depth, PyData.shown]
  exact .tuple g c e far q
theorem shows_dic {a : Addr} {o : Obj} {es : Array DictEntry} {n : Nat} {kvs : List (PyData × PyData)} (g : h.get? a = some o) (c : o.cls = .type "dict") (e : o.data = .dict es n) (ns : (a == sysModules) = false)
    (k1 : ShowsA P w h (es.toList.map DictEntry.key) (kvs.map Prod.fst)) (k2 : ShowsA P w h (es.toList.map DictEntry.val) (kvs.map Prod.snd)) : Shows P w h (.ref a) (.dict kvs) := by
  obtain ⟨⟨as, r⟩, bs, hb, q⟩ := k1
  obtain ⟨⟨as2, r2⟩, cs, hc, q2⟩ := k2
  have R : Reads h (.ref a) (.dict kvs) _ := .dict g c e r r2
  have all : ReadAtMost h (PyData.depthKv kvs) (bs ++ cs) := .append (.mono hb (PyData.depthAll_keys_le kvs)) (.mono hc (PyData.depthAll_vals_le kvs))
  have far : a ∉ bs ++ cs := not_mem_of_deeper R (by simp only [PyData.depth]; omega) all
  refine ⟨⟨_, R⟩, a :: (bs ++ cs), .cons R (by simp only [PyData.depth]; omega) all, ?_⟩
  simp only [PyData.depth, PyData.shown, PyData.shownKv_eq]
  exact .dict g c e ns far (.of_two _ _ _ (q.more_le (fun b hm => List.mem_append_left _ hm) (PyData.depthAll_keys_le kvs)) (q2.more_le (fun b hm => List.mem_append_right _ hm) (PyData.depthAll_vals_le kvs)))
mutual
theorem Sw.shows : ∀ {u : Value} {d : PyData}, Sw h u d → d.showable = true → d.shown.length ≤ sizeLine → Shows P w h u d
  | _, _, .non, _, _ => ⟨⟨_, .none⟩, [], (fun _ z => nomatch z), by simp only [PyData.shown]; exact .of_is .none _ _ _⟩
  | _, _, .bl b, _, _ => ⟨⟨_, .bool b⟩, [], (fun _ z => nomatch z), by simp only [PyData.shown]; exact .of_is (.bool b) _ _ _⟩
  | _, _, .int i t, s, _ => ⟨⟨_, .int i t⟩, [], (fun _ z => nomatch z), by simp only [PyData.shown]; exact .of_is (.int t (of_decide_eq_true s)) _ _ _⟩
  | _, _, .str x t, _, z => ⟨⟨_, .str x t⟩, [], (fun _ z => nomatch z), by simp only [PyData.shown]; exact .of_is (.str x t z) _ _ _⟩
  | _, _, .lst g c e k, s, z => shows_lst g c e (SwA.shows k s fun t m => Nat.le_trans (listText_mem_le m) z)
  | _, _, .tup g c e k, s, z => shows_tup g c e (SwA.shows k s fun t m => Nat.le_trans (tupleText_mem_le m) z)
  | _, _, .dic (kvs := kvs) g c e n k1 k2, s, z => by
    obtain ⟨s1, s2⟩ := PyData.showableKv_split _ s
    refine shows_dic g c e n (SwA.shows k1 s1 fun t m => ?_) (SwA.shows k2 s2 fun t m => ?_)
    · obtain ⟨p, m1, m2⟩ := PyData.shownKv_key_le kvs t m
      exact Nat.le_trans m2 (Nat.le_trans (dictText_mem_le m1) z)
    · obtain ⟨p, m1, m2⟩ := PyData.shownKv_val_le kvs t m
      exact Nat.le_trans m2 (Nat.le_trans (dictText_mem_le m1) z)
theorem SwA.shows : ∀ {us : List Value} {ds : List PyData}, SwA h us ds → PyData.showableAll ds = true → (∀ t ∈ PyData.shownAll ds, t.length ≤ sizeLine) → ShowsA P w h us ds
  | _, _, .nil, _, _ => ⟨⟨_, .nil⟩, [], (fun _ z => nomatch z), .nil⟩
  | _, _, .cons (d := d) (ds := ds) k r, s, z => by
    have s' : d.showable = true ∧ PyData.showableAll ds = true := by simpa [PyData.showableAll] using s
    obtain ⟨⟨as, r1⟩, bs, hb, q1⟩ := Sw.shows k s'.1 (z _ (by simp only [PyData.shownAll]; exact List.mem_cons_self))
    obtain ⟨⟨as2, r2⟩, cs, hc, q2⟩ := SwA.shows r s'.2 fun t m => z t (by simp only [PyData.shownAll]; exact List.mem_cons_of_mem _ m)
    have l1 : d.depth ≤ PyData.depthAll (d :: ds) := by simp only [PyData.depthAll]; exact Nat.le_max_left _ _
    have l2 : PyData.depthAll ds ≤ PyData.depthAll (d :: ds) := by simp only [PyData.depthAll]; exact Nat.le_max_right _ _
    refine ⟨⟨_, .cons r1 r2⟩, bs ++ cs, .append (.mono hb l1) (.mono hc l2), ?_⟩
    have e : PyData.shownAll (d :: ds) = d.shown :: PyData.shownAll ds := by simp only [PyData.shownAll]
    rw [e]
    exact .cons ((q1.more fun b hm => List.mem_append_left _ hm).level_le l1) (q2.more_le (fun b hm => List.mem_append_right _ hm) l2)
end
/-- repr of a value that stands in the heap -/
theorem Sw.repr {s : Shared} {A : Around} {E : Value → Shared → Prop} {Q : Value → Shared → Prop} {a : Addr} {d : PyData} (k : Sw s.heap (.ref a) d) (sh : d.showable = true) (sz : d.shown.length ≤ sizeLine) (hg : A.guards = some []) (hu : A.units + (d.depth + 1) < cLine)
    (hQ : ∀ h' u tk, (∀ b o, s.heap.get? b = some o → h'.get? b = some o) → Q (.str d.shown u) { s with heap := h', toks := tk }) : wpAny (model P w) A (call (.builtin "repr") [.ref a]) Q E s := by
  have st : ∀ b o, s.heap.get? b = some o → s.heap.get? b = some o := fun _ _ z => z
  have room : A.in1.units + d.depth < cLine := by show A.units + 1 + d.depth < cLine; omega
  have hq : ∀ h' u tk, (∀ b o, s.heap.get? b = some o → h'.get? b = some o) → ∃ x t, Value.str d.shown u = .str x t ∧ Q (.str x t) { s with heap := h', toks := tk } := fun h' u tk z => ⟨_, _, rfl, hQ h' u tk z⟩
  cases k with
  | @lst _ o us n ds g c e k =>
    obtain ⟨⟨as, r⟩, bs, hb, q⟩ := SwA.shows (P := P) (w := w) k sh fun t m => Nat.le_trans (listText_mem_le m) sz
    have far : a ∉ bs := not_mem_of_deeper (.list g c e r) (by simp only [PyData.depth]; omega) hb
    simp only [PyData.depth] at room
    simp only [PyData.shown] at hQ
    refine call_repr_slot (by omega) ⟨o, g, c⟩ F.slot_list_repr.toG ?_
    cases us with
    | nil =>
      cases (show ReadsAll s.heap [] ds as from r)
      simp only [PyData.shownAll, listText_nil] at hQ
      exact call_list_repr_empty ⟨o, g, c⟩ g e ⟨_, _, rfl, hQ s.heap _ _ fun _ _ z => z⟩
    | cons x l => exact call_list_reprK g c e far (by rw [q.length_eq, List.size_toArray]) (fun i y z => q.item i y (by rwa [List.getElem?_toArray] at z)) hg (fun b _ => .nil b) room st (fun h' u tk z => ⟨_, _, rfl, hQ h' u tk z⟩) sz
  | @tup _ o us n ds g c e k =>
    obtain ⟨⟨as, r⟩, bs, hb, q⟩ := SwA.shows (P := P) (w := w) k sh fun t m => Nat.le_trans (tupleText_mem_le m) sz
    have far : a ∉ bs := not_mem_of_deeper (.tuple g c e r) (by simp only [PyData.depth]; omega) hb
    simp only [PyData.depth] at room
    simp only [PyData.shown] at hQ
    refine call_repr_slot (by omega) ⟨o, g, c⟩ F.slot_tuple_repr ?_
    exact call_tuple_reprK g c e far q hg (fun b _ => .nil b) room st (fun h' u tk z => ⟨_, _, rfl, hQ h' u tk z⟩) sz
  | @dic _ o es n kvs g c e ns k1 k2 =>
    obtain ⟨s1, s2⟩ := PyData.showableKv_split _ sh
    obtain ⟨⟨as, r1⟩, bs, hb, q1⟩ := SwA.shows (P := P) (w := w) k1 s1 fun t m => by
      obtain ⟨p, m1, m2⟩ := PyData.shownKv_key_le kvs t m
      exact Nat.le_trans m2 (Nat.le_trans (dictText_mem_le m1) sz)
    obtain ⟨⟨as2, r2⟩, cs, hc, q2⟩ := SwA.shows (P := P) (w := w) k2 s2 fun t m => by
      obtain ⟨p, m1, m2⟩ := PyData.shownKv_val_le kvs t m
      exact Nat.le_trans m2 (Nat.le_trans (dictText_mem_le m1) sz)
    have all : ReadAtMost s.heap (PyData.depthKv kvs) (bs ++ cs) := .append (.mono hb (PyData.depthAll_keys_le kvs)) (.mono hc (PyData.depthAll_vals_le kvs))
    have far : a ∉ bs ++ cs := not_mem_of_deeper (.dict g c e r1 r2) (by simp only [PyData.depth]; omega) all
    simp only [PyData.depth] at room
    have sz' := sz
    simp only [PyData.shown, PyData.shownKv_eq] at hQ sz'
    refine call_repr_slot (by omega) ⟨o, g, c⟩ F.slot_dict_repr ?_
    exact call_dict_reprK g c e ns far (.of_two _ _ _ (q1.more_le (fun b hm => List.mem_append_left _ hm) (PyData.depthAll_keys_le kvs)) (q2.more_le (fun b hm => List.mem_append_right _ hm) (PyData.depthAll_vals_le kvs)))
      hg (fun b _ => .nil b) room st (fun h' u tk z => ⟨_, _, rfl, hQ h' u tk z⟩) sz'
end
/-- a key as data -/
def keyP : Key → PyData
  | .inl i => .int i
  | .inr x => .str x
mutual
/-- a value of all kinds as data, where no object stands in it -/
def pd : Dt → Option PyData
  | .non => some .none
  | .bl b => some (.bool b)
  | .int i => some (.int i)
  | .str x => some (.str x)
  | .lst xs => (pds xs).map .list
  | .tup xs => (pds xs).map .tuple
  | .dic ks xs => (pds xs).map fun ys => .dict ((ks.map keyP).zip ys)
  | .obj _ _ _ => none
def pds : List Dt → Option (List PyData)
  | [] => some []
  | x :: xs => match pd x, pds xs with
    | some y, some ys => some (y :: ys)
    | _, _ => none
end
theorem pds_len : ∀ {xs : List Dt} {ys : List PyData}, pds xs = some ys → xs.length = ys.length
  | [], ys, e => by cases e; rfl
  | x :: xs, ys, e => by
    unfold pds at e
    split at e
    · rename_i h1 h2
      cases e
      rw [List.length_cons, List.length_cons, pds_len h2]
    · cases e
section
variable {X : Cx} {pins : List (Addr × Obj)} {σ : L2.St} {H : Hp} {s : Shared}
theorem swa_keys {P : Program} {w : World} {h : Heap} : ∀ {es : List DictEntry} {vs : List (Key × Value)}, Pairs (mixKind P w) es vs → SwA h (es.map DictEntry.key) ((vs.map (·.1)).map keyP) ∧ es.map DictEntry.val = vs.map (·.2)
  | _, _, .nil => ⟨.nil, rfl⟩
  | _, _, .cons (e := e) (kv := kv) k v r => by
    obtain ⟨r1, r2⟩ := swa_keys (h := h) r
    refine ⟨.cons ?_ r1, by rw [List.map_cons, List.map_cons, r2, v]⟩
    rcases keyIs_shape (show keyIs kv.1 e.key = true from k) with ⟨i, t, h1, h2⟩ | ⟨x, t, h1, h2⟩
    · show Sw h e.key (keyP kv.1)
      rw [h1, h2]; exact .int i t
    · show Sw h e.key (keyP kv.1)
      rw [h1, h2]; exact .str x t
theorem kv_vals {kvs : List (Key × V)} {vs : List (Key × Value)} (h : KV kvs vs) : vs.map (·.1) = kvs.map (·.1) ∧ Vals (kvs.map (·.2)) (vs.map (·.2)) := by
  induction h with
  | nil => exact ⟨rfl, .nil⟩
  | cons f _ ih => exact ⟨by rw [List.map_cons, List.map_cons, ih.1, f.1], .cons f.2 ih.2⟩
mutual
theorem Rq.sw (I : Inv X pins σ H s) : ∀ (x : Dt) (v : V) (u : Value) (y : PyData), Rq X.K H v x → RelV v u → pd x = some y → Sw s.heap u y
  | .non, _, _, _, h, r, e => by cases h; cases r; cases e; exact .non
  | .bl b, _, _, _, h, r, e => by cases h; cases r; cases e; exact .bl b
  | .int i, _, _, _, h, r, e => by cases h; obtain ⟨t, rfl⟩ := r; cases e; exact .int i t
  | .str x, _, _, _, h, r, e => by cases h; obtain ⟨t, rfl⟩ := r; cases e; exact .str x t
  | .lst xs, _, _, _, h, r, e => by
    cases h with
    | lst hs ha =>
      cases r
      obtain ⟨its, rv, ⟨o, n, ho, hc, _, hd⟩, _⟩ := I.list (.of hs)
      unfold pd at e
      obtain ⟨ys, e1, e2⟩ := Option.map_eq_some_iff.mp e
      subst e2
      exact .lst ho hc hd (RqA.sw I xs _ _ _ ha rv e1)
  | .tup xs, _, _, _, h, r, e => by
    cases h with
    | tup hs ha =>
      cases r
      obtain ⟨its, rv, ⟨o, ho, hc, n, hd⟩, _⟩ := I.tuple hs.t
      unfold pd at e
      obtain ⟨ys, e1, e2⟩ := Option.map_eq_some_iff.mp e
      subst e2
      exact .tup ho hc hd (RqA.sw I xs _ _ _ ha rv e1)
  | .dic ks xs, _, _, _, h, r, e => by
    cases h with
    | @dic a kvs _ vs _ hs hk hv ha =>
      cases r
      obtain ⟨_, ns, us, ku, o, es, ep, ho, ⟨hc, _, _⟩, hd, _, hp, _⟩ := (I.hok a _ hs : ObjOk X.prog X.w H s.heap a (.dK kvs))
      unfold pd at e
      obtain ⟨ys, e1, e2⟩ := Option.map_eq_some_iff.mp e
      subst e2
      obtain ⟨k1, k2⟩ := swa_keys (h := s.heap) hp
      obtain ⟨v1, v2⟩ := kv_vals ku
      have l : (ks.map keyP).length = ys.length := by
        rw [List.length_map, ← pds_len e1, ← RqA.length ha, ← hv, ← hk, List.length_map, List.length_map]
      refine .dic ho hc hd ns ?_ ?_
      · rw [List.map_fst_zip (Nat.le_of_eq l), ← hk, ← v1]
        exact k1
      · rw [List.map_snd_zip (Nat.le_of_eq l.symm), k2]
        subst hv
        exact RqA.sw I xs _ _ _ ha v2 e1
  | .obj _ _ _, _, _, _, _, _, e => by cases e
theorem RqA.sw (I : Inv X pins σ H s) : ∀ (xs : List Dt) (vs : List V) (us : List Value) (ys : List PyData), RqA X.K H vs xs → Vals vs us → pds xs = some ys → SwA s.heap us ys
  | [], _, _, _, h, r, e => by cases h; cases r; cases e; exact .nil
  | x :: xs, _, _, _, h, r, e => by
    cases h with
    | cons h1 h2 =>
      cases r with
      | cons r1 r2 =>
        unfold pds at e
        split at e
        · rename_i p1 p2
          cases e
          exact .cons (Rq.sw I x _ _ _ h1 r1 p1) (RqA.sw I xs _ _ _ h2 r2 p2)
        · cases e
end
end
structure OkShowQ (x : PyData) : Prop where
  sh : x.showable = true
  dp : x.depth ≤ 100
  ln : x.shown.length ≤ sizeLine
/-- .. a list of the deck too, as it stands now -/
def tqM (t : T) (M : Mem) : Option Dt := match t with
  | .mr n => (match M.D[n]? with
    | some (.lst ts) => (tqs ts).map .lst
    | _ => none)
  | t => tq t
theorem tqM_rt {K : PySem.W.Frag} {B : Bk} {M : Mem} {H : Hp} (w : Wd K B M H) {v : V} {t : T} {x : Dt} (r : Rt K B v t) (e : tqM t M = some x) : Rq K H v x := by
  unfold tqM at e
  split at e
  · split at e
    · rename_i n _ ts hD
      obtain ⟨a, rfl, ha⟩ := r
      obtain ⟨xs, e1, e2⟩ := Option.map_eq_some_iff.mp e
      subst e2
      obtain ⟨_, vs, h1, h2⟩ := w.dc _ _ _ ha hD
      exact .lst h1 (RqA.mono w.le (tqs_rt (B := { B with l := [] }) h2 e1))
    · cases e
  · exact Rq.mono w.le (tq_rt r e)
def fQRepr : FA := fun ts M Q => match ts with
  | [t] => ∃ x y, tqM t M = some x ∧ pd x = some y ∧ OkShowQ y ∧ Q (.str y.shown) M
  | _ => False
def rReprQ (K : PySem.W.Frag) : List V → Hp → VK → Prop := fun xs H Q => ∃ v x y, xs = [v] ∧ Rq K H v x ∧ pd x = some y ∧ OkShowQ y ∧ Q (.str y.shown) H
theorem cal_qrepr {K : PySem.W.Frag} : CaL K (rReprQ K) fQRepr := by
  intro xs ts M B H Q Q' h w r k
  unfold fQRepr at h
  split at h
  · obtain ⟨v, rfl, r1⟩ := paired_one r
    obtain ⟨x, y, e, e2, o, q⟩ := h
    exact ⟨v, x, y, rfl, tqM_rt w r1 e, e2, o, k _ _ M B H q w (.refl _ _) (Rp.str _)⟩
  · exact h.elim
theorem cr_qrepr {X : Cx} {k : Nat} (gd : Gd X.A) (rm : Room k X.A) : CallR X (.builtin "repr") (rReprQ X.K) := by
  intro pn sh sg hp xs us Q iv rv h
  obtain ⟨v, x, y, rfl, hd, e, ok, q⟩ := h
  cases rv with
  | cons r1 rr =>
    cases rr
    have un := rm.un
    have dp := ok.dp
    have fin : ∀ (h' : Heap) (u : Tok) (tk : Nat), (∀ b o, sh.heap.get? b = some o → h'.get? b = some o) → EP X pn sg Q (.str y.shown u) { sh with heap := h', toks := tk } := fun h' u tk z => ⟨.str y.shown, hp, iv.kept z, ⟨_, rfl⟩, q⟩
    have sw := Rq.sw iv x v _ y hd r1 e
    cases sw with
    | non => exact PySem.P.repr_of_none (fin _ _ _ fun _ _ z => z)
    | bl b => exact PySem.P.repr_of_bool (fin _ _ _ fun _ _ z => z)
    | int i t => exact PySem.P.repr_of_int (of_decide_eq_true ok.sh) (fin _ _ _ fun _ _ z => z)
    | str z t => exact PySem.P.repr_of_str (fin _ _ _ fun _ _ z => z) ok.ln
    | lst g c d r => exact Sw.repr (.lst g c d r) ok.sh ok.ln gd (by omega) fin
    | tup g c d r => exact Sw.repr (.tup g c d r) ok.sh ok.ln gd (by omega) fin
    | dic g c d n k1 k2 => exact Sw.repr (.dic g c d n k1 k2) ok.sh ok.ln gd (by omega) fin
theorem me_qrepr {X : Cx} {e : Expr} {es : List Expr} {mr : Ma} {p pos : Pos} {k : Nat} (gd : Gd X.A) (rm : Room k X.A) (hg : Gl X "repr") (hm : X.mg "repr" = none) (ha : MA X (e :: es) mr) (he : starEach (e :: es) X.env = (false, eval e X.env) :: starEach es X.env := by rfl) (hpl : (backTo pos (starEach es X.env)).any (·.1) = false := by rfl) : ME X (.Call (.Name "repr" p) (e :: es) [] pos) (mCall fQRepr mr) := me_callB (cr_qrepr gd rm) cal_qrepr hg hm (by decide +kernel) ha (by decide) (by decide) he hpl
end L3
set_option Elab.async false
set_option linter.all false
set_option maxRecDepth 100000
set_option maxHeartbeats 2000000
namespace PySem.YK
open PySem PySem.Spec PySem.HandSPX
section
variable {prog : Program} {w : World} {A : Around} {E : Value → Shared → Prop} {R : Result → Shared → Prop} {h : Heap} {g : Array GenState} {d : Drawn} {t : Nat} {os : OsState} {M : Model}
variable {nm q : Str} {C N : Addr} {bs bm bmB : List Value} {hdct : Bool} {sn : List Str} {sub : List Value} {ab : Bool} {col : Option Bool} {dd : Option Addr} {k0 k1 k2 k3 k5 : Option Value} {B newId initId : String}
theorem hasB_own (F : ExcBaseFacts B newId initId bmB) (hT : ∀ X : String, bm.contains (.type X) = bmB.contains (.type X)) : (Value.ref C :: bm).contains (.type B) = true := by
  rw [List.contains_cons, hT, F.hasB, Bool.or_true]
theorem check_new_kw (F : ExcBaseFacts B newId initId bmB) (hT : ∀ X : String, bm.contains (.type X) = bmB.contains (.type X)) {kw : List (Str × Value)} {Q : Unit → Shared → Prop}
    (hC : h.get? C = some (excClassObj nm q C N bs bm hdct sn sub ab col dd k0 k1 k2 k3 k5 newId)) (hq : Q () ⟨h, g, d, t, os⟩) : wpAny M A (checkBuiltinCall newId ⟨[.ref C], kw⟩) Q E ⟨h, g, d, t, os⟩ := by
  have has := hasB_own (C := C) F hT
  have star := F.noStar
  unfold checkBuiltinCall
  simp only [F.newKind, F.newSplit, F.newRow]
  repeat (first | refine wpAny_loadPart_at hC ?_ | (refine wpAny_isSubtype_exc hC ?_; rw [has]) | refine wpAny_staticBase_exc hC ?_ | refine wpAny_madeBy_exc hC ?_ | simp only [bne_self_eq_false, Bool.false_eq_true, if_false] | wp_step)
  exact hq
theorem new_kw (F : ExcBaseFacts B newId initId bmB) (hT : ∀ X : String, bm.contains (.type X) = bmB.contains (.type X)) {kw : List (Str × Value)}
    (hC : h.get? C = some (excClassObj nm q C N bs bm hdct sn sub ab col dd k0 k1 k2 k3 k5 newId))
    (hq : R (.ok (.ret (.ref (h.objs.size + 1)))) ⟨(h.push (W.kdv_tup [])).push (excO C h.objs.size), g, d, t, os⟩) :
    codeAny (model prog w) A (.builtin newId ⟨[.ref C], kw⟩) R ⟨h, g, d, t, os⟩ := by
  have ends := F.ends
  have has := hasB_own (C := C) F hT
  have notA : (Value.ref C :: bm).contains (.type "AttributeError") = false := by
    rw [List.contains_cons, hT, F.noAttr]
    rfl
  have notN : (Value.ref C :: bm).contains (.type "NameError") = false := by
    rw [List.contains_cons, hT, F.noName]
    rfl
  have small : ([] : List Value).length ≤ sizeLine := by
    rw [sizeLine_eq]
    exact Nat.zero_le _
  refine codeAny_builtinAt F.entry ?_
  unfold Builtin.«BaseException.__new__»
  refine wpAt_bind ?_
  show wpAt _ _ _ (stack >>= _) _ _ _
  refine wpAt_bind (wpAt_stack fun p below => wpAt_of_wpAny ?_)
  wp_walk
  refine wpAt_of_wpAny ?_
  rw [F.owner]
  repeat (first | with_reducible refine wpAny_madeHere_exc F.canon hC ?_ | with_reducible refine wpAny_loadPart_at hC ?_ | (with_reducible refine wpAny_isSubtype_exc hC ?_; first | rw [has] | rw [notA] | rw [notN]) | wp_step)
  show R _ _
  rw [Heap.size_push]
  exact hq
theorem type_call_kw (F : ExcBaseFacts B newId initId bmB) (hT : ∀ X : String, bm.contains (.type X) = bmB.contains (.type X)) {kw : List (Str × Value)} {fI : Addr} {Q : Fin → Shared → Prop}
    (hC : h.get? C = some (excClassObj nm q C N bs bm hdct sn sub ab col dd k0 k1 k2 k3 k5 newId))
    (hi : W.Looks (model prog w) h (typeLookup (.ref C) "__init__") (some (.ref fI))) (hb : ∀ self, W.Looks (model prog w) h (bindSpecial (.ref fI) self) (.ref fI, [self]))
    (hq : codeAny (model prog w) A (.call (.ref fI) ⟨[.ref (h.objs.size + 1)], kw⟩)
      (fun r s' => match r with | .ok (.ret v) => v = .none ∧ Q (.done (.ret (.ref (h.objs.size + 1)))) s' | .ok _ => False | .error e => E e s')
      ⟨(h.push (W.kdv_tup [])).push (excO C h.objs.size), g, d, t, os⟩) :
    wpAny (model prog w) A (Builtin.«type.__call__» ⟨[.ref C], kw⟩) Q E ⟨h, g, d, t, os⟩ := by
  repeat (first | with_reducible refine wpAny_loadPart_at hC ?_ | with_reducible refine wpAny_madeBy_exc hC ?_ | wp_step)
  refine codeAny_call_builtin_code (Code.quiet_builtin _ F.quiet) (check_new_kw F hT hC ?_)
  refine new_kw F hT hC ?_
  show wpAny _ _ _ _ _ _
  have up : ∀ b o, h.get? b = some o → ((h.push (W.kdv_tup [])).push (excO C h.objs.size)).get? b = some o := fun b o e => Heap.get?_push_of_some _ (Heap.get?_push_of_some _ e)
  have hCu := up _ _ hC
  have made : ((h.push (W.kdv_tup [])).push (excO C h.objs.size)).get? (h.objs.size + 1) = some (excO C h.objs.size) := by heap_get
  have self : (Value.ref C :: bm).contains (.ref C) = true := by simp
  have look := hi.keeps up
  have bind := (hb (.ref (h.objs.size + 1))).keeps up
  unfold isInstance
  repeat (first | with_reducible refine wpAny_loadPart_at made ?_ | (with_reducible refine wpAny_isSubtype_exc hCu ?_; rw [self]) | wp_step)
  show wpAny _ _ (typeLookup (.ref C) _) _ _ _
  refine look.at ?_
  refine wpAny_holding (wpAny_bind (bind.at ?_))
  refine wpAny_bind (wpAny_call (codeAny_mono hq fun r s' z => ?_))
  rcases r with e | (v | _ | _ | _) <;> first | exact z | exact z.elim | skip
  obtain ⟨rfl, z⟩ := z
  first
    | exact wpAny_pure (wpAny_pure z)
    | (wp_walk; exact z)
theorem call_kw (F : ExcBaseFacts B newId initId bmB) (hT : ∀ X : String, bm.contains (.type X) = bmB.contains (.type X)) {kw : List (Str × Value)} {fI : Addr}
    (hC : h.get? C = some (excClassObj nm q C N bs bm hdct sn sub ab col dd k0 k1 k2 k3 k5 newId))
    (hi : W.Looks (model prog w) h (typeLookup (.ref C) "__init__") (some (.ref fI))) (hb : ∀ self, W.Looks (model prog w) h (bindSpecial (.ref fI) self) (.ref fI, [self]))
    (hq : codeAny (model prog w) (A.under (.builtin "type.__call__" ⟨[.ref C], kw⟩)) (.call (.ref fI) ⟨[.ref (h.objs.size + 1)], kw⟩) (W.InitBack (h.objs.size + 1) R)
      ⟨(h.push (W.kdv_tup [])).push (excO C h.objs.size), g, d, t, os⟩) :
    codeAny (model prog w) A (.call (.ref C) ⟨[], kw⟩) R ⟨h, g, d, t, os⟩ := by
  have f1 := tc_lookup
  have f2 := tc_bind (.ref C)
  have ty : (⟨h, g, d, t, os⟩ : Shared).TypeIs (.ref C) "type" := ⟨_, hC, rfl⟩
  refine codeAny_of_tree ?_
  show wpAny _ _ (callAny (.ref C) _) _ _ _
  repeat (any_goals (first | assumption | with_reducible refine wpAny_loadPart_at hC ?_ | wp_step))
  refine ⟨rfl, ?_⟩
  refine codeAny_call_builtin_at (Code.quiet_builtin _ (by decide +kernel)) entry_typeCall (wpAny_check_type_call_sub hC (type_call_kw F hT hC hi hb ?_))
  refine codeAny_mono hq fun r s' z => ?_
  rcases r with e | (v | _ | _ | _) <;> exact z
end
end PySem.YK
set_option Elab.async false
set_option linter.all false
set_option maxRecDepth 100000
set_option maxHeartbeats 2000000
namespace L2
open PySem PySem.Spec PyProof.Rows
section
variable {X : Cx} {pins : List (Addr × Obj)} {σ : St} {H : Hp} {s : Shared}
/-- what is known of an object, told another way -/
theorem Inv.recast {a : Addr} {o : HO} {φ : Heap → Prop} (I : Inv X pins σ H s) (ha : H a = some (.ext φ)) (ok : ObjOk X.prog X.w (upd H a o) s.heap a o) : Inv X pins σ (upd H a o) s := by
  have nN : ∀ {b : Addr}, H b = none → b ≠ a := fun {b} n z => by rw [z, ha] at n; cases n
  have nT : ∀ {b : Addr} {xs : List V}, H b = some (.tup xs) → b ≠ a := fun {b xs} n z => by rw [z, ha] at n; cases n
  have nF : ∀ {b : Addr} {p : Obj} {u : HO}, H b = some (.frz p u) → b ≠ a := fun {b p u} n z => by rw [z, ha] at n; cases n
  have nB : ∀ {b : Addr} {ps : Array Value}, H b = some (.tbl ps) → b ≠ a := fun {b ps} n z => by rw [z, ha] at n; cases n
  have nO : ∀ {b c : Addr}, H b = some (.own c) → b ≠ a := fun {b c} n z => by rw [z, ha] at n; cases n
  refine ⟨I.ok, I.os, I.bare, ⟨I.base.keep, I.base.slot, fun b p q n hx => ?_, I.base.there, fun b xs q => ?_, fun b p u q => ?_, fun b ps q => ?_⟩, I.loc, I.cell, ?_, fun x c e => ?_, fun p h => ?_, fun b u e => ?_, I.len⟩
  · have z := I.base.free b p q n hx
    rw [upd_ne (nN z)]
    exact z
  · have z := I.base.tups b xs q
    rw [upd_ne (nT z)]
    exact z
  · have z := I.base.frzs b p u q
    rw [upd_ne (nF z)]
    exact z
  · obtain ⟨more, z⟩ := I.base.tbls b ps q
    exact ⟨more, by rw [upd_ne (nB z)]; exact z⟩
  · rw [upd_ne (nN I.free)]
    exact I.free
  · rw [upd_ne (nN (I.freeC x c e))]
    exact I.freeC x c e
  · obtain ⟨h1, h2, h3⟩ := I.pin p h
    exact ⟨h1, by rw [upd_ne (nN h2)]; exact h2, h3⟩
  · by_cases hb : b = a
    · subst hb
      rw [upd_same] at e
      cases e
      exact ok
    · rw [upd_ne hb] at e
      exact (I.hok b u e).stay (fun c v _ z => z) (fun c q => by rw [upd_ne (nO q)]; exact q) (fun c xs q => by rw [upd_ne (nT q)]; exact q)
/-- made: told as what is read later on -/
theorem mkx_told {a C dx : Addr} {f : Str} {y : V} (hd : H dx = none) (ne : dx ≠ a) {s' : Shared} (I : Inv X pins σ (upd (upd (upd H a (exo a C none)) dx (exd dx [(f, y)])) a (exo a C (some dx))) s') :
    Inv X pins σ (upd (upd H dx (.xd [(f, y)])) a (L3.exh a (.ref C) (some dx))) s' := by
  have I2 := I.recast (a := a) (o := L3.exh a (.ref C) (some dx)) upd_same (by
    obtain ⟨t, ht⟩ := exo_at I.hok upd_same
    exact L3.exh_ok ht ⟨rfl, rfl⟩ rfl)
  have e1 : (upd (upd (upd (upd H a (exo a C none)) dx (exd dx [(f, y)])) a (exo a C (some dx))) a (L3.exh a (.ref C) (some dx))) dx = some (exd dx [(f, y)]) := by
    rw [upd_ne ne, upd_ne ne, upd_same]
  have I3 := I2.recast (a := dx) (o := .xd [(f, y)]) e1 (exd_at I2.hok e1)
  have e : upd (upd (upd (upd (upd H a (exo a C none)) dx (exd dx [(f, y)])) a (exo a C (some dx))) a (L3.exh a (.ref C) (some dx))) dx (.xd [(f, y)]) = upd (upd H dx (.xd [(f, y)])) a (L3.exh a (.ref C) (some dx)) := by
    funext b
    by_cases h1 : b = dx
    · rw [h1, upd_same, upd_ne ne, upd_same]
    · by_cases h2 : b = a
      · rw [h2, upd_ne (Ne.symm ne), upd_same, upd_same]
      · simp only [upd_ne h1, upd_ne h2]
  rw [e] at I3
  exact I3
end
/-- C(x): a new exception that keeps x under f -/
def tMkx (C : Addr) (f : Str) (ta : TA) : TE := fun σ H Q => ta σ H fun vs H1 => ∃ y, vs = [y] ∧ ∀ a dx, H1 a = none → H1 dx = none → dx ≠ a → Q (.ref a) (upd (upd H1 dx (.xd [(f, y)])) a (L3.exh a (.ref C) (some dx)))
section
variable {X : Cx} {e : Expr} {es : List Expr} {kws : List Keyword} {ta : TA} {p pos : Pos} {x : Str} {C fI : Addr} {k : Nat} {fd : FuncData} {ps : List Str} {f arg : Str}
theorem pe_mkx {CX : CXT} (T : OexC X.K C) (iC : PySem.W.findIn X.K (.ref C) "__init__" = some (some (.ref fI))) (tI : PySem.W.typeIn X.K (.ref fI) = some (.type "function"))
    (F1 : FnOk X.prog X.w X.K X.mg X.base CX k fI fd ps (spSx C f)) (hr : Room (k + 1) X.A) (hb : Binds X.K fd ps []) (hx : Passes CX X (fun _ _ _ => False)) (hg : Gl X x) (hm : X.mg x = some (.ref C)) (ha : PA X (e :: es) ta)
    (hdb : (x == ("__debug__" : Str)) = false := by decide) (he : starEach (e :: es) X.env = (false, eval e X.env) :: starEach es X.env := by rfl) (hpl : (backTo pos (starEach es X.env)).any (·.1) = false := by rfl) :
    PE X (.Call (.Name x p) (e :: es) [] pos) (tMkx C f ta) := by
  refine ⟨fun pins s σ H Q I h => ?_⟩
  obtain ⟨nm, q, N, bs, bm, sn, sub, ab, col, dd, k0, k1, k2, k3, k5, hC, hbm⟩ := T.cls
  refine wpAny_Call_Name_kw (ld_glob I hg hm ?_ hdb)
  refine PySem.W.callWith_K (h₀ := X.base) I.ok.mod.kin T.kC (thn (ha.run pos pins s σ H _ I h) fun us s1 hh => ?_) he hpl
  obtain ⟨vs, H1, I1, r1, y, ev, q1⟩ := hh
  subst ev
  refine ⟨I1.kIn, ?_⟩
  show wpAny _ _ (call (.ref C) us) _ _ _
  obtain ⟨hp, g, dr, tk, os⟩ := s1
  have big : hp.objs.size ≤ hp.objs.size + 1 := Nat.le_succ _
  have hn : H1 (hp.objs.size + 1) = none := I1.hok.fresh big
  have up : ∀ b o, hp.get? b = some o → ((hp.push (PySem.W.kdv_tup us)).push (PySem.HandSPX.excO C hp.objs.size)).get? b = some o := fun b o e => Heap.get?_push_of_some _ (Heap.get?_push_of_some _ e)
  have made : ((hp.push (PySem.W.kdv_tup us)).push (PySem.HandSPX.excO C hp.objs.size)).get? (hp.objs.size + 1) = some (PySem.HandSPX.excO C hp.objs.size) := by heap_get
  have I2 := I1.laid (t' := tk) (a := hp.objs.size + 1) (o := exo (hp.objs.size + 1) C none) (h' := (hp.push (PySem.W.kdv_tup us)).push (PySem.HandSPX.excO C hp.objs.size)) up big (exo_ok made)
  have r2 : Vals [V.ref (hp.objs.size + 1), y] (Value.ref (hp.objs.size + 1) :: us ++ []) := by
    rw [List.append_nil]
    exact .cons rfl r1
  have hq : spSx C f [.ref (hp.objs.size + 1), y] (upd H1 (hp.objs.size + 1) (exo (hp.objs.size + 1) C none)) (fun v H2 => v = .non ∧ ∃ dx, H1 dx = none ∧ dx ≠ hp.objs.size + 1 ∧ H2 = upd (upd (upd H1 (hp.objs.size + 1) (exo (hp.objs.size + 1) C none)) dx (exd dx [(f, y)])) (hp.objs.size + 1) (exo (hp.objs.size + 1) C (some dx))) (fun _ _ _ => False) :=
    ⟨_, _, rfl, upd_same, fun dx hdx ne => ⟨rfl, dx, by rwa [upd_ne ne] at hdx, ne, rfl⟩⟩
  have hl : (Value.ref (hp.objs.size + 1) :: us ++ []).length = ps.length := by
    have z := r2.length
    rw [F1.len _ _ _ _ hq] at z
    exact z.symm
  have hus : us.length ≤ sizeLine := by
    rw [← Paired.length r1, sizeLine_eq]
    show 1 ≤ _
    omega
  refine wpAny_call (PySem.HandSPX.call_own F.excBase_ValueError (fun Y => PySem.HandSPX.refsVE_contains Y bm hbm) (I1.kIn _ _ hC) (PySem.W.looks_findIn I1.kIn iC) (fun self => PySem.W.bind_fn I1.kIn self tI) hus
    (codeAny_mono (F1.run _ X.stack _ _ ⟨Value.ref (hp.objs.size + 1) :: us, []⟩ (Value.ref (hp.objs.size + 1) :: us ++ []) _ _ (fun _ _ _ => False) (hr.make C us []) (I2.env0.make C us []) (hb _ (Value.ref (hp.objs.size + 1) :: us) I2.kIn hl) r2 hq) fun r s' hq' => ?_))
  cases r with
  | error er => exact hx pins σ _ _ er s' I2 hq'
  | ok fl =>
    cases fl with
    | ret u =>
      obtain ⟨v, H2, I3, rv, ev, dx, hdx, ne, e2⟩ := I2.after hq'
      subst ev e2
      exact ⟨rv, .ref (hp.objs.size + 1), _, mkx_told hdx ne I3, rfl, q1 _ _ hn hdx ne⟩
    | next => exact False.elim hq'
    | brk => exact False.elim hq'
    | cont => exact False.elim hq'
theorem pe_mkxK {CX : CXT} (T : OexC X.K C) (iC : PySem.W.findIn X.K (.ref C) "__init__" = some (some (.ref fI))) (tI : PySem.W.typeIn X.K (.ref fI) = some (.type "function"))
    (F1 : FnOk X.prog X.w X.K X.mg X.base CX k fI fd ps (spSx C f)) (hr : Room (k + 1) X.A) (hb : ∀ (s : Shared) (a v : Value), BindsTo s fd ⟨[a], [(arg, v)]⟩ (ps.zip [a, v])) (hx : Passes CX X (fun _ _ _ => False)) (hg : Gl X x) (hm : X.mg x = some (.ref C)) (ha : PK X kws ta)
    (hall : (backToKw pos (keywordEach kws X.env)).all (·.1.isSome) = true := by rfl) (hks : (backToKw pos (keywordEach kws X.env)).filterMap (·.1) = [arg] := by rfl) (hdb : (x == ("__debug__" : Str)) = false := by decide)
    (hpl : ((backTo pos (starEach [] X.env)).any (·.1) || (backToKw pos (keywordEach kws X.env)).any (·.1.isNone)) = false := by rfl) :
    PE X (.Call (.Name x p) [] kws pos) (tMkx C f ta) := by
  refine ⟨fun pins s σ H Q I h => ?_⟩
  obtain ⟨nm, q, N, bs, bm, sn, sub, ab, col, dd, k0, k1, k2, k3, k5, hC, hbm⟩ := T.cls
  refine wpAny_Call_Name_kw (ld_glob I hg hm ?_ hdb)
  refine PySem.W.callWith_KW0 (h₀ := X.base) I.ok.mod.kin T.kC hall (thn (ha.run pos pins s σ H _ I h) fun us s1 hh => ?_) hpl
  obtain ⟨vs, H1, I1, r1, y, ev, q1⟩ := hh
  subst ev
  refine ⟨I1.kIn, ?_⟩
  rw [hks]
  cases r1 with
  | @cons _ u _ us ry r0 =>
  cases r0
  show wpAny _ _ (call (.ref C) [] [(arg, u)]) _ _ _
  obtain ⟨hp, g, dr, tk, os⟩ := s1
  have big : hp.objs.size ≤ hp.objs.size + 1 := Nat.le_succ _
  have hn : H1 (hp.objs.size + 1) = none := I1.hok.fresh big
  have up : ∀ b o, hp.get? b = some o → ((hp.push (PySem.W.kdv_tup [])).push (PySem.HandSPX.excO C hp.objs.size)).get? b = some o := fun b o e => Heap.get?_push_of_some _ (Heap.get?_push_of_some _ e)
  have made : ((hp.push (PySem.W.kdv_tup [])).push (PySem.HandSPX.excO C hp.objs.size)).get? (hp.objs.size + 1) = some (PySem.HandSPX.excO C hp.objs.size) := by heap_get
  have I2 := I1.laid (t' := tk) (a := hp.objs.size + 1) (o := exo (hp.objs.size + 1) C none) (h' := (hp.push (PySem.W.kdv_tup [])).push (PySem.HandSPX.excO C hp.objs.size)) up big (exo_ok made)
  have r2 : Vals [V.ref (hp.objs.size + 1), y] [Value.ref (hp.objs.size + 1), u] := .cons rfl (.cons ry .nil)
  have hq : spSx C f [.ref (hp.objs.size + 1), y] (upd H1 (hp.objs.size + 1) (exo (hp.objs.size + 1) C none)) (fun v H2 => v = .non ∧ ∃ dx, H1 dx = none ∧ dx ≠ hp.objs.size + 1 ∧ H2 = upd (upd (upd H1 (hp.objs.size + 1) (exo (hp.objs.size + 1) C none)) dx (exd dx [(f, y)])) (hp.objs.size + 1) (exo (hp.objs.size + 1) C (some dx))) (fun _ _ _ => False) :=
    ⟨_, _, rfl, upd_same, fun dx hdx ne => ⟨rfl, dx, by rwa [upd_ne ne] at hdx, ne, rfl⟩⟩
  refine wpAny_call (PySem.YK.call_kw F.excBase_ValueError (fun Y => PySem.HandSPX.refsVE_contains Y bm hbm) (I1.kIn _ _ hC) (PySem.W.looks_findIn I1.kIn iC) (fun self => PySem.W.bind_fn I1.kIn self tI)
    (codeAny_mono (F1.run _ X.stack _ _ ⟨[Value.ref (hp.objs.size + 1)], [(arg, u)]⟩ [Value.ref (hp.objs.size + 1), u] _ _ (fun _ _ _ => False) (hr.make C [] [(arg, u)]) (I2.env0.make C [] [(arg, u)]) (hb _ _ _) r2 hq) fun r s' hq' => ?_))
  cases r with
  | error er => exact hx pins σ _ _ er s' I2 hq'
  | ok fl =>
    cases fl with
    | ret u =>
      obtain ⟨v, H2, I3, rv, ev, dx, hdx, ne, e2⟩ := I2.after hq'
      subst ev e2
      exact ⟨rv, .ref (hp.objs.size + 1), _, mkx_told hdx ne I3, rfl, q1 _ _ hn hdx ne⟩
    | next => exact False.elim hq'
    | brk => exact False.elim hq'
    | cont => exact False.elim hq'
/-- C(): a new exception of a class without an __init__ of its own -/
theorem pe_mk0 {bmB : List Value} {B newId initId : String} (F : ExcBaseFacts B newId initId bmB) (q : PySem.W.excIn X.K C bmB newId = true) (gC : X.mg x = some (.ref C)) (kC : PySem.W.keepIn X.K (.ref C) = true) (hg : Gl X x) (hdb : (x == ("__debug__" : Str)) = false := by decide) :
    PE X (.Call (.Name x p) [] [] pos) (fun σ H Q => ∀ a, H a = none → Q (.ref a) (upd H a (L3.exh a (.ref C) none))) := by
  refine ⟨fun pins s σ H Q I h => ?_⟩
  refine wpAny_Call_Name_kw (ld_glob I hg gC ?_ hdb)
  refine PySem.W.callWith_K0 I.kIn kC ?_
  show wpAny _ _ (call (.ref C) []) _ _ _
  obtain ⟨bm, N, nm, qn, bs, hdct, sn, sub, ab, col, dd, k0, k1, k2, k3, k5, mN, hC, hN, hni, T⟩ := exc_obj I.kIn q
  refine wpAny_call_exc_subT F T hC hN hni (fun h' a hm => ?_) (by show 0 ≤ sizeLine; exact Nat.zero_le _)
  have hn : H a = none := I.hok.gone hm.new
  obtain ⟨t, ht, _, _⟩ := hm.there
  exact ⟨.ref a, upd H a (L3.exh a (.ref C) none), I.laidN hm.keeps hm.new hn (L3.exh_ok ht ⟨rfl, rfl⟩ rfl), rfl, h a hn⟩
/-- T(e), T a built-in class of exceptions -/
theorem pe_mkb {T N0 I0 : String} (F : ExcB T N0 I0) (hg : Gl X x) (hm : X.mg x = none) (hv : bootBuiltins x = some (.type T)) (ha : PA X (e :: es) ta) (hn : x ≠ "__name__" := by decide) (hdb : (x == ("__debug__" : Str)) = false := by decide)
    (he : starEach (e :: es) X.env = (false, eval e X.env) :: starEach es X.env := by rfl) (hpl : (backTo pos (starEach es X.env)).any (·.1) = false := by rfl) :
    PE X (.Call (.Name x p) (e :: es) [] pos) (fun σ H Q => ta σ H fun vs H1 => vs.length ≤ sizeLine ∧ ∀ a, H1 a = none → Q (.ref a) (upd H1 a (L3.exh a (.type T) none))) := by
  refine ⟨fun pins s σ H Q J h => ?_⟩
  refine wpAny_Call_Name_kw (ld_blt J hg hm hv ?_ hn hdb)
  refine PyProof.Rows.callWith_type1 (thn (ha.run pos pins s σ H _ J h) fun us s1 hh => ?_) he hpl
  obtain ⟨vs, H1, I1, r1, q0, q1⟩ := hh
  obtain ⟨hp1, g1, d1, tk1, os1⟩ := s1
  refine wpAny_call_exc F.call (fun h' a mk => ?_) (Nat.le_trans (Nat.le_of_eq r1.length.symm) q0)
  have hn : H1 a = none := I1.hok.gone mk.new
  obtain ⟨t, ht, _, _⟩ := (PySem.Heap.MadeExc.of mk).there
  exact ⟨.ref a, upd H1 a (L3.exh a (.type T) none), I1.laidN mk.keeps mk.new hn (L3.exh_ok ht ⟨rfl, rfl⟩ rfl), rfl, q1 a hn⟩
end
/-- isinstance(x, c), x an exception of a class of ours that stands as a value -/
def rIsQ (K : PySem.W.Frag) : List V → Hp → VK → Prop := fun xs H Q => ∃ (a C : Addr) (d : Option Addr) (c : V) (cv : Value) (b : Bool), L3.ExF K C ∧ xs = [.ref a, c] ∧ (∀ u, RelV c u → u = cv) ∧ PySem.W.kitOne K (.ref C) cv = some b ∧
  H a = some (L3.exh a (.ref C) d) ∧ (d = none ∨ ∃ dd fs, d = some dd ∧ H dd = some (.xd fs)) ∧ Q (.bl b) H
theorem call_isQ {X : Cx} : CallR X (.builtin "isinstance") (rIsQ X.K) := by
  intro pins s σ H xs us Q iv r h
  obtain ⟨a, C, d, c, cv, b, F, rfl, hcv, e, ha, hd, q⟩ := h
  cases r with
  | cons rx rr =>
    cases rr with
    | cons rt rr =>
      cases rr
      cases rx
      have ec := hcv _ rt
      subst ec
      obtain ⟨⟨oe, vs, hget, hz, hv⟩, _⟩ := (iv.hok a _ ha : ObjOk X.prog X.w H s.heap a (L3.exh a (.ref C) d))
      have J : ∃ od, PySem.W.InstAt s.heap a oe C od := by
        rcases hd with hd | ⟨dd, fs, hd, hx⟩
        · exact ⟨none, hget, hz.1, by unfold PySem.W.notCls; rw [hv] <;> rfl, by rw [hz.2, hd]; trivial⟩
        · obtain ⟨mA, hns, _⟩ := (iv.hok dd _ hx : ObjOk X.prog X.w H s.heap dd (.xd fs))
          obtain ⟨od, ho, _⟩ := lookIn_ns hns
          exact ⟨some od, hget, hz.1, by unfold PySem.W.notCls; rw [hv] <;> rfl, by rw [hz.2, hd]; exact ho⟩
      obtain ⟨od, J⟩ := J
      exact PySem.W.kia_one (PySem.W.kitx_exc F.cl F.ga F.gt F.su F.ha F.hn F.tk F.mo) iv.kIn J e (fun z => nomatch z) fun tk => ⟨.bl b, H, iv.kept (t' := tk) fun _ _ z => z, rfl, q⟩
/-- .. x a ValueError -/
def rIsV (K : PySem.W.Frag) : List V → Hp → VK → Prop := fun xs H Q => ∃ (a : Addr) (d : Option Addr) (c : V) (cv : Value) (b : Bool), xs = [.ref a, c] ∧ (∀ u, RelV c u → u = cv) ∧ PySem.W.kitOne K (.type "ValueError") cv = some b ∧
  H a = some (L3.exh a (.type "ValueError") d) ∧ Q (.bl b) H
theorem call_isV {X : Cx} : CallR X (.builtin "isinstance") (rIsV X.K) := by
  intro pins s σ H xs us Q iv r h
  obtain ⟨a, d, c, cv, b, rfl, hcv, e, ha, q⟩ := h
  cases r with
  | cons rx rr =>
    cases rr with
    | cons rt rr =>
      cases rr
      cases rx
      have ec := hcv _ rt
      subst ec
      obtain ⟨⟨oe, vs, hget, hz, hv⟩, _⟩ := (iv.hok a _ ha : ObjOk X.prog X.w H s.heap a (L3.exh a (.type "ValueError") d))
      exact PySem.W.kia_one (PySem.W.kitx_bexc PySem.F.excAttr_ValueError (by kernel_rfl) (by kernel_rfl) (by decide +kernel)) iv.kIn ⟨oe, hget, hz.1⟩ e (fun z => nomatch z) fun tk => ⟨.bl b, H, iv.kept (t' := tk) fun _ _ z => z, rfl, q⟩
end L2
namespace L3
open PySem PySem.Spec L2
def repS (x : Str) (n : Nat) : Str := ⟨(List.replicate n x.cps).foldl (· ++ ·) #[]⟩
def oMulS : F2 := fun x y M Q => match x, y with
  | .d (.str a), .d (.int k) => (2 ≤ k ∧ k ≤ 1000 ∧ a.length ≠ 0 ∧ a.length ≤ 1000 ∧ (repS a k.toNat).length ≤ sizeLine) ∧ Q (.str (repS a k.toNat)) M
  | _, _ => False
def rMulS : R2 := fun x y H Q => ∃ a k, x = .str a ∧ y = .int k ∧ 2 ≤ k ∧ k ≤ 1000 ∧ a.length ≠ 0 ∧ a.length ≤ 1000 ∧ (repS a k.toNat).length ≤ sizeLine ∧ Q (.str (repS a k.toNat)) H
theorem opr_mulS {X : Cx} : OpR X (binaryOp .Mult) rMulS := by
  intro pins s σ H x y v u Q I rx ry h
  obtain ⟨a, k, rfl, rfl, h1, h2, h3, h4, h5, q⟩ := h
  obtain ⟨t, rfl⟩ := rx
  obtain ⟨t', rfl⟩ := ry
  have n1 : ¬ k < 1 := by omega
  have n2 : (k == 1 || a.length == 0) = false := by
    have e1 : (k == 1) = false := by simp; omega
    have e2 : (a.length == 0) = false := by simpa using h3
    rw [e1, e2]
    rfl
  refine PySem.P.mul_str ?_ (fun _ _ => ?_) (fun _ _ => ?_) ?_
  · have a1 : ¬ k < -(2 ^ 63 : Int) := by omega
    have a2 : ¬ k ≥ 2 ^ 63 := by omega
    rw [decide_eq_false a1, decide_eq_false a2]
    rfl
  · have : (2 ^ 63 - 1 : Int) / k ≥ 1000 := by
      refine Int.le_ediv_of_mul_le (by omega) ?_
      omega
    omega
  · have z : a.length * k.toNat ≤ 1000000 := Nat.mul_le_mul h4 (show k.toNat ≤ 1000 by omega)
    have sl : sizeLine = 16777216 := sizeLine_eq
    show decide (_ > sizeLine) = false
    exact decide_eq_false (by omega)
  · rw [if_neg n1, n2]
    exact ⟨h5, .str (repS a k.toNat), H, I.tok _, ⟨_, rfl⟩, q⟩
theorem opl_mulS {K : PySem.W.Frag} : OpL K rMulS oMulS := by
  intro x y t u M B H Q Q' h w rx ry k
  unfold oMulS at h
  split at h
  · cases rx
    cases ry
    obtain ⟨⟨h1, h2, h3, h4, h5⟩, q⟩ := h
    exact ⟨_, _, rfl, rfl, h1, h2, h3, h4, h5, k _ _ M B H q w (.refl _ _) (Rp.str _)⟩
  · exact h.elim
theorem me_mulS {X : Cx} {a b : Expr} {ma mb : Me} {pos : Pos} (ha : ME X a ma) (hb : ME X b mb) : ME X (.BinOp a .Mult b pos) (mOp oMulS ma mb) := me_op opr_mulS opl_mulS ha hb
/-- what is never reached -/
def mNever : Me := fun _ _ _ => False
theorem me_never {X : Cx} {e : Expr} : ME X e mNever := ⟨fun _ _ _ _ _ _ ⟨_, _, _, _, h, _⟩ => h.elim⟩
end L3
set_option Elab.async false
set_option linter.all false
set_option maxRecDepth 100000
set_option maxHeartbeats 2000000
namespace L3
open PySem PySem.Spec L2
/-- the class c with an __init__(self, arg) that keeps its argument under f -/
def Kx2 (P : Program) (K : PySem.W.Frag) (mg : Str → Option Value) (c f arg : Str) : Prop :=
  ∃ C fI fd ps, mg c = some (.ref C) ∧ CA K c = some C ∧ OexC K C ∧ PySem.W.findIn K (.ref C) "__init__" = some (some (.ref fI)) ∧ PySem.W.typeIn K (.ref fI) = some (.type "function") ∧ Binds K fd ps [] ∧
    (∀ (s : Shared) (a v : Value), BindsTo s fd ⟨[a], [(arg, v)]⟩ (ps.zip [a, v])) ∧
    ∀ (w : World) (base : Heap), FnOk P w K mg base (fun _ _ _ _ _ _ => False) 1 fI fd ps (spSx C f)
/-- the class c without an __init__ -/
def Kx0 (K : PySem.W.Frag) (mg : Str → Option Value) (c : Str) : Prop := ∃ C, mg c = some (.ref C) ∧ CA K c = some C ∧ PySem.W.keepIn K (.ref C) = true ∧ PySem.W.excIn K C tailVE "ValueError.__new__" = true
section
variable {K : PySem.W.Frag} {B : Bk} {M : Mem} {H : Hp}
theorem Wd.obj0 (w : Wd K B M H) {a C : Addr} (ha : H a = none) : ∃ B', Wd K B' M (upd H a (exh a (.ref C) none)) ∧ Ext B H B' (upd H a (exh a (.ref C) none)) ∧ B'.G a = some (exh a (.ref C) none) := by
  obtain ⟨w2, e2⟩ := w.alloc ha (exh a (.ref C) none)
  exact ⟨_, w2, e2, upd_same⟩
theorem Wd.obj1 (w : Wd K B M H) {a dx C : Addr} {f : Str} {v : V} {x : Dt} (ha : H a = none) (hd : H dx = none) (ne : dx ≠ a) (r : Rq K B.G v x) :
    ∃ B', Wd K B' M (upd (upd H dx (.xd [(f, v)])) a (exh a (.ref C) (some dx))) ∧ Ext B H B' (upd (upd H dx (.xd [(f, v)])) a (exh a (.ref C) (some dx))) ∧
      B'.G a = some (exh a (.ref C) (some dx)) ∧ B'.G dx = some (.xd [(f, v)]) ∧ Rq K B'.G v x := by
  obtain ⟨w2, e2⟩ := w.alloc hd (.xd [(f, v)])
  have ha2 : (upd H dx (.xd [(f, v)])) a = none := by rw [upd_ne (Ne.symm ne)]; exact ha
  obtain ⟨w3, e3⟩ := w2.alloc ha2 (exh a (.ref C) (some dx))
  refine ⟨_, w3, e2.trans e3, upd_same, ?_, Rq.mono (e2.trans e3).g r⟩
  exact e3.g dx _ upd_same
end
/-- c(x), c(f=x) -/
def mMk1 (c f : Str) (r : Ma) : Me := fun τ M Q => r τ M fun ts M1 => ∃ t x, ts = [t] ∧ tq t = some x ∧ Q (.q (.obj c [f] [x])) M1
def mMk0 (c : Str) : Me := fun _ M Q => Q (.q (.obj c [] [])) M
section
variable {X : Cx} {e : Expr} {es : List Expr} {kws : List Keyword} {mr : Ma} {p pos : Pos} {x f arg : Str} {k : Nat}
theorem mk1_of {C : Addr} (hC : CA X.K x = some C) {σ : L2.St} {H : Hp} {Q' : VK} (h : rE X.K (mMk1 x f mr) σ H Q') : tMkx C f (rA X.K mr) σ H Q' := by
  obtain ⟨τ, M, B, Q, h, w, s, kk⟩ := h
  refine ⟨τ, M, B, _, h, w, s, fun v ts M1 B1 H1 ⟨t, y, et, ey, q⟩ w1 e1 r1 => ?_⟩
  subst et
  obtain ⟨v, rfl, r2⟩ := paired_one r1
  refine ⟨v, rfl, fun a dx ha hd ne => ?_⟩
  obtain ⟨B2, w2, e2, g1, g2, g3⟩ := w1.obj1 (C := C) (f := f) ha hd ne (tq_rt r2 ey)
  exact kk _ _ M1 B2 _ q w2 (e1.trans e2) (Rq.obj1 hC g1 g2 g3)
theorem me_mk1 (T : Kx2 X.prog X.K X.mg x f arg) (rm : Room k X.A) (hk : 2 ≤ k) (hg : Gl X x) (ha : MA X (e :: es) mr) (hdb : (x == ("__debug__" : Str)) = false := by decide)
    (he : starEach (e :: es) X.env = (false, eval e X.env) :: starEach es X.env := by rfl) (hpl : (backTo pos (starEach es X.env)).any (·.1) = false := by rfl) : ME X (.Call (.Name x p) (e :: es) [] pos) (mMk1 x f mr) := by
  obtain ⟨C, fI, fd, ps, gC, hC, O, iC, tI, hb, _, FO⟩ := T
  exact PE.of (pe_mkx (CX := fun _ _ _ _ _ _ => False) O iC tI (FO X.w X.base) (rm.mono hk) hb (fun _ _ _ _ _ _ _ z => z.elim) hg gC ha hdb he hpl) fun _ _ _ h => mk1_of hC h
theorem me_mk1K (T : Kx2 X.prog X.K X.mg x f arg) (rm : Room k X.A) (hk : 2 ≤ k) (hg : Gl X x) (ha : MK X kws mr) (hall : (backToKw pos (keywordEach kws X.env)).all (·.1.isSome) = true := by rfl) (hks : (backToKw pos (keywordEach kws X.env)).filterMap (·.1) = [arg] := by rfl) (hdb : (x == ("__debug__" : Str)) = false := by decide)
    (hpl : ((backTo pos (starEach [] X.env)).any (·.1) || (backToKw pos (keywordEach kws X.env)).any (·.1.isNone)) = false := by rfl) : ME X (.Call (.Name x p) [] kws pos) (mMk1 x f mr) := by
  obtain ⟨C, fI, fd, ps, gC, hC, O, iC, tI, _, hb, FO⟩ := T
  exact PE.of (pe_mkxK (CX := fun _ _ _ _ _ _ => False) O iC tI (FO X.w X.base) (rm.mono hk) hb (fun _ _ _ _ _ _ _ z => z.elim) hg gC ha hall hks hdb hpl) fun _ _ _ h => mk1_of hC h
theorem me_mk0 (T : Kx0 X.K X.mg x) (hg : Gl X x) (hdb : (x == ("__debug__" : Str)) = false := by decide) : ME X (.Call (.Name x p) [] [] pos) (mMk0 x) := by
  obtain ⟨C, gC, hC, kC, q⟩ := T
  refine PE.of (pe_mk0 PySem.F.excBase_ValueError q gC kC hg hdb) fun σ H Q' ⟨τ, M, B, Q, h, w, s, kk⟩ => ?_
  intro a ha
  obtain ⟨B2, w2, e2, g1⟩ := w.obj0 (C := C) ha
  exact kk _ _ M B2 _ h w2 e2 (Rq.obj hC g1)
end
/-- the class c has no f of its own; its objects have a dict -/
def KqF (K : PySem.W.Frag) (c f : Str) : Prop := ∀ C, CA K c = some C → XfC K C ∧ PySem.W.findIn K (.ref C) f = some none
def mQFld (cs : List Str) (f : Str) (m : Me) : Me := fun τ M Q => m τ M fun t M1 => match tq t with
  | some (.obj c [g] [x]) => c ∈ cs ∧ g = f ∧ Q (inj x) M1
  | _ => False
theorem me_qfld {X : Cx} {e : Expr} {m : Me} {cs : List Str} {f : Str} {pos : Pos} (T : ∀ c ∈ cs, KqF X.K c f) (he : ME X e m) (hb : attributeBase e f X.env (eval e X.env) = eval e X.env := by rfl) : ME X (.Attribute e f pos) (mQFld cs f m) := by
  refine PE.of (pe_xr he hb) fun σ H Q' ⟨τ, M, B, Q, h, w, s, kk⟩ => ?_
  refine ⟨τ, M, B, _, h, w, s, fun v t M1 B1 H1 h1 w1 e1 r1 => ?_⟩
  split at h1
  · rename_i hq
    obtain ⟨hc, rfl, q⟩ := h1
    cases tq_rt r1 hq with
    | obj1 hC g1 g2 g3 =>
      obtain ⟨F, hno⟩ := T _ hc _ hC
      exact ⟨_, _, _, _, _, _, rfl, w1.le _ _ g1, F, hno, rfl, w1.le _ _ g2, by simp [List.lookup], kk _ _ M1 B1 H1 q w1 e1 (inj_rt g3)⟩
  · exact h1.elim
/-- what isinstance says of the objects of the classes in tab, asked for D -/
def IsqT (K : PySem.W.Frag) (D : V) (tab : List (Str × Bool)) : Prop := (∃ cv, ∀ u, RelV D u → u = cv) ∧ ∀ r ∈ tab, ∀ C, CA K r.1 = some C → ExF K C ∧ ∀ cv, RelV D cv → PySem.W.kitOne K (.ref C) cv = some r.2
def tyQ : Dt → Option String
  | .non => some "NoneType"
  | .bl _ => some "bool"
  | .int _ => some "int"
  | .str _ => some "str"
  | .lst _ => some "list"
  | .tup _ => some "tuple"
  | .dic _ _ => some "dict"
  | .obj _ _ _ => none
theorem tyQ_of {K : PySem.W.Frag} {G H : Hp} (le : ∀ a o, G a = some o → H a = some o) {v : V} {x : Dt} {a : String} (r : Rq K G v x) (e : tyQ x = some a) : TyX K H v (.type a) := by
  cases r with
  | non => cases e; exact .base .non
  | bl b => cases e; exact .base (.bl b)
  | int i => cases e; exact .base (.int i)
  | str s => cases e; exact .base (.str s)
  | lst g _ => cases e; exact .base (.lst (le _ _ g))
  | tup g _ =>
    cases e
    rcases g with ⟨o, g, _⟩ | ⟨o, its, n, g1, g2, _⟩
    · exact .fTuple (le _ _ g)
    · exact .kTuple g1 g2
  | dic g _ _ _ => cases e; exact .base (.dK (le _ _ g))
  | obj _ _ => cases e
  | obj1 _ _ _ _ => cases e
  | ins _ _ => cases e
/-- isinstance(x, T), T a built-in type; of objects the table tells -/
def mQIsi (T0 : String) (tab : List (Str × Bool)) (m : Me) : Me := fun τ M Q => m τ M fun t M1 => ∃ x, tq t = some x ∧ ((∃ a r, tyQ x = some a ∧ kitB a T0 = some r ∧ Q (.bl r) M1) ∨ ∃ c fs xs r, x = .obj c fs xs ∧ (c, r) ∈ tab ∧ fs.length = xs.length ∧ Q (.bl r) M1)
/-- isinstance(x, C), C a class of the program's, x an object -/
def mQIsc (tab : List (Str × Bool)) (m : Me) : Me := fun τ M Q => m τ M fun t M1 => ∃ c fs xs r, tq t = some (.obj c fs xs) ∧ (c, r) ∈ tab ∧ fs.length = xs.length ∧ Q (.bl r) M1
section
variable {X : Cx} {e : Expr} {m : Me} {ty : Str} {T0 : String} {p p2 pos : Pos} {tab : List (Str × Bool)}
theorem cv_of {D : V} {cv : Value} (hcv : ∀ u, RelV D u → u = cv) : RelV D cv := by
  cases D with
  | non => exact (hcv .none rfl) ▸ rfl
  | bl b => exact (hcv (.bool b) rfl) ▸ rfl
  | int z => exact (hcv (.int z 0) ⟨0, rfl⟩) ▸ ⟨0, rfl⟩
  | str z => exact (hcv (.str z 0) ⟨0, rfl⟩) ▸ ⟨0, rfl⟩
  | byt z => exact (hcv (.bytes z 0) ⟨0, rfl⟩) ▸ ⟨0, rfl⟩
  | flt z => exact (hcv (.float z 0) ⟨0, rfl⟩) ▸ ⟨0, rfl⟩
  | ref z => exact (hcv (.ref z) rfl) ▸ rfl
  | ty z => exact (hcv (.type z) rfl) ▸ rfl
theorem isq_obj {K : PySem.W.Frag} {B : Bk} {M : Mem} {H : Hp} {D v : V} {c : Str} {fs : List Str} {xs : List Dt} {b : Bool} {Q : VK} (w : Wd K B M H) (T : IsqT K D tab) (hr : (c, b) ∈ tab) (r : Rq K B.G v (.obj c fs xs)) (ni : fs.length = xs.length) (q : Q (.bl b) H) : rIsQ K [v, D] H Q := by
  obtain ⟨⟨cv, hcv⟩, hT⟩ := T
  cases r with
  | obj hC g =>
    obtain ⟨F, hk⟩ := hT _ hr _ hC
    exact ⟨_, _, _, D, cv, b, F, rfl, hcv, hk cv (cv_of hcv), w.le _ _ g, .inl rfl, q⟩
  | obj1 hC g g2 _ =>
    obtain ⟨F, hk⟩ := hT _ hr _ hC
    exact ⟨_, _, _, D, cv, b, F, rfl, hcv, hk cv (cv_of hcv), w.le _ _ g, .inr ⟨_, _, rfl, w.le _ _ g2⟩, q⟩
  | ins hC g => simp at ni
theorem me_qisi (hg : Gl X "isinstance") (hm : X.mg "isinstance" = none) (hg2 : Gl X ty) (hm2 : X.mg ty = none) (hb2 : bootBuiltins ty = some (.type T0)) (T : IsqT X.K (.ty T0) tab) (ha : ME X e m) (hn2 : ty ≠ "__name__" := by decide) (hd2 : (ty == ("__debug__" : Str)) = false := by decide)
    (hs1 : starEach [e, .Name ty p2] X.env = (false, eval e X.env) :: starEach [.Name ty p2] X.env := by rfl) (hs2 : starEach [.Name ty p2] X.env = (false, eval (.Name ty p2) X.env) :: starEach [] X.env := by rfl) (hpl : (backTo pos (starEach [.Name ty p2] X.env)).any (·.1) = false := by rfl) :
    ME X (.Call (.Name "isinstance" p) [e, .Name ty p2] [] pos) (mQIsi T0 tab m) := by
  refine PE.of (pe_callB (call_isi.or call_isQ) hg hm (by decide +kernel) (pa_cons ha (pa_cons (pe_bltn (v := V.ty T0) hg2 hm2 hb2 rfl hn2 hd2) pa_nil hs2) hs1) (by decide) (by decide) hs1 hpl) fun σ H Q' ⟨τ, M, B, Q, h, w, s, k⟩ => ?_
  refine ⟨τ, M, B, _, h, w, s, fun v t M1 B1 H1 ⟨x, hx, h1⟩ w1 e1 r1 => ?_⟩
  have r := tq_rt r1 hx
  rcases h1 with ⟨a, b, h2, h3, h4⟩ | ⟨c, fs, xs, b, rfl, hr, ni, h4⟩
  · exact .inl ⟨v, V.ty T0, .type a, .type T0, b, rfl, .ty T0, tyQ_of w1.le r h2, kit_ty h3, k _ _ M1 B1 H1 h4 w1 e1 (Rp.bl b)⟩
  · exact .inr (isq_obj w1 T hr r ni (k _ _ M1 B1 H1 h4 w1 e1 (Rp.bl b)))
theorem me_qisc {y : Str} {D : Addr} (hg : Gl X "isinstance") (hm : X.mg "isinstance" = none) (hgy : Gl X y) (gD : X.mg y = some (.ref D)) (T : IsqT X.K (.ref D) tab) (ha : ME X e m) (hdb : (y == ("__debug__" : Str)) = false := by decide)
    (hs1 : starEach [e, .Name y p2] X.env = (false, eval e X.env) :: starEach [.Name y p2] X.env := by rfl) (hs2 : starEach [.Name y p2] X.env = (false, eval (.Name y p2) X.env) :: starEach [] X.env := by rfl) (hpl : (backTo pos (starEach [.Name y p2] X.env)).any (·.1) = false := by rfl) :
    ME X (.Call (.Name "isinstance" p) [e, .Name y p2] [] pos) (mQIsc tab m) := by
  refine PE.of (pe_callB call_isQ hg hm (by decide +kernel) (pa_cons ha (pa_cons (pe_glob (v := V.ref D) hgy gD rfl hdb) pa_nil hs2) hs1) (by decide) (by decide) hs1 hpl) fun σ H Q' ⟨τ, M, B, Q, h, w, s, k⟩ => ?_
  refine ⟨τ, M, B, _, h, w, s, fun v t M1 B1 H1 ⟨c, fs, xs, b, hx, hr, ni, h4⟩ w1 e1 r1 => ?_⟩
  exact isq_obj w1 T hr (tq_rt r1 hx) ni (k _ _ M1 B1 H1 h4 w1 e1 (Rp.bl b))
/-- isinstance(ValueError(text), C) -/
def mIsVE (b : Bool) : Me := fun _ M Q => Q (.bl b) M
theorem me_isVE {y t : Str} {j : Nat} {D : Addr} {b : Bool} {p3 p4 p5 : Pos} (hg : Gl X "isinstance") (hm : X.mg "isinstance" = none) (hgv : Gl X "ValueError") (hmv : X.mg "ValueError" = none) (hgy : Gl X y) (gD : X.mg y = some (.ref D)) (T : PySem.W.kitOne X.K (.type "ValueError") (.ref D) = some b) (hdb : (y == ("__debug__" : Str)) = false := by decide)
    (hs1 : starEach [.Call (.Name "ValueError" p3) [.Constant (.str t) j p4] [] p5, .Name y p2] X.env = (false, eval (.Call (.Name "ValueError" p3) [.Constant (.str t) j p4] [] p5) X.env) :: starEach [.Name y p2] X.env := by rfl) (hs2 : starEach [.Name y p2] X.env = (false, eval (.Name y p2) X.env) :: starEach [] X.env := by rfl) (hpl : (backTo pos (starEach [.Name y p2] X.env)).any (·.1) = false := by rfl) :
    ME X (.Call (.Name "isinstance" p) [.Call (.Name "ValueError" p3) [.Constant (.str t) j p4] [] p5, .Name y p2] [] pos) (mIsVE b) := by
  refine PE.of (pe_callB call_isV hg hm (by decide +kernel) (pa_cons (pe_mkb exb_ValueError hgv hmv boot_ValueError (pa_cons pe_str pa_nil)) (pa_cons (pe_glob (v := V.ref D) hgy gD rfl hdb) pa_nil hs2) hs1) (by decide) (by decide) hs1 hpl) fun σ H Q' ⟨τ, M, B, Q, h, w, s, k⟩ => ?_
  refine ⟨by show 1 ≤ sizeLine; rw [sizeLine_eq]; decide, fun a ha => ?_⟩
  refine ⟨a, none, .ref D, .ref D, b, rfl, fun u z => z, T, upd_same, ?_⟩
  obtain ⟨B2, w2, e2⟩ : ∃ B2, Wd X.K B2 M (upd H a (exh a (.type "ValueError") none)) ∧ Ext B H B2 (upd H a (exh a (.type "ValueError") none)) := ⟨_, w.alloc ha _⟩
  exact k _ _ M B2 _ h w2 e2 (Rp.bl b)
end
end L3
namespace L3
open PySem PySem.Spec L2 PyProof.Rows PySem.Calls
theorem kx2_of {P : Program} {K : PySem.W.Frag} {mg : Str → Option Value} {c : Str} {C fI cc cda : Addr} {fld self arg text name qual : Str} {params : Arguments} {scope : Scope} {j0 : Nat} {p0 p1 p2 p3 p4 p5 p6 p7 p8 q0 : Pos} {dV kV doc pm ct oc : Value} {an od : Option Addr} {osl : Array (Option Value)}
    {nm q : Str} {NN : Addr} {bs bm : List Value} {sn : List Str} {sub : List Value} {ab : Bool} {col : Option Bool} {dd : Option Addr} {k0 k1 k2 k3 k5 : Option Value}
    {ccl : Value} {cdd : Option Addr} {vs : Array Value} {ccs : Array (Option Value)} {file : Str} {tf : Tok} {cl : Value} {cld : Option Addr} {csl : Array (Option Value)}
    (gC : mg c = some (.ref C)) (E : ExF K C) (iC : PySem.W.findIn K (.ref C) "__init__" = some (some (.ref fI))) (tI : PySem.W.typeIn K (.ref fI) = some (.type "function"))
    (lC : K.lookup C = some (excClassObj nm q C NN bs bm true sn sub ab col dd k0 k1 k2 k3 k5 "ValueError.__new__")) (vb : PySem.HandSPX.refsVE bm = true)
    (sa : PySem.W.findIn K (.ref C) "__setattr__" = some (some (.builtin "object.__setattr__")))
    (lI : K.lookup fI = some ⟨oc, od, .func (sxFn self arg fld text name qual params scope j0 p0 p1 p2 p3 p4 p5 p6 p7 p8 q0 dV kV doc pm an cda ct cc), osl⟩)
    (hcd : PySem.W.codeIn K (.ref cda) qual = true) (lD : K.lookup cda = some ⟨ccl, cdd, .fields vs, ccs⟩) (hvs : vs[2]? = some (.str file tf)) (hfile : ((P.main.file : Str) == file) = true)
    (lc : K.lookup cc = some ⟨cl, cld, .cell (some (.ref C)), csl⟩) (mro : PySem.W.mroIn K C (.ref C) = some true) (any : PySem.W.nsIn K cStatics "thirdparty.any" = some none)
    (sup : PySem.W.ks_superIn K C C "__init__" = some (some (.builtin "ValueError.__init__"))) (sub' : PySem.W.subIn K (.ref C) (.type "ValueError") = some true) (exi : PySem.W.excInitIn K C veMro "ValueError.__new__" = true)
    (fl : PySem.W.findIn K (.ref C) fld = some none) (sg : mg "super" = none) (top : (P.main.scope.names.lookup ("super" : Str)).isSome = false)
    (T : SxT fI cda cc self arg fld text qual params scope j0 p0 p1 p2 p3 p4 p5 p6 p7 p8 q0)
    (hb : Binds K (sxFn self arg fld text name qual params scope j0 p0 p1 p2 p3 p4 p5 p6 p7 p8 q0 dV kV doc pm an cda ct cc) [self, arg] []) 
    (ca : CA K c = some C) (hk : ∀ (s : Shared) (a v : Value), BindsTo s (sxFn self arg fld text name qual params scope j0 p0 p1 p2 p3 p4 p5 p6 p7 p8 q0 dV kV doc pm an cda ct cc) ⟨[a], [(arg, v)]⟩ ([self, arg].zip [a, v])) : Kx2 P K mg c fld arg := by
  obtain ⟨ar, ha1, ha2⟩ := T.par
  have O : OexC K C := ⟨⟨nm, q, NN, bs, bm, sn, sub, ab, col, dd, k0, k1, k2, k3, k5, lC, vb⟩, sa, E.su, E.ty, E.kp⟩
  exact ⟨C, fI, _, [self, arg], gC, ca, O, iC, tI, hb, hk, fun w base => fn_sx lI hcd ⟨O, ⟨ccl, cdd, vs, ccs, file, tf, lD, hvs, hfile⟩, ⟨cl, cld, csl, lc⟩, mro, any, sup, sub', exi, fl, sg, top⟩ ha1 ha2 T.ne T.ks T.kc T.kS T.kA T.cell T.kind T.co T.gen T.hI T.hE T.hs1 T.hs2 T.dS T.dA⟩
def exqB (K : PySem.W.Frag) (c : Str) : Bool := match CA K c with
  | some C => decide (PySem.W.keepIn K (.ref C) = true) && (decide (PySem.W.subIn K (.ref C) (.type "BaseException") = some true) && (decide (PySem.W.typeIn K (.ref C) = some (.type "type")) && (decide (PySem.W.isClsIn K C = true) &&
      (decide (PySem.W.findIn K (.ref C) "__getattribute__" = some (some (.builtin "BaseException.__getattribute__"))) && (decide (PySem.W.findIn K (.ref C) "__getattr__" = some none) && (decide (PySem.W.findIn K (.ref C) "__class__" = some (some (.builtin "object.__class__"))) &&
      (decide (PySem.W.specialIn K (.builtin "object.__class__") "__get__" = some (some (.builtin "getset_descriptor.__get__"))) && (decide (PySem.W.takesIn K (.builtin "object.__class__") = some true) && decide (PySem.W.mroIn K C (.type "object") = some true)))))))))
  | none => false
theorem exqB_ok {K : PySem.W.Frag} {c : Str} {C : Addr} (h : exqB K c = true) (e : CA K c = some C) : ExF K C := by
  unfold exqB at h
  rw [e] at h
  simp only [Bool.and_eq_true, decide_eq_true_eq] at h
  obtain ⟨h1, h2, h3, h4, h5, h6, h7, h8, h9, h10⟩ := h
  exact exf_of h1 h2 h3 h4 h5 h6 h7 h8 h9 h10
def isqB (K : PySem.W.Frag) (v : Value) (tab : List (Str × Bool)) : Bool := tab.all fun r => match CA K r.1 with
  | some C => decide (PySem.W.kitOne K (.ref C) v = some r.2)
  | none => false
theorem isqT_of {K : PySem.W.Frag} {D : V} {v : Value} {tab : List (Str × Bool)} (hD : ∀ u, RelV D u → u = v) (h1 : (tab.map (·.1)).all (exqB K) = true) (h2 : isqB K v tab = true) : IsqT K D tab := by
  refine ⟨⟨v, hD⟩, fun r hr C hC => ⟨?_, fun cv rv => ?_⟩⟩
  · rw [List.all_eq_true] at h1
    exact exqB_ok (h1 _ (List.mem_map_of_mem hr)) hC
  · unfold isqB at h2
    rw [List.all_eq_true] at h2
    have := h2 r hr
    rw [hC] at this
    rw [hD _ rv]
    exact of_decide_eq_true this
end L3
set_option Elab.async false
set_option linter.all false
set_option maxRecDepth 100000
set_option maxHeartbeats 1000000
namespace L3
open PySem PySem.Spec L2
def goLcQ (g : Mg) (c : Mb) (m : Me) (τ0 : En) (Q : List Dt → Mem → Prop) : List T → List Dt → Mem → Prop
  | [], acc, M => Q acc M
  | t :: ts, acc, M => g t τ0 M fun τ1 M1 => c τ1 M1 fun k M2 => if k = true then m τ1 M2 fun y M3 => ∃ z, tq y = some z ∧ acc.length < sizeLine ∧ goLcQ g c m τ0 Q ts (acc ++ [z]) M3 else goLcQ g c m τ0 Q ts acc M2
def mQLc (i : Mi) (g : Mg) (c : Mb) (m : Me) (vs : List Nat) : Me := fun τ M Q => i τ M fun ts M1 => goLcQ g c m (wipeT τ vs) (fun acc M2 => Q (.q (.lst acc)) M2) ts [] M1
section
variable {X : Cx} {e c tg : Expr} {m : Me} {mr : Ma} {pos : Pos}
theorem lc_genQ {K : PySem.W.Frag} {i : Mi} {g : Mg} {os : List Nat} {mc : Mb} {vs0 : List Nat} {σ : L2.St} {H : Hp} {Q' : VK} {τ : En} {M : Mem} {B : Bk} {Qf : List Dt → Mem → Prop} (sub : ∀ j ∈ os, j ∈ vs0)
    (h : i τ M fun ts M1 => goLcQ g mc m (wipeT τ vs0) Qf ts [] M1) (w : Wd K B M H) (sl : Sl K B σ τ)
    (k : ∀ (D : Addr) (acc : List Dt) (vs : List V) (M2 : Mem) (B2 : Bk) (H2 : Hp), Qf acc M2 → H D = none → Wd K B2 M2 H2 → Ext B H B2 H2 → H2 D = some (.lst vs) → RqA K B2.G vs acc → B2.G D = none → D ∉ B2.r → D ∉ B2.l → Q' (.ref D) H2) :
    tLc (rI K i) (rG K os g) (rB K mc) (rE K m) vs0 σ H Q' := by
  refine ⟨τ, M, B, _, h, w, sl, fun ts M1 B1 H1 J h1 w1 e1 W D hD => ?_⟩
  obtain ⟨dG, dr, dl⟩ := w1.fresh hD
  have sw := (sl.mono e1).wipe vs0
  refine lc_it W (fun i H2 => ∃ acc vs M2 B2, goLcQ g mc m (wipeT τ vs0) Qf (ts.drop i) acc M2 ∧ Wd K B2 M2 H2 ∧ Ext B1 H1 B2 H2 ∧ H2 D = some (.lst vs) ∧ RqA K B2.G vs acc ∧ B2.G D = none ∧ D ∉ B2.r ∧ D ∉ B2.l) ?_ ?_ ?_ ?_
  · exact ⟨[], [], M1, B1, h1, w1.side hD _, .side hD _, upd_same, .nil, dG, dr, dl⟩
  · rintro i H2 _ ⟨acc, vs, M2, B2, _, w2, e2, _⟩ a o z
    exact w2.le a o (e2.g a o z)
  · rintro i x H2 H3 hlt ⟨acc, vs, M2, B2, h2, w2, e2, d2, r2, g2, n2, l2⟩ y
    obtain ⟨B3, w3, e3, r3⟩ := WalkT.step hlt w2 e2 y
    rw [drop_at hlt, goLcQ] at h2
    have keepD : ∀ {B4 : Bk} {H4 : Hp}, Ext B2 H2 B4 H4 → H4 D = some (.lst vs) ∧ B4.G D = none ∧ D ∉ B4.r ∧ D ∉ B4.l := fun {B4 H4} e4 => by
      refine ⟨e4.fr D _ d2 n2 l2, ?_, fun z => ?_, fun z => ?_⟩
      · cases q : B4.G D with
        | none => rfl
        | some o =>
          rcases e4.gf D o q with z | z | z
          · rw [g2] at z; cases z
          · rw [d2] at z; cases z
          · exact absurd z l2
      · rcases e4.rn D z with q | q
        · exact n2 q
        · rw [d2] at q; cases q
      · rcases e4.ln D z with q | q
        · exact l2 q
        · rw [d2] at q; cases q
    refine ⟨ts[i], wipeT τ vs0, M2, B3, _, h2, w3, (sw.mono e2).mono e3, r3, fun τ4 M4 B4 σ4 H4 h4 w4 e4 s4 a4 => ⟨a4.wipe sub, ?_⟩⟩
    refine ⟨τ4, M4, B4, _, h4, w4, s4, fun k5 M5 B5 H5 h5 w5 e5 => ?_⟩
    have e25 := e3.trans (e4.trans e5)
    cases k5 with
    | false =>
      obtain ⟨q1, q2, q3, q4⟩ := keepD e25
      exact ⟨acc, vs, M5, B5, h5, w5, e2.trans e25, q1, RqA.mono e25.g r2, q2, q3, q4⟩
    | true =>
      refine ⟨τ4, M5, B5, _, h5, w5, s4.mono e5, fun v t M6 B6 H6 h6 w6 e6 r6 => ?_⟩
      obtain ⟨z, hz, h6⟩ := h6
      · have e26 := e25.trans e6
        obtain ⟨q1, q2, q3, q4⟩ := keepD e26
        refine ⟨vs, q1, by rw [RqA.length r2]; exact h6.1, acc ++ [z], vs ++ [v], M6, B6, h6.2, ?_, ?_, upd_same, RqA.append (RqA.mono e26.g r2) (.cons (tq_rt r6 hz) .nil), q2, q3, q4⟩
        · -- the world does not know D
          refine ⟨fun a u z => ?_, w6.rlen, w6.llen, w6.nd, fun j a c z1 z2 => ?_, fun j a ds z1 z2 => ?_, fun a ha => ?_⟩
          · rw [upd_ne (ne_of_none z q2)]
            exact w6.le a u z
          · obtain ⟨p1, p2⟩ := w6.dc j a c z1 z2
            exact ⟨p1, CellAt.mono (fun _ _ e => e) (List.prefix_refl _) (upd_ne fun z => q3 (by rw [← z]; exact mem_of_get z1)) p2⟩
          · obtain ⟨p1, xs, p2, p3⟩ := w6.lc j a ds z1 z2
            exact ⟨p1, xs, (upd_ne fun z => q4 (by rw [← z]; exact mem_of_get z1)).trans p2, p3⟩
          · rw [upd_ne fun z => ?_]
            · exact w6.tr a ha
            · rw [z] at ha
              exact (List.mem_append.mp ha).elim q3 q4
        · have x6 := e2.trans e26
          refine ⟨x6.g, x6.r, x6.l, fun a u z n1 n2 => ?_, fun a z => ?_, x6.rn, x6.ln, x6.gf⟩
          · rw [upd_ne (ne_of_none z hD)]
            exact x6.fr a u z n1 n2
          · by_cases q : a = D
            · rw [q]
              exact hD
            · rw [upd_ne q] at z
              exact x6.tr a z
  · rintro H2 ⟨acc, vs, M2, B2, h2, w2, e2, d2, r2, g2, n2, l2⟩
    rw [List.drop_length] at h2
    exact k D acc vs M2 B2 H2 h2 (e1.tr D hD) w2 (e1.trans e2) d2 r2 g2 n2 l2
theorem lc_ofQ {K : PySem.W.Frag} {i : Mi} {g : Mg} {os : List Nat} {mc : Mb} {vs0 : List Nat} {σ : L2.St} {H : Hp} {Q' : VK} (sub : ∀ j ∈ os, j ∈ vs0) (h : rE K (mQLc i g mc m vs0) σ H Q') : tLc (rI K i) (rG K os g) (rB K mc) (rE K m) vs0 σ H Q' := by
  obtain ⟨τ, M, B, Q, h, w, sl, k⟩ := h
  refine lc_genQ sub h w sl fun D acc vs M2 B2 H2 h2 hD w2 e2 d2 r2 g2 n2 l2 => ?_
  rcases Ext.adoptG (o := .lst vs) hD e2 with x | x
  · exact k _ _ M2 _ H2 h2 (w2.adoptG g2 n2 l2 d2) x (Rq.lst upd_same (RqA.mono (upd_keep g2) r2))
  · exact absurd g2 x
section
variable {elt : Expr} {ifs : List Expr} {scope : Scope} {own : List (Str × Nat)} {i : Mi} {g : Mg} {os : List Nat} {mc : Mb}
variable {n : Nat} {y : Str} {py spos : Pos}
theorem ms_setLcQ (hc : X.calm = true) (hN : X.N.Nodup) (hy : X.N[n]? = some y) (hyl : X.env.scope.names.lookup y = some .local)
    (hsw : swapsWith (.ListComp elt [⟨tg, e, ifs, 0⟩] scope pos) (some (.Name y py)) spos.line X.env = pure true) (hi : MI X tg e i) (ok : BlkOk X.N X.env.scope scope own)
    (hg : ∀ (s : Shared) (H : Hp) (C : Addr) (cl : List (Str × Addr)) (fp : List Addr), MG (X.blk s H scope (compEnvC scope cl C X.env) fp) tg os g) (ht : ∀ (s : Shared) (H : Hp) (C : Addr) (cl : List (Str × Addr)) (fp : List Addr), MTs (X.blk s H scope (compEnvC scope cl C X.env) fp) ifs mc)
    (he : ∀ (s : Shared) (H : Hp) (C : Addr) (cl : List (Str × Addr)) (fp : List Addr), ME (X.blk s H scope (compEnvC scope cl C X.env) fp) elt m) (sub : ∀ j ∈ os, j ∈ own.map (·.2)) (hs : ∀ x, foldedSetIterable e X.env x = pure x := by intro _; rfl) :
    MS X (.Assign [.Name y py] (.ListComp elt [⟨tg, e, ifs, 0⟩] scope pos) spos) (mSet n (mQLc i g mc m (own.map (·.2)))) := PS.of (L2.ps_setLc (te := rE X.K m) (tt := rB X.K mc) (g := rG X.K os g) hc hN hy hyl hsw hi ok hg ht he hs) fun D σ H ⟨E, τ, M, B, h, w, sl, go⟩ =>
  lc_ofQ sub ⟨τ, M, B, _, h, w, sl, fun v t M1 B1 H1 h1 w1 e1 r1 => go.nx _ M1 B1 _ H1 h1 w1 e1 ((sl.mono e1).set n r1)⟩
end
end
def keyQ : T → Option Key
  | .d (.int i) => some (.inl i)
  | .d (.str x) => some (.inr x)
  | _ => none
theorem keyQ_rt {K : PySem.W.Frag} {B : Bk} {v : V} {t : T} {k : Key} (r : Rt K B v t) (e : keyQ t = some k) : v = kV k := by
  unfold keyQ at e
  split at e
  · cases e; cases r; rfl
  · cases e; cases r; rfl
  · cases e
def goQD : List (Me × Me) → En → Mem → (List (Key × Dt) → Mem → Prop) → Prop
  | [], _, M, Q => Q [] M
  | (a, b) :: r, τ, M, Q => a τ M fun kt M1 => ∃ k, keyQ kt = some k ∧ b τ M1 fun t M2 => ∃ x, tq t = some x ∧ goQD r τ M2 fun kts M3 => Q ((k, x) :: kts) M3
def mQDic (ps : List (Me × Me)) : Me := fun τ M Q => goQD ps τ M fun kts M1 => ((kts.map (·.1)).Nodup ∧ kts.length ≤ 15) ∧ Q (.q (.dic (kts.map (·.1)) (kts.map (·.2)))) M1
abbrev trsQ (K : PySem.W.Frag) (ps : List (Me × Me)) : List (TE × TE) := ps.map fun p => (rE K p.1, rE K p.2)
theorem qpairs {K : PySem.W.Frag} : ∀ (ps : List (Me × Me)) {σ : L2.St} {τ : En} {M : Mem} {B : Bk} {H : Hp} {Q : List (Key × Dt) → Mem → Prop} {Q' : List (V × V) → Hp → Prop}, goQD ps τ M Q → Wd K B M H → Sl K B σ τ →
    (∀ (kvs : List (Key × V)) (kts : List (Key × Dt)) M' B' H', Q kts M' → Wd K B' M' H' → Ext B H B' H' → kvs.map (·.1) = kts.map (·.1) → RqA K B'.G (kvs.map (·.2)) (kts.map (·.2)) → Q' (kvs.map fun kv => (kV kv.1, kv.2)) H') → tPairs (trsQ K ps) σ H Q'
  | [], σ, τ, M, B, H, Q, Q', h, w, s, k => k [] [] M B H h w (.refl _ _) rfl .nil
  | (a, b) :: r, σ, τ, M, B, H, Q, Q', h, w, s, k => by
    refine ⟨τ, M, B, _, h, w, s, fun v kt M1 B1 H1 ⟨key, hk, h1⟩ w1 e1 r1 => ⟨τ, M1, B1, _, h1, w1, s.mono e1, fun u t M2 B2 H2 ⟨x, hx, h2⟩ w2 e2 r2 => ?_⟩⟩
    have ev := keyQ_rt r1 hk
    subst ev
    refine qpairs r h2 w2 (s.mono (e1.trans e2)) fun kvs kts M3 B3 H3 h3 w3 e3 ek er => ?_
    exact k ((key, u) :: kvs) ((key, x) :: kts) M3 B3 H3 h3 w3 (e1.trans (e2.trans e3)) (by rw [List.map_cons, List.map_cons, ek]) (.cons (Rq.mono e3.g (tq_rt r2 hx)) er)
/-- the world does not know p: what stands there may change -/
theorem Wd.side2 {K : PySem.W.Frag} {B : Bk} {M : Mem} {H : Hp} (w : Wd K B M H) {p : Addr} (hG : B.G p = none) (hr : p ∉ B.r) (hl : p ∉ B.l) (o : HO) : Wd K B M (upd H p o) := by
  refine ⟨fun a u z => ?_, w.rlen, w.llen, w.nd, fun j a c z1 z2 => ?_, fun j a ds z1 z2 => ?_, fun a ha => ?_⟩
  · rw [upd_ne (ne_of_none z hG)]
    exact w.le a u z
  · obtain ⟨p1, p2⟩ := w.dc j a c z1 z2
    exact ⟨p1, CellAt.mono (fun _ _ e => e) (List.prefix_refl _) (upd_ne fun z => hr (by rw [← z]; exact mem_of_get z1)) p2⟩
  · obtain ⟨p1, xs, p2, p3⟩ := w.lc j a ds z1 z2
    exact ⟨p1, xs, (upd_ne fun z => hl (by rw [← z]; exact mem_of_get z1)).trans p2, p3⟩
  · rw [upd_ne fun z => ?_]
    · exact w.tr a ha
    · rw [z] at ha
      exact (List.mem_append.mp ha).elim hr hl
theorem Ext.putG {B B2 : Bk} {H H2 : Hp} {p : Addr} {o : HO} (hp : H p = none) (hG : B2.G p = none) (x : Ext B H B2 H2) : Ext B H { B2 with G := upd B2.G p o } (upd H2 p o) := by
  refine ⟨fun a u e => upd_keep hG a u (x.g a u e), x.r, x.l, fun a u z n1 n2 => ?_, fun a z => ?_, x.rn, x.ln, fun a u e => ?_⟩
  · rw [upd_ne (ne_of_none z hp)]
    exact x.fr a u z n1 n2
  · by_cases q : a = p
    · rw [q]
      exact hp
    · rw [upd_ne q] at z
      exact x.tr a z
  · have e' : upd B2.G p o a = some u := e
    by_cases y : a = p
    · rw [y]
      exact .inr (.inl hp)
    · rw [upd_ne y] at e'
      exact x.gf a u e'
theorem me_qdic {X : Cx} {pos : Pos} {keys : List (Option Expr)} {values : List Expr} {ps : List (Me × Me)} (h : PPs X pos keys values (trsQ X.K ps)) (hall : keys.all (·.isSome) = true) (hl : keys.length = values.length) (h0 : keys ≠ [])
    (h15 : keys.length ≤ 15) : ME X (.Dict keys values pos) (mQDic ps) := PE.of (pe_disp h hall hl h0 h15) fun σ H Q' ⟨τ, M, B, Q, h, w, s, k⟩ => by
  intro p hp
  obtain ⟨hG, hr, hl⟩ := w.fresh hp
  have x0 : Ext B H B (upd H p (.dK [])) := .side hp _
  refine qpairs ps h (w.side hp (.dK [])) s fun kvs kts M2 B2 H2 h2 w2 e2 ek er => ?_
  have hH : H2 p = some (.dK []) := e2.fr p _ upd_same hr hl
  obtain ⟨⟨hnd, h15⟩, hQ⟩ := h2
  have len : kvs.length = kts.length := by rw [← List.length_map (f := (·.1)), ek, List.length_map]
  refine ⟨hH, kvs, rfl, by rw [len]; exact h15, ?_⟩
  rw [merge_nil kvs [] (by rw [List.nil_append, ek]; exact hnd), List.nil_append]
  have nr : p ∉ B2.r := fun z => (e2.rn p z).elim hr fun q => by rw [upd_same] at q; cases q
  have nl : p ∉ B2.l := fun z => (e2.ln p z).elim hl fun q => by rw [upd_same] at q; cases q
  have nG : B2.G p = none := by
    cases q : B2.G p with
    | none => rfl
    | some o =>
      rcases e2.gf p o q with z | z | z
      · rw [hG] at z; cases z
      · rw [upd_same] at z; cases z
      · exact absurd z hl
  have w3 := (w2.side2 nG nr nl (.dK kvs)).adoptG nG nr nl (o := .dK kvs) upd_same
  have x3 : Ext B H { B2 with G := upd B2.G p (.dK kvs) } (upd H2 p (.dK kvs)) := Ext.putG hp nG (x0.trans e2)
  exact k _ _ M2 _ _ hQ w3 x3 (Rq.dic upd_same ek rfl (RqA.mono (upd_keep nG) er))
theorem me_qdic0 {X : Cx} {pos : Pos} : ME X (.Dict [] [] pos) (mQDic []) := PE.of pe_dnewK fun σ H Q' ⟨τ, M, B, Q, h, w, s, k⟩ => by
  intro p hp
  obtain ⟨w2, e2⟩ := w.alloc hp (.dK [])
  exact k _ _ M _ _ h.2 w2 e2 (Rq.dic (kvs := []) upd_same rfl rfl .nil)
end L3
set_option Elab.async false
set_option linter.all false
set_option maxRecDepth 100000
namespace L3
open PySem PySem.Spec L2
def oAddD : F2 := fun x y M Q => ∃ xs k ts, x = .d (.list xs) ∧ y = .mr k ∧ M.D[k]? = some (.lst ts) ∧ xs.length + ts.length ≤ sizeLine ∧ Q (.mr M.D.length) { M with D := M.D ++ [.lst (xs.map T.d ++ ts)] }
theorem paired_rp {K : PySem.W.Frag} {B : Bk} : ∀ {vs : List V} {xs : List PyData}, RpA K B.G vs xs → Paired (Rt K B) vs (xs.map T.d)
  | _, _, .nil => .nil
  | _, _, .cons p q => .cons p (paired_rp q)
theorem paired_app {α β : Type} {F : α → β → Prop} : ∀ {a c : List α} {b d : List β}, Paired F a b → Paired F c d → Paired F (a ++ c) (b ++ d)
  | _, _, _, _, .nil, q => q
  | _, _, _, _, .cons p r, q => .cons p (paired_app r q)
theorem opl_addD {K : PySem.W.Frag} : OpL K (rAdd K) oAddD := by
  rintro x y t u M B H Q Q' ⟨xs, k, ts, rfl, rfl, hD, hl, q⟩ w rx ry kk
  cases (show Rp K B.G x (.list xs) from rx) with
  | @lst _ vs _ e1 q1 =>
    obtain ⟨a, rfl, ha⟩ := ry
    obtain ⟨_, us, e2, q2⟩ := w.dc _ _ _ ha hD
    refine .inr (.inr (.inl ⟨_, _, _, _, rfl, rfl, w.le _ _ e1, e2, ?_, fun p hp => ?_⟩))
    · rw [RpA.length q1, paired_len q2]
      exact hl
    · obtain ⟨w2, x2⟩ := w.newD hp (o := .lst (vs ++ us)) (c := .lst (xs.map T.d ++ ts)) fun H' eH => ⟨_, eH, paired_app (Paired.imp (fun _ _ r => Rt.mono' (B := { B with l := [] }) (B' := { B with r := B.r ++ [p], l := [] }) (fun _ _ e => e) (List.prefix_append _ _) (List.prefix_refl _) r) (paired_rp (B := { B with l := [] }) q1)) (Paired.imp (fun _ _ r => Rt.mono' (B := { B with l := [] }) (B' := { B with r := B.r ++ [p], l := [] }) (fun _ _ e => e) (List.prefix_append _ _) (List.prefix_refl _) r) q2)⟩
      exact kk _ _ _ _ _ q w2 x2 ⟨p, rfl, by rw [← w.rlen]; exact get_snoc⟩
theorem me_addD {X : Cx} {a b : Expr} {ma mb : Me} {pos : Pos} (ha : ME X a ma) (hb : ME X b mb) : ME X (.BinOp a .Add b pos) (mOp oAddD ma mb) := me_op opr_add opl_addD ha hb
end L3
set_option Elab.async false
set_option linter.all false
set_option maxRecDepth 100000
set_option maxHeartbeats 2000000
namespace K54
open PySem PySem.Spec L2 L3
def topS (i : Nat) : Stmt := PySem.Challenge.pw_fallingfields_k54_errors_of_all_classes.main.body.getD i (.Pass ⟨0, 0, 0, 0⟩)
abbrev qt_NoVersion : List (Str × Bool) := [("FieldsError", false), ("Unfit", false), ("BadText", false), ("BadBook", false), ("TooMany", false), ("Level", false), ("Unlevel", false), ("Few", false), ("TooManyEdits", false), ("NothingToUndo", false), ("NothingToRedo", false), ("NoVersion", true), ("BadLog", false)]
abbrev qt_Unlevel : List (Str × Bool) := [("FieldsError", false), ("Unfit", false), ("BadText", false), ("BadBook", false), ("TooMany", false), ("Level", false), ("Unlevel", true), ("Few", false), ("TooManyEdits", false), ("NothingToUndo", false), ("NothingToRedo", false), ("NoVersion", false), ("BadLog", false)]
abbrev qt_TooMany : List (Str × Bool) := [("FieldsError", false), ("Unfit", false), ("BadText", false), ("BadBook", false), ("TooMany", true), ("Level", false), ("Unlevel", false), ("Few", false), ("TooManyEdits", false), ("NothingToUndo", false), ("NothingToRedo", false), ("NoVersion", false), ("BadLog", false)]
abbrev qt_BadBook : List (Str × Bool) := [("FieldsError", false), ("Unfit", false), ("BadText", false), ("BadBook", true), ("TooMany", false), ("Level", false), ("Unlevel", false), ("Few", false), ("TooManyEdits", false), ("NothingToUndo", false), ("NothingToRedo", false), ("NoVersion", false), ("BadLog", false)]
abbrev qt_BadText : List (Str × Bool) := [("FieldsError", false), ("Unfit", false), ("BadText", true), ("BadBook", false), ("TooMany", false), ("Level", false), ("Unlevel", false), ("Few", false), ("TooManyEdits", false), ("NothingToUndo", false), ("NothingToRedo", false), ("NoVersion", false), ("BadLog", false)]
abbrev qt_Unfit : List (Str × Bool) := [("FieldsError", false), ("Unfit", true), ("BadText", false), ("BadBook", false), ("TooMany", false), ("Level", false), ("Unlevel", false), ("Few", false), ("TooManyEdits", false), ("NothingToUndo", false), ("NothingToRedo", false), ("NoVersion", false), ("BadLog", false)]
abbrev qt_BadLog : List (Str × Bool) := [("FieldsError", false), ("Unfit", false), ("BadText", false), ("BadBook", false), ("TooMany", false), ("Level", false), ("Unlevel", false), ("Few", false), ("TooManyEdits", false), ("NothingToUndo", false), ("NothingToRedo", false), ("NoVersion", false), ("BadLog", true)]
abbrev qt_TooManyEdits : List (Str × Bool) := [("FieldsError", false), ("Unfit", false), ("BadText", false), ("BadBook", false), ("TooMany", false), ("Level", false), ("Unlevel", false), ("Few", false), ("TooManyEdits", true), ("NothingToUndo", false), ("NothingToRedo", false), ("NoVersion", false), ("BadLog", false)]
abbrev qt_Few : List (Str × Bool) := [("FieldsError", false), ("Unfit", false), ("BadText", false), ("BadBook", false), ("TooMany", false), ("Level", false), ("Unlevel", false), ("Few", true), ("TooManyEdits", false), ("NothingToUndo", false), ("NothingToRedo", false), ("NoVersion", false), ("BadLog", false)]
abbrev qt_Level : List (Str × Bool) := [("FieldsError", false), ("Unfit", false), ("BadText", false), ("BadBook", false), ("TooMany", false), ("Level", true), ("Unlevel", false), ("Few", false), ("TooManyEdits", false), ("NothingToUndo", false), ("NothingToRedo", false), ("NoVersion", false), ("BadLog", false)]
abbrev qt_NothingToRedo : List (Str × Bool) := [("FieldsError", false), ("Unfit", false), ("BadText", false), ("BadBook", false), ("TooMany", false), ("Level", false), ("Unlevel", false), ("Few", false), ("TooManyEdits", false), ("NothingToUndo", false), ("NothingToRedo", true), ("NoVersion", false), ("BadLog", false)]
abbrev qt_NothingToUndo : List (Str × Bool) := [("FieldsError", false), ("Unfit", false), ("BadText", false), ("BadBook", false), ("TooMany", false), ("Level", false), ("Unlevel", false), ("Few", false), ("TooManyEdits", false), ("NothingToUndo", true), ("NothingToRedo", false), ("NoVersion", false), ("BadLog", false)]
abbrev qt_FieldsError : List (Str × Bool) := [("FieldsError", true), ("Unfit", true), ("BadText", true), ("BadBook", true), ("TooMany", true), ("Level", true), ("Unlevel", true), ("Few", true), ("TooManyEdits", true), ("NothingToUndo", true), ("NothingToRedo", true), ("NoVersion", true), ("BadLog", true)]
abbrev qt_ValueError : List (Str × Bool) := [("FieldsError", true), ("Unfit", true), ("BadText", true), ("BadBook", true), ("TooMany", true), ("Level", true), ("Unlevel", true), ("Few", true), ("TooManyEdits", true), ("NothingToUndo", true), ("NothingToRedo", true), ("NoVersion", true), ("BadLog", true)]
structure Zs (P : Program) (K : PySem.W.Frag) (mg : Str → Option Value) : Prop where
  z_len : mg "len" = none
  z_abs : mg "abs" = none
  z_int : mg "int" = none
  z_range : mg "range" = none
  z_tuple : mg "tuple" = none
  z_isinstance : mg "isinstance" = none
  z_ValueError : mg "ValueError" = none
  z_repr : mg "repr" = none
  qv_0 : ∃ D, mg "FieldsError" = some (.ref D) ∧ PySem.W.kitOne K (.type "ValueError") (.ref D) = some false
  q0_1 : Kx0 K mg "Unfit"
  q0_2 : Kx0 K mg "BadText"
  q0_3 : Kx0 K mg "Level"
  q0_4 : Kx0 K mg "Few"
  q0_5 : Kx0 K mg "TooManyEdits"
  q0_6 : Kx0 K mg "NothingToUndo"
  q0_7 : Kx0 K mg "NothingToRedo"
  qo_8 : ∃ D, mg "NoVersion" = some (.ref D) ∧ IsqT K (.ref D) qt_NoVersion
  qo_9 : ∃ D, mg "Unlevel" = some (.ref D) ∧ IsqT K (.ref D) qt_Unlevel
  qo_10 : ∃ D, mg "TooMany" = some (.ref D) ∧ IsqT K (.ref D) qt_TooMany
  qo_11 : ∃ D, mg "BadBook" = some (.ref D) ∧ IsqT K (.ref D) qt_BadBook
  qo_12 : ∃ D, mg "BadText" = some (.ref D) ∧ IsqT K (.ref D) qt_BadText
  qo_13 : ∃ D, mg "Unfit" = some (.ref D) ∧ IsqT K (.ref D) qt_Unfit
  qo_14 : ∃ D, mg "BadLog" = some (.ref D) ∧ IsqT K (.ref D) qt_BadLog
  qo_15 : ∃ D, mg "TooManyEdits" = some (.ref D) ∧ IsqT K (.ref D) qt_TooManyEdits
  qo_16 : ∃ D, mg "Few" = some (.ref D) ∧ IsqT K (.ref D) qt_Few
  qo_17 : ∃ D, mg "Level" = some (.ref D) ∧ IsqT K (.ref D) qt_Level
  qo_18 : ∃ D, mg "NothingToRedo" = some (.ref D) ∧ IsqT K (.ref D) qt_NothingToRedo
  qo_19 : ∃ D, mg "NothingToUndo" = some (.ref D) ∧ IsqT K (.ref D) qt_NothingToUndo
  qo_20 : ∃ D, mg "FieldsError" = some (.ref D) ∧ IsqT K (.ref D) qt_FieldsError
  qb_21 : IsqT K (.ty "ValueError") qt_ValueError
  q2_22 : Kx2 P K mg "BadBook" "error" "error"
  qf_23 : KqF K "BadBook" "error"
  q2_24 : Kx2 P K mg "TooMany" "limit" "limit"
  qf_25 : KqF K "TooMany" "limit"
  q2_26 : Kx2 P K mg "Unlevel" "pair" "pair"
  qf_27 : KqF K "Unlevel" "pair"
  q2_28 : Kx2 P K mg "NoVersion" "given" "given"
  qf_29 : KqF K "NoVersion" "given"
  q2_30 : Kx2 P K mg "BadLog" "place" "place"
  qf_31 : KqF K "BadLog" "place"
abbrev s__law_deck : Stmt := topS 15
theorem sc__law_deck : FnScope ["script", "deck", "cell", "whole"] ["script"] (defScope s__law_deck) := ⟨rfl, rfl, rfl, by decide +kernel, rfl, by decide +kernel, by decide +kernel⟩
abbrev s__law_draw : Stmt := topS 16
theorem sc__law_draw : FnScope ["deck", "many", "whole", "one", "two"] ["deck", "many"] (defScope s__law_draw) := ⟨rfl, rfl, rfl, by decide +kernel, rfl, by decide +kernel, by decide +kernel⟩
abbrev s__law_pick : Stmt := topS 17
theorem sc__law_pick : FnScope ["deck", "some"] ["deck", "some"] (defScope s__law_pick) := ⟨rfl, rfl, rfl, by decide +kernel, rfl, by decide +kernel, by decide +kernel⟩
abbrev s__law_any_r2 : Stmt := topS 18
theorem sc__law_any_r2 : FnScope ["deck", "deep", "way", "plain", "inner", "turn"] ["deck", "deep"] (defScope s__law_any_r2) := ⟨rfl, rfl, rfl, by decide +kernel, rfl, by decide +kernel, by decide +kernel⟩
abbrev s__law_any_r1 : Stmt := topS 18
theorem sc__law_any_r1 : FnScope ["deck", "deep", "way", "plain", "inner", "turn"] ["deck", "deep"] (defScope s__law_any_r1) := ⟨rfl, rfl, rfl, by decide +kernel, rfl, by decide +kernel, by decide +kernel⟩
abbrev s__law_any : Stmt := topS 18
theorem sc__law_any : FnScope ["deck", "deep", "way", "plain", "inner", "turn"] ["deck", "deep"] (defScope s__law_any) := ⟨rfl, rfl, rfl, by decide +kernel, rfl, by decide +kernel, by decide +kernel⟩
abbrev s__law_made : Stmt := topS 19
theorem sc__law_made : FnScope ["way", "thing", "is_named", "made"] ["way", "thing", "is_named"] (defScope s__law_made) := ⟨rfl, rfl, rfl, by decide +kernel, rfl, by decide +kernel, by decide +kernel⟩
abbrev s__law_is_kind : Stmt := topS 21
theorem sc__law_is_kind : FnScope ["way", "made", "found", "k"] ["way", "made"] (defScope s__law_is_kind) := ⟨rfl, rfl, rfl, by decide +kernel, rfl, by decide +kernel, by decide +kernel⟩
abbrev s__law_bare : Stmt := topS 20
theorem sc__law_bare : FnScope ["way"] ["way"] (defScope s__law_bare) := ⟨rfl, rfl, rfl, by decide +kernel, rfl, by decide +kernel, by decide +kernel⟩
abbrev s_law : Stmt := topS 22
theorem sc_law : FnScope ["script", "deck", "turn", "way", "thing", "is_named", "known", "made", "held", "again", "mate"] ["script"] (defScope s_law) := ⟨rfl, rfl, rfl, by decide +kernel, rfl, by decide +kernel, by decide +kernel⟩
abbrev b__law_deck_0 : Ms := (mDPut (mVar 1) (mC (.str "deep")) (mOp oAddD (mLst (aCons (mCall fAbs (aCons (mVar 2) aNil)) aNil)) (mOp oDGet (mVar 1) (mC (.str "deep")))))
abbrev b__law_deck_1 : Ms := (mDPut (mVar 1) (mC (.str "state")) (mOp oMod (mCall fInt (aCons (mOp oAdd (mOp oMul (mOp oAdd (mOp oAdd (mOp oDGet (mVar 1) (mC (.str "state"))) (mVar 3)) (mC (.int 1))) (mC (.int 1181783497276652981))) (mC (.int 521288629))) aNil)) (mC (.int 2305843009213693951))))
abbrev b__law_deck_2 : Ms := (mSeq (mSet 3 (mOp oAdd (mOp oMul (mC (.int 2)) (mCall fAbs (aCons (mVar 2) aNil))) (mCall fInt (aCons (mOp oLt (mVar 2) (mC (.int 0))) aNil)))) b__law_deck_1)
abbrev b__law_deck_3 : Ms := (mSeq (mIf (mTest (mOp oGe (mCall fAbs (aCons (mVar 2) aNil)) (mOp oPow (mC (.int 10)) (mC (.int 18))))) b__law_deck_0 mNext) b__law_deck_2)
abbrev b__law_deck_4 : Ms := (mRet (mVar 1))
abbrev b__law_deck_5 : Ms := (mSeq (mFor (iSeq (mSl (mVar 0) oNone (oPart (mC (.int 63))))) (gN 2) b__law_deck_3) b__law_deck_4)
abbrev b__law_deck_6 : Ms := (mSeq (mSet 1 (mDisp [("deep", (mNewD aNil)), ("state", (mOp oAdd (mOp oAdd (mC (.int 362436069)) (mC (.int 538542))) (mCall fLen (aCons (mSl (mVar 0) oNone (oPart (mC (.int 63)))) aNil))))])) b__law_deck_5)
abbrev b__law_deck : Ms := b__law_deck_6
def d__law_deck : FD := mDef 1 4 b__law_deck
abbrev b__law_draw_0 : Ms := (mRet (mC (.int 0)))
abbrev b__law_draw_1 : Ms := (mDrop (mMeth fApp (mOp oDGet (mVar 0) (mC (.str "deep"))) (aCons (mOp oDiv (mVar 2) (mVar 1)) aNil)))
abbrev b__law_draw_2 : Ms := (mRet (mOp oMod (mCall fInt (aCons (mVar 2) aNil)) (mVar 1)))
abbrev b__law_draw_3 : Ms := (mSeq (mIf (mTest (mOp oGe (mVar 2) (mVar 1))) b__law_draw_1 mNext) b__law_draw_2)
abbrev b__law_draw_4 : Ms := (mSeq (mSet 2 (mMeth0 fPop (mOp oDGet (mVar 0) (mC (.str "deep"))))) b__law_draw_3)
abbrev b__law_draw_5 : Ms := (mRet (mOp oMod (mCall fInt (aCons (mOp oDiv (mVar 4) (mC (.int 1048576))) aNil)) (mVar 1)))
abbrev b__law_draw_6 : Ms := (mSeq (mSet 4 (mOp oMod (mCall fInt (aCons (mOp oAdd (mOp oAdd (mOp oMul (mVar 3) (mVar 3)) (mOp oMul (mC (.int 374761393)) (mVar 3))) (mC (.int 11))) aNil)) (mC (.int 2305843009213693921)))) b__law_draw_5)
abbrev b__law_draw_7 : Ms := (mSeq (mDPut (mVar 0) (mC (.str "state")) (mVar 3)) b__law_draw_6)
abbrev b__law_draw_8 : Ms := (mSeq (mSet 3 (mOp oMod (mCall fInt (aCons (mOp oAdd (mOp oMul (mOp oDGet (mVar 0) (mC (.str "state"))) (mC (.int 1181783497276652981))) (mC (.int 88172645463325))) aNil)) (mC (.int 2305843009213693951)))) b__law_draw_7)
abbrev b__law_draw_9 : Ms := (mSeq (mIf (mTest (mOp (oEq true) (mOp oDGet (mVar 0) (mC (.str "deep"))) (mLst aNil))) b__law_draw_4 mNext) b__law_draw_8)
abbrev b__law_draw_10 : Ms := (mSeq (mIf (mTest (mOp oLt (mVar 1) (mC (.int 2)))) b__law_draw_0 mNext) b__law_draw_9)
abbrev b__law_draw : Ms := b__law_draw_10
def d__law_draw : FD := mDef 2 5 b__law_draw
abbrev b__law_pick_0 : Ms := (mRet (mOp oQIx (mVar 1) (mCall (fDef d__law_draw) (aCons (mVar 0) (aCons (mCall fQLen (aCons (mVar 1) aNil)) aNil)))))
abbrev b__law_pick : Ms := b__law_pick_0
def d__law_pick : FD := mDef 2 2 b__law_pick
abbrev b__law_any_r2_0 : Ms := (mRet (mCall (fDef d__law_pick) (aCons (mVar 0) (aCons (mOp oQAdd (mVar 3) (mQLst (aCons (mQLst (aCons (mC (.int 1)) (aCons (mQLst (aCons (mC (.int 2)) aNil)) aNil))) (aCons (mQDic [((mC (.str "a")), (mC (.int 1)))]) (aCons (mQTup (aCons (mC (.str "kind")) (aCons (mC (.int 3)) aNil))) (aCons (mC (.str "form")) (aCons (mQTup (aCons (mC (.int 0)) (aCons (mC (.int 1)) aNil))) (aCons (mQTup (aCons (mC (.str "kind")) (aCons (mQLst (aCons (mC (.int 0)) aNil)) aNil))) (aCons (mC (.int 256)) (aCons (mC (.int 100)) (aCons (mOp oPow (mC (.int 10)) (mC (.int 30))) aNil))))))))))) aNil))))
abbrev b__law_any_r2_1 : Ms := (mSeq (mSet 3 (mQLst (aCons (mC .none) (aCons (mC (.bool true)) (aCons (mC (.bool false)) (aCons (mC (.int 0)) (aCons (mC (.int 1)) (aCons (mUn oNeg (mC (.int 1))) (aCons (mOp oPow (mC (.int 10)) (mC (.int 60))) (aCons (mOp oMulW (mUn oNeg (mOp oPow (mC (.int 10)) (mC (.int 60)))) (mOp oPow (mC (.int 10)) (mC (.int 60)))) (aCons (mC (.str "")) (aCons (mC (.str "a")) (aCons (mOp oMulS (mC (.str "x\n")) (mC (.int 40))) (aCons (mQTup aNil) (aCons (mQLst aNil) (aCons (mQDic []) (aCons (mQTup (aCons (mC (.int 4)) (aCons (mC (.int 4)) aNil))) aNil))))))))))))))))) b__law_any_r2_0)
abbrev b__law_any_r2_2 : Ms := (mRet (mIte (mTest (mOp oLt (mVar 2) (mC (.int 11)))) (mCall fQTuple (aCons (mVar 4) aNil)) (mIte (mTest (mOp (oEq false) (mVar 2) (mC (.int 11)))) (mVar 4) (mQDic [((mC (.str "b")), (mVar 4))]))))
abbrev b__law_any_r2_3 : Ms := (mSeq (mSet 4 (mQLc (iRange (aCons (mCall (fDef d__law_draw) (aCons (mVar 0) (aCons (mC (.int 4)) aNil))) aNil)) (gN 5) bYes mNever [5])) b__law_any_r2_2)
abbrev b__law_any_r2_4 : Ms := (mSeq (mIf (mTest (mOp oLt (mVar 2) (mC (.int 9)))) b__law_any_r2_1 mNext) b__law_any_r2_3)
abbrev b__law_any_r2_5 : Ms := (mSeq (mSet 2 (mCall (fDef d__law_draw) (aCons (mVar 0) (aCons (mIte (mTest (mOp oGt (mVar 1) (mC (.int 0)))) (mC (.int 13)) (mC (.int 9))) aNil)))) b__law_any_r2_4)
abbrev b__law_any_r2 : Ms := b__law_any_r2_5
def d__law_any_r2 : FD := mDef 2 6 b__law_any_r2
abbrev b__law_any_r1_0 : Ms := (mRet (mCall (fDef d__law_pick) (aCons (mVar 0) (aCons (mOp oQAdd (mVar 3) (mQLst (aCons (mQLst (aCons (mC (.int 1)) (aCons (mQLst (aCons (mC (.int 2)) aNil)) aNil))) (aCons (mQDic [((mC (.str "a")), (mC (.int 1)))]) (aCons (mQTup (aCons (mC (.str "kind")) (aCons (mC (.int 3)) aNil))) (aCons (mC (.str "form")) (aCons (mQTup (aCons (mC (.int 0)) (aCons (mC (.int 1)) aNil))) (aCons (mQTup (aCons (mC (.str "kind")) (aCons (mQLst (aCons (mC (.int 0)) aNil)) aNil))) (aCons (mC (.int 256)) (aCons (mC (.int 100)) (aCons (mOp oPow (mC (.int 10)) (mC (.int 30))) aNil))))))))))) aNil))))
abbrev b__law_any_r1_1 : Ms := (mSeq (mSet 3 (mQLst (aCons (mC .none) (aCons (mC (.bool true)) (aCons (mC (.bool false)) (aCons (mC (.int 0)) (aCons (mC (.int 1)) (aCons (mUn oNeg (mC (.int 1))) (aCons (mOp oPow (mC (.int 10)) (mC (.int 60))) (aCons (mOp oMulW (mUn oNeg (mOp oPow (mC (.int 10)) (mC (.int 60)))) (mOp oPow (mC (.int 10)) (mC (.int 60)))) (aCons (mC (.str "")) (aCons (mC (.str "a")) (aCons (mOp oMulS (mC (.str "x\n")) (mC (.int 40))) (aCons (mQTup aNil) (aCons (mQLst aNil) (aCons (mQDic []) (aCons (mQTup (aCons (mC (.int 4)) (aCons (mC (.int 4)) aNil))) aNil))))))))))))))))) b__law_any_r1_0)
abbrev b__law_any_r1_2 : Ms := (mRet (mIte (mTest (mOp oLt (mVar 2) (mC (.int 11)))) (mCall fQTuple (aCons (mVar 4) aNil)) (mIte (mTest (mOp (oEq false) (mVar 2) (mC (.int 11)))) (mVar 4) (mQDic [((mC (.str "b")), (mVar 4))]))))
abbrev b__law_any_r1_3 : Ms := (mSeq (mSet 4 (mQLc (iRange (aCons (mCall (fDef d__law_draw) (aCons (mVar 0) (aCons (mC (.int 4)) aNil))) aNil)) (gN 5) bYes (mCall (fDef d__law_any_r2) (aCons (mVar 0) (aCons (mOp oSub (mVar 1) (mC (.int 1))) aNil))) [5])) b__law_any_r1_2)
abbrev b__law_any_r1_4 : Ms := (mSeq (mIf (mTest (mOp oLt (mVar 2) (mC (.int 9)))) b__law_any_r1_1 mNext) b__law_any_r1_3)
abbrev b__law_any_r1_5 : Ms := (mSeq (mSet 2 (mCall (fDef d__law_draw) (aCons (mVar 0) (aCons (mIte (mTest (mOp oGt (mVar 1) (mC (.int 0)))) (mC (.int 13)) (mC (.int 9))) aNil)))) b__law_any_r1_4)
abbrev b__law_any_r1 : Ms := b__law_any_r1_5
def d__law_any_r1 : FD := mDef 2 6 b__law_any_r1
abbrev b__law_any_0 : Ms := (mRet (mCall (fDef d__law_pick) (aCons (mVar 0) (aCons (mOp oQAdd (mVar 3) (mQLst (aCons (mQLst (aCons (mC (.int 1)) (aCons (mQLst (aCons (mC (.int 2)) aNil)) aNil))) (aCons (mQDic [((mC (.str "a")), (mC (.int 1)))]) (aCons (mQTup (aCons (mC (.str "kind")) (aCons (mC (.int 3)) aNil))) (aCons (mC (.str "form")) (aCons (mQTup (aCons (mC (.int 0)) (aCons (mC (.int 1)) aNil))) (aCons (mQTup (aCons (mC (.str "kind")) (aCons (mQLst (aCons (mC (.int 0)) aNil)) aNil))) (aCons (mC (.int 256)) (aCons (mC (.int 100)) (aCons (mOp oPow (mC (.int 10)) (mC (.int 30))) aNil))))))))))) aNil))))
abbrev b__law_any_1 : Ms := (mSeq (mSet 3 (mQLst (aCons (mC .none) (aCons (mC (.bool true)) (aCons (mC (.bool false)) (aCons (mC (.int 0)) (aCons (mC (.int 1)) (aCons (mUn oNeg (mC (.int 1))) (aCons (mOp oPow (mC (.int 10)) (mC (.int 60))) (aCons (mOp oMulW (mUn oNeg (mOp oPow (mC (.int 10)) (mC (.int 60)))) (mOp oPow (mC (.int 10)) (mC (.int 60)))) (aCons (mC (.str "")) (aCons (mC (.str "a")) (aCons (mOp oMulS (mC (.str "x\n")) (mC (.int 40))) (aCons (mQTup aNil) (aCons (mQLst aNil) (aCons (mQDic []) (aCons (mQTup (aCons (mC (.int 4)) (aCons (mC (.int 4)) aNil))) aNil))))))))))))))))) b__law_any_0)
abbrev b__law_any_2 : Ms := (mRet (mIte (mTest (mOp oLt (mVar 2) (mC (.int 11)))) (mCall fQTuple (aCons (mVar 4) aNil)) (mIte (mTest (mOp (oEq false) (mVar 2) (mC (.int 11)))) (mVar 4) (mQDic [((mC (.str "b")), (mVar 4))]))))
abbrev b__law_any_3 : Ms := (mSeq (mSet 4 (mQLc (iRange (aCons (mCall (fDef d__law_draw) (aCons (mVar 0) (aCons (mC (.int 4)) aNil))) aNil)) (gN 5) bYes (mCall (fDef d__law_any_r1) (aCons (mVar 0) (aCons (mOp oSub (mVar 1) (mC (.int 1))) aNil))) [5])) b__law_any_2)
abbrev b__law_any_4 : Ms := (mSeq (mIf (mTest (mOp oLt (mVar 2) (mC (.int 9)))) b__law_any_1 mNext) b__law_any_3)
abbrev b__law_any_5 : Ms := (mSeq (mSet 2 (mCall (fDef d__law_draw) (aCons (mVar 0) (aCons (mIte (mTest (mOp oGt (mVar 1) (mC (.int 0)))) (mC (.int 13)) (mC (.int 9))) aNil)))) b__law_any_4)
abbrev b__law_any : Ms := b__law_any_5
def d__law_any : FD := mDef 2 6 b__law_any
abbrev b__law_made_0 : Ms := (mRet (mQTup (aCons (mVar 3) (aCons (mQFld ["BadBook"] "error" (mVar 3)) aNil))))
abbrev b__law_made_1 : Ms := (mSeq (mSet 3 (mIte (mTest (mVar 2)) (mMk1 "BadBook" "error" (aCons (mVar 1) aNil)) (mMk1 "BadBook" "error" (aCons (mVar 1) aNil)))) b__law_made_0)
abbrev b__law_made_2 : Ms := (mRet (mQTup (aCons (mVar 3) (aCons (mQFld ["TooMany"] "limit" (mVar 3)) aNil))))
abbrev b__law_made_3 : Ms := (mSeq (mSet 3 (mIte (mTest (mVar 2)) (mMk1 "TooMany" "limit" (aCons (mVar 1) aNil)) (mMk1 "TooMany" "limit" (aCons (mVar 1) aNil)))) b__law_made_2)
abbrev b__law_made_4 : Ms := (mRet (mQTup (aCons (mVar 3) (aCons (mQFld ["Unlevel"] "pair" (mVar 3)) aNil))))
abbrev b__law_made_5 : Ms := (mSeq (mSet 3 (mIte (mTest (mVar 2)) (mMk1 "Unlevel" "pair" (aCons (mVar 1) aNil)) (mMk1 "Unlevel" "pair" (aCons (mVar 1) aNil)))) b__law_made_4)
abbrev b__law_made_6 : Ms := (mRet (mQTup (aCons (mVar 3) (aCons (mQFld ["NoVersion"] "given" (mVar 3)) aNil))))
abbrev b__law_made_7 : Ms := (mSeq (mSet 3 (mIte (mTest (mVar 2)) (mMk1 "NoVersion" "given" (aCons (mVar 1) aNil)) (mMk1 "NoVersion" "given" (aCons (mVar 1) aNil)))) b__law_made_6)
abbrev b__law_made_8 : Ms := (mRet (mQTup (aCons (mVar 3) (aCons (mQFld ["BadLog"] "place" (mVar 3)) aNil))))
abbrev b__law_made_9 : Ms := (mSeq (mSet 3 (mIte (mTest (mVar 2)) (mMk1 "BadLog" "place" (aCons (mVar 1) aNil)) (mMk1 "BadLog" "place" (aCons (mVar 1) aNil)))) b__law_made_8)
abbrev b__law_made_10 : Ms := (mSeq (mIf (mTest (mOp (oEq false) (mVar 0) (mC (.int 3)))) b__law_made_7 mNext) b__law_made_9)
abbrev b__law_made_11 : Ms := (mSeq (mIf (mTest (mOp (oEq false) (mVar 0) (mC (.int 2)))) b__law_made_5 mNext) b__law_made_10)
abbrev b__law_made_12 : Ms := (mSeq (mIf (mTest (mOp (oEq false) (mVar 0) (mC (.int 1)))) b__law_made_3 mNext) b__law_made_11)
abbrev b__law_made_13 : Ms := (mSeq (mIf (mTest (mOp (oEq false) (mVar 0) (mC (.int 0)))) b__law_made_1 mNext) b__law_made_12)
abbrev b__law_made : Ms := b__law_made_13
def d__law_made : FD := mDef 3 4 b__law_made
abbrev b__law_is_kind_0 : Ms := (mRet (mAnd (mOp (oEq false) (mVar 2) (mLc (iRange (aCons (mC (.int 12)) aNil)) (gN 3) bYes (mOp (oEq false) (mVar 3) (mVar 0)) [3])) (mAnd (mQIsc qt_FieldsError (mVar 1)) (mQIsi "ValueError" qt_ValueError (mVar 1)))))
abbrev b__law_is_kind_1 : Ms := (mSeq (mSet 2 (mOp oAdd (mVar 2) (mLst (aCons (mQIsc qt_NothingToUndo (mVar 1)) (aCons (mQIsc qt_NothingToRedo (mVar 1)) aNil))))) b__law_is_kind_0)
abbrev b__law_is_kind_2 : Ms := (mSeq (mSet 2 (mOp oAdd (mVar 2) (mLst (aCons (mQIsc qt_Level (mVar 1)) (aCons (mQIsc qt_Few (mVar 1)) (aCons (mQIsc qt_TooManyEdits (mVar 1)) aNil)))))) b__law_is_kind_1)
abbrev b__law_is_kind_3 : Ms := (mSeq (mSet 2 (mOp oAdd (mVar 2) (mLst (aCons (mQIsc qt_BadLog (mVar 1)) (aCons (mQIsc qt_Unfit (mVar 1)) (aCons (mQIsc qt_BadText (mVar 1)) aNil)))))) b__law_is_kind_2)
abbrev b__law_is_kind_4 : Ms := (mSeq (mSet 2 (mLst (aCons (mQIsc qt_BadBook (mVar 1)) (aCons (mQIsc qt_TooMany (mVar 1)) (aCons (mQIsc qt_Unlevel (mVar 1)) (aCons (mQIsc qt_NoVersion (mVar 1)) aNil)))))) b__law_is_kind_3)
abbrev b__law_is_kind : Ms := b__law_is_kind_4
def d__law_is_kind : FD := mDef 2 4 b__law_is_kind
abbrev b__law_bare_0 : Ms := (mRet (mMk0 "Unfit"))
abbrev b__law_bare_1 : Ms := (mRet (mMk0 "BadText"))
abbrev b__law_bare_2 : Ms := (mRet (mMk0 "Level"))
abbrev b__law_bare_3 : Ms := (mRet (mMk0 "Few"))
abbrev b__law_bare_4 : Ms := (mRet (mMk0 "TooManyEdits"))
abbrev b__law_bare_5 : Ms := (mRet (mIte (mTest (mOp (oEq false) (mVar 0) (mC (.int 10)))) (mMk0 "NothingToUndo") (mMk0 "NothingToRedo")))
abbrev b__law_bare_6 : Ms := (mSeq (mIf (mTest (mOp (oEq false) (mVar 0) (mC (.int 9)))) b__law_bare_4 mNext) b__law_bare_5)
abbrev b__law_bare_7 : Ms := (mSeq (mIf (mTest (mOp (oEq false) (mVar 0) (mC (.int 8)))) b__law_bare_3 mNext) b__law_bare_6)
abbrev b__law_bare_8 : Ms := (mSeq (mIf (mTest (mOp (oEq false) (mVar 0) (mC (.int 7)))) b__law_bare_2 mNext) b__law_bare_7)
abbrev b__law_bare_9 : Ms := (mSeq (mIf (mTest (mOp (oEq false) (mVar 0) (mC (.int 6)))) b__law_bare_1 mNext) b__law_bare_8)
abbrev b__law_bare_10 : Ms := (mSeq (mIf (mTest (mOp (oEq false) (mVar 0) (mC (.int 5)))) b__law_bare_0 mNext) b__law_bare_9)
abbrev b__law_bare : Ms := b__law_bare_10
def d__law_bare : FD := mDef 1 1 b__law_bare
abbrev b_law_0 : Ms := (mRet (mC (.bool false)))
abbrev b_law_1 : Ms := (mRet (mC (.bool false)))
abbrev b_law_2 : Ms := (mIf (bOr (bNot (mTest (mCall (fDef d__law_is_kind) (aCons (mVar 3) (aCons (mVar 7) aNil))))) (bNot (mTest (mCall (fDef d__law_is_kind) (aCons (mVar 3) (aCons (mVar 9) aNil)))))) b_law_1 mNext)
abbrev b_law_3 : Ms := (mSeq (mIf (bOr (mTest (mOp (oEq true) (mCall fQRepr (aCons (mQLst (aCons (mVar 8) (aCons (mVar 10) (aCons (mVar 4) aNil)))) aNil)) (mCall fQRepr (aCons (mQLst (aCons (mVar 4) (aCons (mVar 4) (aCons (mVar 4) aNil)))) aNil)))) (mTest (mOp (oEq true) (mCall fQRepr (aCons (mVar 4) aNil)) (mVar 6)))) b_law_0 mNext) b_law_2)
abbrev b_law_4 : Ms := (mSeq (mAsg (mCall (fDef d__law_made) (aCons (mVar 3) (aCons (mVar 4) (aCons (mNot (mVar 5)) aNil)))) (gQTu 2 (qsCons (gN 9) (qsCons (gN 10) qsNil)))) b_law_3)
abbrev b_law_5 : Ms := (mSeq (mAsg (mCall (fDef d__law_made) (aCons (mVar 3) (aCons (mVar 4) (aCons (mVar 5) aNil)))) (gQTu 2 (qsCons (gN 7) (qsCons (gN 8) qsNil)))) b_law_4)
abbrev b_law_6 : Ms := (mSeq (mSet 6 (mCall fQRepr (aCons (mVar 4) aNil))) b_law_5)
abbrev b_law_7 : Ms := (mSeq (mPar 4 5 (aCons (mCall (fDef d__law_any) (aCons (mVar 1) (aCons (mC (.int 2)) aNil))) (aCons (mOp (oEq false) (mCall (fDef d__law_draw) (aCons (mVar 1) (aCons (mC (.int 2)) aNil))) (mC (.int 0))) aNil))) b_law_6)
abbrev b_law_8 : Ms := (mFor (iRange (aCons (mC (.int 5)) aNil)) (gN 3) b_law_7)
abbrev b_law_9 : Ms := (mRet (mC (.bool false)))
abbrev b_law_10 : Ms := (mIf (bNot (mTest (mCall (fDef d__law_is_kind) (aCons (mVar 3) (aCons (mCall (fDef d__law_bare) (aCons (mVar 3) aNil)) aNil))))) b_law_9 mNext)
abbrev b_law_11 : Ms := (mRet (mNot (mIsVE false)))
abbrev b_law_12 : Ms := (mSeq (mFor (iRange2 (aCons (mC (.int 5)) (aCons (mC (.int 12)) aNil))) (gN 3) b_law_10) b_law_11)
abbrev b_law_13 : Ms := (mSeq (mFor (iRange (aCons (mC (.int 3)) aNil)) (gN 2) b_law_8) b_law_12)
abbrev b_law_14 : Ms := (mSeq (mSet 1 (mCall (fDef d__law_deck) (aCons (mVar 0) aNil))) b_law_13)
abbrev b_law : Ms := b_law_14
def d_law : FD := mDef 1 11 b_law
section
variable {P : Program} {w : World} {K : PySem.W.Frag} {mg : Str → Option Value} {base : Heap}
theorem ok__law_deck (Z : Zs P K mg)  {f : Addr} {fd : FuncData} (F : Fun K "_law_deck" "_law_deck" s__law_deck f fd) : FnG P w K mg base 1 f fd ["script"] (spM K d__law_deck) :=
  ok_def (k := 0) F sc__law_deck fun cdv A outer sh H E gd rm =>
   ((mss_cons (ms_set (i := 1) sc__law_deck.nd rfl (by first | exact .inl rfl | exact .inr rfl) (me_disp (pps_cons pe_str (me_newD ma_nil) (pps_cons pe_str (me_add (me_add me_int me_int) (me_len (by rfl) Z.z_len (ma_cons (me_slice (me_var (pv 0)) mo_none (mo_some me_int)) ma_nil))) pps_nil)) rfl rfl (by simp) (by decide)))
    (mss_cons (ms_for PassesOwn.never rfl (mi_seq (me_slice (me_var (pv 0)) mo_none (mo_some me_int))) (mg_name (i := 2) sc__law_deck.nd rfl (by first | exact .inl rfl | exact .inr rfl)) (mss_cons (ms_if (mb_ge (me_abs (by rfl) Z.z_abs (ma_cons (me_var (pv 2)) ma_nil)) (me_pow me_int me_int)) (mss_one (ms_dput (hu_of rm) (me_var (pv 1)) me_str (me_addD (me_lst (ma_cons (me_abs (by rfl) Z.z_abs (ma_cons (me_var (pv 2)) ma_nil)) ma_nil)) (me_dget (hu_of rm) (me_var (pv 1)) me_str fun _ _ => rfl)) (by rfl))) mss_nil)
    (mss_cons (ms_set (i := 3) sc__law_deck.nd rfl (by first | exact .inl rfl | exact .inr rfl) (me_add (me_mul me_int (me_abs (by rfl) Z.z_abs (ma_cons (me_var (pv 2)) ma_nil))) (me_inti (by rfl) Z.z_int (ma_cons (me_lt (me_var (pv 2)) me_int) ma_nil))))
    (mss_one (ms_dput (hu_of rm) (me_var (pv 1)) me_str (me_mod (me_inti (by rfl) Z.z_int (ma_cons (me_add (me_mul (me_add (me_add (me_dget (hu_of rm) (me_var (pv 1)) me_str fun _ _ => rfl) (me_var (pv 3))) me_int) me_int) me_int) ma_nil)) me_int) (by rfl))))))
    (mss_one (ms_ret (me_var (pv 1)))))) : MSs _ (defBody s__law_deck) b__law_deck)
theorem ok__law_draw (Z : Zs P K mg)  {f : Addr} {fd : FuncData} (F : Fun K "_law_draw" "_law_draw" s__law_draw f fd) : FnG P w K mg base 1 f fd ["deck", "many"] (spM K d__law_draw) :=
  ok_def (k := 0) F sc__law_draw fun cdv A outer sh H E gd rm =>
   ((mss_cons (ms_if (mb_lt (me_var (pv 1)) me_int) (mss_one (ms_ret me_int)) mss_nil)
    (mss_cons (ms_if (mb_ne rm (me_dget (hu_of rm) (me_var (pv 0)) me_str fun _ _ => rfl) (me_lst ma_nil)) (mss_cons (ms_set (i := 2) sc__law_draw.nd rfl (by first | exact .inl rfl | exact .inr rfl) (me_pop (me_dget (hu_of rm) (me_var (pv 0)) me_str fun _ _ => rfl)))
    (mss_cons (ms_if (mb_ge (me_var (pv 2)) (me_var (pv 1))) (mss_one (ms_expr (me_append (me_dget (hu_of rm) (me_var (pv 0)) me_str fun _ _ => rfl) (ma_cons (me_div (me_var (pv 2)) (me_var (pv 1))) ma_nil)))) mss_nil)
    (mss_one (ms_ret (me_mod (me_inti (by rfl) Z.z_int (ma_cons (me_var (pv 2)) ma_nil)) (me_var (pv 1))))))) mss_nil)
    (mss_cons (ms_set (i := 3) sc__law_draw.nd rfl (by first | exact .inl rfl | exact .inr rfl) (me_mod (me_inti (by rfl) Z.z_int (ma_cons (me_add (me_mul (me_dget (hu_of rm) (me_var (pv 0)) me_str fun _ _ => rfl) me_int) me_int) ma_nil)) me_int))
    (mss_cons (ms_dput (hu_of rm) (me_var (pv 0)) me_str (me_var (pv 3)) (by rfl))
    (mss_cons (ms_set (i := 4) sc__law_draw.nd rfl (by first | exact .inl rfl | exact .inr rfl) (me_mod (me_inti (by rfl) Z.z_int (ma_cons (me_add (me_add (me_mul (me_var (pv 3)) (me_var (pv 3))) (me_mul me_int (me_var (pv 3)))) me_int) ma_nil)) me_int))
    (mss_one (ms_ret (me_mod (me_inti (by rfl) Z.z_int (ma_cons (me_div (me_var (pv 4)) me_int) ma_nil)) (me_var (pv 1)))))))))) : MSs _ (defBody s__law_draw) b__law_draw)
theorem ok__law_pick (Z : Zs P K mg) (h__law_draw : Kn P w K mg base 1 "_law_draw" s__law_draw ["deck", "many"] d__law_draw) {f : Addr} {fd : FuncData} (F : Fun K "_law_pick" "_law_pick" s__law_pick f fd) : FnG P w K mg base 2 f fd ["deck", "some"] (spM K d__law_pick) :=
  ok_def (k := 1) F sc__law_pick fun cdv A outer sh H E gd rm =>
   ((mss_one (ms_ret (me_qix (me_var (pv 1)) (me_fn h__law_draw gd rm (by decide) (by rfl) (ma_cons (me_var (pv 0)) (ma_cons (me_qlen (by rfl) Z.z_len (ma_cons (me_var (pv 1)) ma_nil)) ma_nil))) fun _ _ => rfl))) : MSs _ (defBody s__law_pick) b__law_pick)
theorem ok__law_any_r2 (Z : Zs P K mg) (h__law_draw : Kn P w K mg base 1 "_law_draw" s__law_draw ["deck", "many"] d__law_draw) (h__law_pick : Kn P w K mg base 2 "_law_pick" s__law_pick ["deck", "some"] d__law_pick) {f : Addr} {fd : FuncData} (F : Fun K "_law_any" "_law_any" s__law_any_r2 f fd) : FnG P w K mg base 3 f fd ["deck", "deep"] (spM K d__law_any_r2) :=
  ok_def (k := 2) F sc__law_any_r2 fun cdv A outer sh H E gd rm =>
   ((mss_cons (ms_set (i := 2) sc__law_any_r2.nd rfl (by first | exact .inl rfl | exact .inr rfl) (me_fn h__law_draw gd rm (by decide) (by rfl) (ma_cons (me_var (pv 0)) (ma_cons (me_ite (mb_gt (me_var (pv 1)) me_int) me_int me_int) ma_nil))))
    (mss_cons (ms_if (mb_lt (me_var (pv 2)) me_int) (mss_cons (ms_set (i := 3) sc__law_any_r2.nd rfl (by first | exact .inl rfl | exact .inr rfl) (me_qlst (ma_cons me_non (ma_cons me_bl (ma_cons me_bl (ma_cons me_int (ma_cons me_int (ma_cons (me_neg me_int) (ma_cons (me_pow me_int me_int) (ma_cons (me_mulW (me_neg (me_pow me_int me_int)) (me_pow me_int me_int)) (ma_cons me_str (ma_cons me_str (ma_cons (me_mulS me_str me_int) (ma_cons (me_qtup ma_nil) (ma_cons (me_qlst ma_nil) (ma_cons me_qdic0 (ma_cons (me_qtup (ma_cons me_int (ma_cons me_int ma_nil))) ma_nil)))))))))))))))))
    (mss_one (ms_ret (me_fn h__law_pick gd rm (by decide) (by rfl) (ma_cons (me_var (pv 0)) (ma_cons (me_qadd (me_var (pv 3)) (me_qlst (ma_cons (me_qlst (ma_cons me_int (ma_cons (me_qlst (ma_cons me_int ma_nil)) ma_nil))) (ma_cons (me_qdic (pps_cons me_str me_int pps_nil) rfl rfl (by simp) (by decide)) (ma_cons (me_qtup (ma_cons me_str (ma_cons me_int ma_nil))) (ma_cons me_str (ma_cons (me_qtup (ma_cons me_int (ma_cons me_int ma_nil))) (ma_cons (me_qtup (ma_cons me_str (ma_cons (me_qlst (ma_cons me_int ma_nil)) ma_nil))) (ma_cons me_int (ma_cons me_int (ma_cons (me_pow me_int me_int) ma_nil))))))))))) ma_nil)))))) mss_nil)
    (mss_cons (ms_setLcQ (n := 4) (own := [("turn", 5)]) rfl sc__law_any_r2.nd rfl rfl (swT rfl rfl rfl (by decide +kernel)) (mi_range (by rfl) Z.z_range (ma_cons (me_fn h__law_draw gd rm (by decide) (by rfl) (ma_cons (me_var (pv 0)) (ma_cons me_int ma_nil))) ma_nil)) (blkOk_by (N := ["deck", "deep", "way", "plain", "inner", "turn"]) (sc := defScope s__law_any_r2) (by decide +kernel)) (fun _ _ _ _ _ => (mg_name (i := 5) sc__law_any_r2.nd rfl (by first | exact .inl rfl | exact .inr rfl))) (fun _ _ _ _ _ => mts_nil) (fun _ _ _ _ _ => me_never) (by decide))
    (mss_one (ms_ret (me_ite (mb_lt (me_var (pv 2)) me_int) (me_qtuple (by rfl) Z.z_tuple (ma_cons (me_var (pv 4)) ma_nil)) (me_ite (mb_eq rm (me_var (pv 2)) me_int) (me_var (pv 4)) (me_qdic (pps_cons me_str (me_var (pv 4)) pps_nil) rfl rfl (by simp) (by decide))))))))) : MSs _ (defBody s__law_any_r2) b__law_any_r2)
theorem ok__law_any_r1 (Z : Zs P K mg) (h__law_draw : Kn P w K mg base 1 "_law_draw" s__law_draw ["deck", "many"] d__law_draw) (h__law_pick : Kn P w K mg base 2 "_law_pick" s__law_pick ["deck", "some"] d__law_pick) (h__law_any_r2 : Kn P w K mg base 3 "_law_any" s__law_any_r2 ["deck", "deep"] d__law_any_r2) {f : Addr} {fd : FuncData} (F : Fun K "_law_any" "_law_any" s__law_any_r1 f fd) : FnG P w K mg base 4 f fd ["deck", "deep"] (spM K d__law_any_r1) :=
  ok_def (k := 3) F sc__law_any_r1 fun cdv A outer sh H E gd rm =>
   ((mss_cons (ms_set (i := 2) sc__law_any_r1.nd rfl (by first | exact .inl rfl | exact .inr rfl) (me_fn h__law_draw gd rm (by decide) (by rfl) (ma_cons (me_var (pv 0)) (ma_cons (me_ite (mb_gt (me_var (pv 1)) me_int) me_int me_int) ma_nil))))
    (mss_cons (ms_if (mb_lt (me_var (pv 2)) me_int) (mss_cons (ms_set (i := 3) sc__law_any_r1.nd rfl (by first | exact .inl rfl | exact .inr rfl) (me_qlst (ma_cons me_non (ma_cons me_bl (ma_cons me_bl (ma_cons me_int (ma_cons me_int (ma_cons (me_neg me_int) (ma_cons (me_pow me_int me_int) (ma_cons (me_mulW (me_neg (me_pow me_int me_int)) (me_pow me_int me_int)) (ma_cons me_str (ma_cons me_str (ma_cons (me_mulS me_str me_int) (ma_cons (me_qtup ma_nil) (ma_cons (me_qlst ma_nil) (ma_cons me_qdic0 (ma_cons (me_qtup (ma_cons me_int (ma_cons me_int ma_nil))) ma_nil)))))))))))))))))
    (mss_one (ms_ret (me_fn h__law_pick gd rm (by decide) (by rfl) (ma_cons (me_var (pv 0)) (ma_cons (me_qadd (me_var (pv 3)) (me_qlst (ma_cons (me_qlst (ma_cons me_int (ma_cons (me_qlst (ma_cons me_int ma_nil)) ma_nil))) (ma_cons (me_qdic (pps_cons me_str me_int pps_nil) rfl rfl (by simp) (by decide)) (ma_cons (me_qtup (ma_cons me_str (ma_cons me_int ma_nil))) (ma_cons me_str (ma_cons (me_qtup (ma_cons me_int (ma_cons me_int ma_nil))) (ma_cons (me_qtup (ma_cons me_str (ma_cons (me_qlst (ma_cons me_int ma_nil)) ma_nil))) (ma_cons me_int (ma_cons me_int (ma_cons (me_pow me_int me_int) ma_nil))))))))))) ma_nil)))))) mss_nil)
    (mss_cons (ms_setLcQ (n := 4) (own := [("turn", 5)]) rfl sc__law_any_r1.nd rfl rfl (swT rfl rfl rfl (by decide +kernel)) (mi_range (by rfl) Z.z_range (ma_cons (me_fn h__law_draw gd rm (by decide) (by rfl) (ma_cons (me_var (pv 0)) (ma_cons me_int ma_nil))) ma_nil)) (blkOk_by (N := ["deck", "deep", "way", "plain", "inner", "turn"]) (sc := defScope s__law_any_r1) (by decide +kernel)) (fun _ _ _ _ _ => (mg_name (i := 5) sc__law_any_r1.nd rfl (by first | exact .inl rfl | exact .inr rfl))) (fun _ _ _ _ _ => mts_nil) (fun _ _ _ _ _ => (me_fn h__law_any_r2 gd rm (by decide) (by rfl) (ma_cons (me_var (pv 0)) (ma_cons (me_sub (me_var (pv 1)) me_int) ma_nil)))) (by decide))
    (mss_one (ms_ret (me_ite (mb_lt (me_var (pv 2)) me_int) (me_qtuple (by rfl) Z.z_tuple (ma_cons (me_var (pv 4)) ma_nil)) (me_ite (mb_eq rm (me_var (pv 2)) me_int) (me_var (pv 4)) (me_qdic (pps_cons me_str (me_var (pv 4)) pps_nil) rfl rfl (by simp) (by decide))))))))) : MSs _ (defBody s__law_any_r1) b__law_any_r1)
theorem ok__law_any (Z : Zs P K mg) (h__law_draw : Kn P w K mg base 1 "_law_draw" s__law_draw ["deck", "many"] d__law_draw) (h__law_pick : Kn P w K mg base 2 "_law_pick" s__law_pick ["deck", "some"] d__law_pick) (h__law_any_r1 : Kn P w K mg base 4 "_law_any" s__law_any_r1 ["deck", "deep"] d__law_any_r1) {f : Addr} {fd : FuncData} (F : Fun K "_law_any" "_law_any" s__law_any f fd) : FnG P w K mg base 5 f fd ["deck", "deep"] (spM K d__law_any) :=
  ok_def (k := 4) F sc__law_any fun cdv A outer sh H E gd rm =>
   ((mss_cons (ms_set (i := 2) sc__law_any.nd rfl (by first | exact .inl rfl | exact .inr rfl) (me_fn h__law_draw gd rm (by decide) (by rfl) (ma_cons (me_var (pv 0)) (ma_cons (me_ite (mb_gt (me_var (pv 1)) me_int) me_int me_int) ma_nil))))
    (mss_cons (ms_if (mb_lt (me_var (pv 2)) me_int) (mss_cons (ms_set (i := 3) sc__law_any.nd rfl (by first | exact .inl rfl | exact .inr rfl) (me_qlst (ma_cons me_non (ma_cons me_bl (ma_cons me_bl (ma_cons me_int (ma_cons me_int (ma_cons (me_neg me_int) (ma_cons (me_pow me_int me_int) (ma_cons (me_mulW (me_neg (me_pow me_int me_int)) (me_pow me_int me_int)) (ma_cons me_str (ma_cons me_str (ma_cons (me_mulS me_str me_int) (ma_cons (me_qtup ma_nil) (ma_cons (me_qlst ma_nil) (ma_cons me_qdic0 (ma_cons (me_qtup (ma_cons me_int (ma_cons me_int ma_nil))) ma_nil)))))))))))))))))
    (mss_one (ms_ret (me_fn h__law_pick gd rm (by decide) (by rfl) (ma_cons (me_var (pv 0)) (ma_cons (me_qadd (me_var (pv 3)) (me_qlst (ma_cons (me_qlst (ma_cons me_int (ma_cons (me_qlst (ma_cons me_int ma_nil)) ma_nil))) (ma_cons (me_qdic (pps_cons me_str me_int pps_nil) rfl rfl (by simp) (by decide)) (ma_cons (me_qtup (ma_cons me_str (ma_cons me_int ma_nil))) (ma_cons me_str (ma_cons (me_qtup (ma_cons me_int (ma_cons me_int ma_nil))) (ma_cons (me_qtup (ma_cons me_str (ma_cons (me_qlst (ma_cons me_int ma_nil)) ma_nil))) (ma_cons me_int (ma_cons me_int (ma_cons (me_pow me_int me_int) ma_nil))))))))))) ma_nil)))))) mss_nil)
    (mss_cons (ms_setLcQ (n := 4) (own := [("turn", 5)]) rfl sc__law_any.nd rfl rfl (swT rfl rfl rfl (by decide +kernel)) (mi_range (by rfl) Z.z_range (ma_cons (me_fn h__law_draw gd rm (by decide) (by rfl) (ma_cons (me_var (pv 0)) (ma_cons me_int ma_nil))) ma_nil)) (blkOk_by (N := ["deck", "deep", "way", "plain", "inner", "turn"]) (sc := defScope s__law_any) (by decide +kernel)) (fun _ _ _ _ _ => (mg_name (i := 5) sc__law_any.nd rfl (by first | exact .inl rfl | exact .inr rfl))) (fun _ _ _ _ _ => mts_nil) (fun _ _ _ _ _ => (me_fn h__law_any_r1 gd rm (by decide) (by rfl) (ma_cons (me_var (pv 0)) (ma_cons (me_sub (me_var (pv 1)) me_int) ma_nil)))) (by decide))
    (mss_one (ms_ret (me_ite (mb_lt (me_var (pv 2)) me_int) (me_qtuple (by rfl) Z.z_tuple (ma_cons (me_var (pv 4)) ma_nil)) (me_ite (mb_eq rm (me_var (pv 2)) me_int) (me_var (pv 4)) (me_qdic (pps_cons me_str (me_var (pv 4)) pps_nil) rfl rfl (by simp) (by decide))))))))) : MSs _ (defBody s__law_any) b__law_any)
theorem ok__law_made (Z : Zs P K mg)  {f : Addr} {fd : FuncData} (F : Fun K "_law_made" "_law_made" s__law_made f fd) : FnG P w K mg base 3 f fd ["way", "thing", "is_named"] (spM K d__law_made) :=
  ok_def (k := 2) F sc__law_made fun cdv A outer sh H E gd rm =>
   ((mss_cons (ms_if (mb_eq rm (me_var (pv 0)) me_int) (mss_cons (ms_set (i := 3) sc__law_made.nd rfl (by first | exact .inl rfl | exact .inr rfl) (me_ite (mb_val (me_var (pv 2))) (me_mk1K Z.q2_22 rm (by decide) (by rfl) (mk_cons (me_var (pv 1)) mk_nil) (by rfl) (by rfl) (by decide)) (me_mk1 Z.q2_22 rm (by decide) (by rfl) (ma_cons (me_var (pv 1)) ma_nil) (by decide))))
    (mss_one (ms_ret (me_qtup (ma_cons (me_var (pv 3)) (ma_cons (me_qfld (all_cons Z.qf_23 all_nil) (me_var (pv 3))) ma_nil)))))) mss_nil)
    (mss_cons (ms_if (mb_eq rm (me_var (pv 0)) me_int) (mss_cons (ms_set (i := 3) sc__law_made.nd rfl (by first | exact .inl rfl | exact .inr rfl) (me_ite (mb_val (me_var (pv 2))) (me_mk1K Z.q2_24 rm (by decide) (by rfl) (mk_cons (me_var (pv 1)) mk_nil) (by rfl) (by rfl) (by decide)) (me_mk1 Z.q2_24 rm (by decide) (by rfl) (ma_cons (me_var (pv 1)) ma_nil) (by decide))))
    (mss_one (ms_ret (me_qtup (ma_cons (me_var (pv 3)) (ma_cons (me_qfld (all_cons Z.qf_25 all_nil) (me_var (pv 3))) ma_nil)))))) mss_nil)
    (mss_cons (ms_if (mb_eq rm (me_var (pv 0)) me_int) (mss_cons (ms_set (i := 3) sc__law_made.nd rfl (by first | exact .inl rfl | exact .inr rfl) (me_ite (mb_val (me_var (pv 2))) (me_mk1K Z.q2_26 rm (by decide) (by rfl) (mk_cons (me_var (pv 1)) mk_nil) (by rfl) (by rfl) (by decide)) (me_mk1 Z.q2_26 rm (by decide) (by rfl) (ma_cons (me_var (pv 1)) ma_nil) (by decide))))
    (mss_one (ms_ret (me_qtup (ma_cons (me_var (pv 3)) (ma_cons (me_qfld (all_cons Z.qf_27 all_nil) (me_var (pv 3))) ma_nil)))))) mss_nil)
    (mss_cons (ms_if (mb_eq rm (me_var (pv 0)) me_int) (mss_cons (ms_set (i := 3) sc__law_made.nd rfl (by first | exact .inl rfl | exact .inr rfl) (me_ite (mb_val (me_var (pv 2))) (me_mk1K Z.q2_28 rm (by decide) (by rfl) (mk_cons (me_var (pv 1)) mk_nil) (by rfl) (by rfl) (by decide)) (me_mk1 Z.q2_28 rm (by decide) (by rfl) (ma_cons (me_var (pv 1)) ma_nil) (by decide))))
    (mss_one (ms_ret (me_qtup (ma_cons (me_var (pv 3)) (ma_cons (me_qfld (all_cons Z.qf_29 all_nil) (me_var (pv 3))) ma_nil)))))) mss_nil)
    (mss_cons (ms_set (i := 3) sc__law_made.nd rfl (by first | exact .inl rfl | exact .inr rfl) (me_ite (mb_val (me_var (pv 2))) (me_mk1K Z.q2_30 rm (by decide) (by rfl) (mk_cons (me_var (pv 1)) mk_nil) (by rfl) (by rfl) (by decide)) (me_mk1 Z.q2_30 rm (by decide) (by rfl) (ma_cons (me_var (pv 1)) ma_nil) (by decide))))
    (mss_one (ms_ret (me_qtup (ma_cons (me_var (pv 3)) (ma_cons (me_qfld (all_cons Z.qf_31 all_nil) (me_var (pv 3))) ma_nil)))))))))) : MSs _ (defBody s__law_made) b__law_made)
theorem ok__law_is_kind (Z : Zs P K mg)  {f : Addr} {fd : FuncData} (F : Fun K "_law_is_kind" "_law_is_kind" s__law_is_kind f fd) : FnG P w K mg base 1 f fd ["way", "made"] (spM K d__law_is_kind) :=
  ok_def (k := 0) F sc__law_is_kind fun cdv A outer sh H E gd rm =>
   ((mss_cons (ms_set (i := 2) sc__law_is_kind.nd rfl (by first | exact .inl rfl | exact .inr rfl) (me_lst (ma_cons (me_qisc (by rfl) Z.z_isinstance (by rfl) Z.qo_11.choose_spec.1 Z.qo_11.choose_spec.2 (me_var (pv 1)) (by decide)) (ma_cons (me_qisc (by rfl) Z.z_isinstance (by rfl) Z.qo_10.choose_spec.1 Z.qo_10.choose_spec.2 (me_var (pv 1)) (by decide)) (ma_cons (me_qisc (by rfl) Z.z_isinstance (by rfl) Z.qo_9.choose_spec.1 Z.qo_9.choose_spec.2 (me_var (pv 1)) (by decide)) (ma_cons (me_qisc (by rfl) Z.z_isinstance (by rfl) Z.qo_8.choose_spec.1 Z.qo_8.choose_spec.2 (me_var (pv 1)) (by decide)) ma_nil))))))
    (mss_cons (ms_set (i := 2) sc__law_is_kind.nd rfl (by first | exact .inl rfl | exact .inr rfl) (me_add (me_var (pv 2)) (me_lst (ma_cons (me_qisc (by rfl) Z.z_isinstance (by rfl) Z.qo_14.choose_spec.1 Z.qo_14.choose_spec.2 (me_var (pv 1)) (by decide)) (ma_cons (me_qisc (by rfl) Z.z_isinstance (by rfl) Z.qo_13.choose_spec.1 Z.qo_13.choose_spec.2 (me_var (pv 1)) (by decide)) (ma_cons (me_qisc (by rfl) Z.z_isinstance (by rfl) Z.qo_12.choose_spec.1 Z.qo_12.choose_spec.2 (me_var (pv 1)) (by decide)) ma_nil))))))
    (mss_cons (ms_set (i := 2) sc__law_is_kind.nd rfl (by first | exact .inl rfl | exact .inr rfl) (me_add (me_var (pv 2)) (me_lst (ma_cons (me_qisc (by rfl) Z.z_isinstance (by rfl) Z.qo_17.choose_spec.1 Z.qo_17.choose_spec.2 (me_var (pv 1)) (by decide)) (ma_cons (me_qisc (by rfl) Z.z_isinstance (by rfl) Z.qo_16.choose_spec.1 Z.qo_16.choose_spec.2 (me_var (pv 1)) (by decide)) (ma_cons (me_qisc (by rfl) Z.z_isinstance (by rfl) Z.qo_15.choose_spec.1 Z.qo_15.choose_spec.2 (me_var (pv 1)) (by decide)) ma_nil))))))
    (mss_cons (ms_set (i := 2) sc__law_is_kind.nd rfl (by first | exact .inl rfl | exact .inr rfl) (me_add (me_var (pv 2)) (me_lst (ma_cons (me_qisc (by rfl) Z.z_isinstance (by rfl) Z.qo_19.choose_spec.1 Z.qo_19.choose_spec.2 (me_var (pv 1)) (by decide)) (ma_cons (me_qisc (by rfl) Z.z_isinstance (by rfl) Z.qo_18.choose_spec.1 Z.qo_18.choose_spec.2 (me_var (pv 1)) (by decide)) ma_nil)))))
    (mss_one (ms_ret (me_and (me_eq rm (me_var (pv 2)) (me_lc (own := [("k", 3)]) rfl sc__law_is_kind.nd (mi_range (by rfl) Z.z_range (ma_cons me_int ma_nil)) (blkOk_by (N := ["way", "made", "found", "k"]) (sc := defScope s__law_is_kind) (by decide +kernel)) (fun _ _ _ _ _ => (mg_name (i := 3) sc__law_is_kind.nd rfl (by first | exact .inl rfl | exact .inr rfl))) (fun _ _ _ _ _ => mts_nil) (fun _ _ _ _ _ => (me_eq rm (me_var (pv 3)) (me_var (pv 0)))) (by decide))) (me_and (me_qisc (by rfl) Z.z_isinstance (by rfl) Z.qo_20.choose_spec.1 Z.qo_20.choose_spec.2 (me_var (pv 1)) (by decide)) (me_one (me_qisi (by rfl) Z.z_isinstance (by rfl) Z.z_ValueError (by decide +kernel) Z.qb_21 (me_var (pv 1)))))))))))) : MSs _ (defBody s__law_is_kind) b__law_is_kind)
theorem ok__law_bare (Z : Zs P K mg)  {f : Addr} {fd : FuncData} (F : Fun K "_law_bare" "_law_bare" s__law_bare f fd) : FnG P w K mg base 1 f fd ["way"] (spM K d__law_bare) :=
  ok_def (k := 0) F sc__law_bare fun cdv A outer sh H E gd rm =>
   ((mss_cons (ms_if (mb_eq rm (me_var (pv 0)) me_int) (mss_one (ms_ret (me_mk0 Z.q0_1 (by rfl) (by decide)))) mss_nil)
    (mss_cons (ms_if (mb_eq rm (me_var (pv 0)) me_int) (mss_one (ms_ret (me_mk0 Z.q0_2 (by rfl) (by decide)))) mss_nil)
    (mss_cons (ms_if (mb_eq rm (me_var (pv 0)) me_int) (mss_one (ms_ret (me_mk0 Z.q0_3 (by rfl) (by decide)))) mss_nil)
    (mss_cons (ms_if (mb_eq rm (me_var (pv 0)) me_int) (mss_one (ms_ret (me_mk0 Z.q0_4 (by rfl) (by decide)))) mss_nil)
    (mss_cons (ms_if (mb_eq rm (me_var (pv 0)) me_int) (mss_one (ms_ret (me_mk0 Z.q0_5 (by rfl) (by decide)))) mss_nil)
    (mss_one (ms_ret (me_ite (mb_eq rm (me_var (pv 0)) me_int) (me_mk0 Z.q0_6 (by rfl) (by decide)) (me_mk0 Z.q0_7 (by rfl) (by decide)))))))))) : MSs _ (defBody s__law_bare) b__law_bare)
theorem ok_law (Z : Zs P K mg) (h__law_deck : Kn P w K mg base 1 "_law_deck" s__law_deck ["script"] d__law_deck) (h__law_any : Kn P w K mg base 5 "_law_any" s__law_any ["deck", "deep"] d__law_any) (h__law_draw : Kn P w K mg base 1 "_law_draw" s__law_draw ["deck", "many"] d__law_draw) (h__law_made : Kn P w K mg base 3 "_law_made" s__law_made ["way", "thing", "is_named"] d__law_made) (h__law_is_kind : Kn P w K mg base 1 "_law_is_kind" s__law_is_kind ["way", "made"] d__law_is_kind) (h__law_bare : Kn P w K mg base 1 "_law_bare" s__law_bare ["way"] d__law_bare) {f : Addr} {fd : FuncData} (F : Fun K "law" "law" s_law f fd) : FnG P w K mg base 6 f fd ["script"] (spM K d_law) :=
  ok_def (k := 5) F sc_law fun cdv A outer sh H E gd rm =>
   ((mss_cons (ms_set (i := 1) sc_law.nd rfl (by first | exact .inl rfl | exact .inr rfl) (me_fn h__law_deck gd rm (by decide) (by rfl) (ma_cons (me_var (pv 0)) ma_nil)))
    (mss_cons (ms_for PassesOwn.never rfl (mi_range (by rfl) Z.z_range (ma_cons me_int ma_nil)) (mg_name (i := 2) sc_law.nd rfl (by first | exact .inl rfl | exact .inr rfl)) (mss_one (ms_for PassesOwn.never rfl (mi_range (by rfl) Z.z_range (ma_cons me_int ma_nil)) (mg_name (i := 3) sc_law.nd rfl (by first | exact .inl rfl | exact .inr rfl)) (mss_cons (ms_par (i := 4) (j := 5) rfl sc_law.nd rfl rfl (by decide) rfl rfl (ma_cons (me_fn h__law_any gd rm (by decide) (by rfl) (ma_cons (me_var (pv 1)) (ma_cons me_int ma_nil))) (ma_cons (me_eq rm (me_fn h__law_draw gd rm (by decide) (by rfl) (ma_cons (me_var (pv 1)) (ma_cons me_int ma_nil))) me_int) ma_nil)) (by rfl))
    (mss_cons (ms_set (i := 6) sc_law.nd rfl (by first | exact .inl rfl | exact .inr rfl) (me_qrepr gd rm (by rfl) Z.z_repr (ma_cons (me_var (pv 4)) ma_nil)))
    (mss_cons (ms_asg (me_fn h__law_made gd rm (by decide) (by rfl) (ma_cons (me_var (pv 3)) (ma_cons (me_var (pv 4)) (ma_cons (me_var (pv 5)) ma_nil)))) (mg_qtup rfl (mqs_cons (mg_name (i := 7) sc_law.nd rfl (by first | exact .inl rfl | exact .inr rfl)) (mqs_cons (mg_name (i := 8) sc_law.nd rfl (by first | exact .inl rfl | exact .inr rfl)) mqs_nil))))
    (mss_cons (ms_asg (me_fn h__law_made gd rm (by decide) (by rfl) (ma_cons (me_var (pv 3)) (ma_cons (me_var (pv 4)) (ma_cons (me_not (me_var (pv 5))) ma_nil)))) (mg_qtup rfl (mqs_cons (mg_name (i := 9) sc_law.nd rfl (by first | exact .inl rfl | exact .inr rfl)) (mqs_cons (mg_name (i := 10) sc_law.nd rfl (by first | exact .inl rfl | exact .inr rfl)) mqs_nil))))
    (mss_cons (ms_if (MW.toB (mw_or (mb_ne rm (me_qrepr gd rm (by rfl) Z.z_repr (ma_cons (me_qlst (ma_cons (me_var (pv 8)) (ma_cons (me_var (pv 10)) (ma_cons (me_var (pv 4)) ma_nil)))) ma_nil)) (me_qrepr gd rm (by rfl) Z.z_repr (ma_cons (me_qlst (ma_cons (me_var (pv 4)) (ma_cons (me_var (pv 4)) (ma_cons (me_var (pv 4)) ma_nil)))) ma_nil))) (mw_or1 (mb_ne rm (me_qrepr gd rm (by rfl) Z.z_repr (ma_cons (me_var (pv 4)) ma_nil)) (me_var (pv 6)))))) (mss_one (ms_ret me_bl)) mss_nil)
    (mss_one (ms_if (MW.toB (mw_or (mb_not (mb_val (me_fn h__law_is_kind gd rm (by decide) (by rfl) (ma_cons (me_var (pv 3)) (ma_cons (me_var (pv 7)) ma_nil))))) (mw_or1 (mb_not (mb_val (me_fn h__law_is_kind gd rm (by decide) (by rfl) (ma_cons (me_var (pv 3)) (ma_cons (me_var (pv 9)) ma_nil)))))))) (mss_one (ms_ret me_bl)) mss_nil))))))))))
    (mss_cons (ms_for PassesOwn.never rfl (mi_range2 (by rfl) Z.z_range (ma_cons me_int (ma_cons me_int ma_nil))) (mg_name (i := 3) sc_law.nd rfl (by first | exact .inl rfl | exact .inr rfl)) (mss_one (ms_if (mb_not (mb_val (me_fn h__law_is_kind gd rm (by decide) (by rfl) (ma_cons (me_var (pv 3)) (ma_cons (me_fn h__law_bare gd rm (by decide) (by rfl) (ma_cons (me_var (pv 3)) ma_nil)) ma_nil))))) (mss_one (ms_ret me_bl)) mss_nil)))
    (mss_one (ms_ret (me_not (me_isVE (by rfl) Z.z_isinstance (by rfl) Z.z_ValueError (by rfl) Z.qv_0.choose_spec.1 Z.qv_0.choose_spec.2 (by decide)))))))) : MSs _ (defBody s_law) b_law)
end
/-- what the top has written -/
theorem all_mk {P : Program} {w : World} {K : PySem.W.Frag} {h : Heap} {mg : Str → Option Value} {fa : Addr} (X : K.In h) (G : h.Ns mainGlobals mg) (hfa : mg "law" = some (.ref fa))
    {f0 : Addr} {od0 an0 : Option Addr} {sl0 : Array (Option Value)} {oc0 kV0 dc0 pm0 cd0 ct0 : Value}
    (a0 : PySem.W.nsIn K mainGlobals "_law_deck" = some (some (.ref f0))) (l0 : K.lookup f0 = some ⟨oc0, od0, .func (PySem.W.fnOf "_law_deck" "_law_deck" (defArgs s__law_deck) (defBody s__law_deck) (defScope s__law_deck) .none kV0 dc0 pm0 an0 cd0 ct0), sl0⟩) (c0 : PySem.W.codeIn K cd0 "_law_deck" = true) (k0 : PySem.W.keepIn K (.ref f0) = true)
    {f1 : Addr} {od1 an1 : Option Addr} {sl1 : Array (Option Value)} {oc1 kV1 dc1 pm1 cd1 ct1 : Value}
    (a1 : PySem.W.nsIn K mainGlobals "_law_draw" = some (some (.ref f1))) (l1 : K.lookup f1 = some ⟨oc1, od1, .func (PySem.W.fnOf "_law_draw" "_law_draw" (defArgs s__law_draw) (defBody s__law_draw) (defScope s__law_draw) .none kV1 dc1 pm1 an1 cd1 ct1), sl1⟩) (c1 : PySem.W.codeIn K cd1 "_law_draw" = true) (k1 : PySem.W.keepIn K (.ref f1) = true)
    {f2 : Addr} {od2 an2 : Option Addr} {sl2 : Array (Option Value)} {oc2 kV2 dc2 pm2 cd2 ct2 : Value}
    (a2 : PySem.W.nsIn K mainGlobals "_law_pick" = some (some (.ref f2))) (l2 : K.lookup f2 = some ⟨oc2, od2, .func (PySem.W.fnOf "_law_pick" "_law_pick" (defArgs s__law_pick) (defBody s__law_pick) (defScope s__law_pick) .none kV2 dc2 pm2 an2 cd2 ct2), sl2⟩) (c2 : PySem.W.codeIn K cd2 "_law_pick" = true) (k2 : PySem.W.keepIn K (.ref f2) = true)
    {f5 : Addr} {od5 an5 : Option Addr} {sl5 : Array (Option Value)} {oc5 kV5 dc5 pm5 cd5 ct5 : Value}
    (a5 : PySem.W.nsIn K mainGlobals "_law_any" = some (some (.ref f5))) (l5 : K.lookup f5 = some ⟨oc5, od5, .func (PySem.W.fnOf "_law_any" "_law_any" (defArgs s__law_any) (defBody s__law_any) (defScope s__law_any) .none kV5 dc5 pm5 an5 cd5 ct5), sl5⟩) (c5 : PySem.W.codeIn K cd5 "_law_any" = true) (k5 : PySem.W.keepIn K (.ref f5) = true)
    {f6 : Addr} {od6 an6 : Option Addr} {sl6 : Array (Option Value)} {oc6 kV6 dc6 pm6 cd6 ct6 : Value}
    (a6 : PySem.W.nsIn K mainGlobals "_law_made" = some (some (.ref f6))) (l6 : K.lookup f6 = some ⟨oc6, od6, .func (PySem.W.fnOf "_law_made" "_law_made" (defArgs s__law_made) (defBody s__law_made) (defScope s__law_made) .none kV6 dc6 pm6 an6 cd6 ct6), sl6⟩) (c6 : PySem.W.codeIn K cd6 "_law_made" = true) (k6 : PySem.W.keepIn K (.ref f6) = true)
    {f7 : Addr} {od7 an7 : Option Addr} {sl7 : Array (Option Value)} {oc7 kV7 dc7 pm7 cd7 ct7 : Value}
    (a7 : PySem.W.nsIn K mainGlobals "_law_is_kind" = some (some (.ref f7))) (l7 : K.lookup f7 = some ⟨oc7, od7, .func (PySem.W.fnOf "_law_is_kind" "_law_is_kind" (defArgs s__law_is_kind) (defBody s__law_is_kind) (defScope s__law_is_kind) .none kV7 dc7 pm7 an7 cd7 ct7), sl7⟩) (c7 : PySem.W.codeIn K cd7 "_law_is_kind" = true) (k7 : PySem.W.keepIn K (.ref f7) = true)
    {f8 : Addr} {od8 an8 : Option Addr} {sl8 : Array (Option Value)} {oc8 kV8 dc8 pm8 cd8 ct8 : Value}
    (a8 : PySem.W.nsIn K mainGlobals "_law_bare" = some (some (.ref f8))) (l8 : K.lookup f8 = some ⟨oc8, od8, .func (PySem.W.fnOf "_law_bare" "_law_bare" (defArgs s__law_bare) (defBody s__law_bare) (defScope s__law_bare) .none kV8 dc8 pm8 an8 cd8 ct8), sl8⟩) (c8 : PySem.W.codeIn K cd8 "_law_bare" = true) (k8 : PySem.W.keepIn K (.ref f8) = true)
    {f9 : Addr} {od9 an9 : Option Addr} {sl9 : Array (Option Value)} {oc9 kV9 dc9 pm9 cd9 ct9 : Value}
    (a9 : PySem.W.nsIn K mainGlobals "law" = some (some (.ref f9))) (l9 : K.lookup f9 = some ⟨oc9, od9, .func (PySem.W.fnOf "law" "law" (defArgs s_law) (defBody s_law) (defScope s_law) .none kV9 dc9 pm9 an9 cd9 ct9), sl9⟩) (c9 : PySem.W.codeIn K cd9 "law" = true) (k9 : PySem.W.keepIn K (.ref f9) = true)
    (z_len : PySem.W.nsIn K mainGlobals "len" = some none)
    (z_abs : PySem.W.nsIn K mainGlobals "abs" = some none)
    (z_int : PySem.W.nsIn K mainGlobals "int" = some none)
    (z_range : PySem.W.nsIn K mainGlobals "range" = some none)
    (z_tuple : PySem.W.nsIn K mainGlobals "tuple" = some none)
    (z_isinstance : PySem.W.nsIn K mainGlobals "isinstance" = some none)
    (z_ValueError : PySem.W.nsIn K mainGlobals "ValueError" = some none)
    (z_repr : PySem.W.nsIn K mainGlobals "repr" = some none)
    {C_FieldsError : Addr}
    (xa_FieldsError : PySem.W.nsIn K mainGlobals "FieldsError" = some (some (.ref C_FieldsError)))
    (xk_FieldsError : PySem.W.keepIn K (.ref C_FieldsError) = true)
    (xs_FieldsError : PySem.W.subIn K (.ref C_FieldsError) (.type "BaseException") = some true)
    (xt_FieldsError : PySem.W.typeIn K (.ref C_FieldsError) = some (.type "type"))
    (xi_FieldsError : PySem.W.isClsIn K C_FieldsError = true)
    (xg_FieldsError : PySem.W.findIn K (.ref C_FieldsError) "__getattribute__" = some (some (.builtin "BaseException.__getattribute__")))
    (xh_FieldsError : PySem.W.findIn K (.ref C_FieldsError) "__getattr__" = some none)
    (xc_FieldsError : PySem.W.findIn K (.ref C_FieldsError) "__class__" = some (some (.builtin "object.__class__")))
    (xm_FieldsError : PySem.W.mroIn K C_FieldsError (.type "object") = some true)
    (xsp : PySem.W.specialIn K (.builtin "object.__class__") "__get__" = some (some (.builtin "getset_descriptor.__get__")))
    (xtk : PySem.W.takesIn K (.builtin "object.__class__") = some true)
    (ca_FieldsError : CA K "FieldsError" = some C_FieldsError)
    (qv_FieldsError : PySem.W.kitOne K (.type "ValueError") (.ref C_FieldsError) = some false)
    {C_Unfit : Addr}
    (xa_Unfit : PySem.W.nsIn K mainGlobals "Unfit" = some (some (.ref C_Unfit)))
    (xk_Unfit : PySem.W.keepIn K (.ref C_Unfit) = true)
    (xs_Unfit : PySem.W.subIn K (.ref C_Unfit) (.type "BaseException") = some true)
    (xt_Unfit : PySem.W.typeIn K (.ref C_Unfit) = some (.type "type"))
    (xi_Unfit : PySem.W.isClsIn K C_Unfit = true)
    (xg_Unfit : PySem.W.findIn K (.ref C_Unfit) "__getattribute__" = some (some (.builtin "BaseException.__getattribute__")))
    (xh_Unfit : PySem.W.findIn K (.ref C_Unfit) "__getattr__" = some none)
    (xc_Unfit : PySem.W.findIn K (.ref C_Unfit) "__class__" = some (some (.builtin "object.__class__")))
    (xm_Unfit : PySem.W.mroIn K C_Unfit (.type "object") = some true)
    (ca_Unfit : CA K "Unfit" = some C_Unfit)
    (xe_Unfit : PySem.W.excIn K C_Unfit tailVE "ValueError.__new__" = true)
    {C_BadText : Addr}
    (xa_BadText : PySem.W.nsIn K mainGlobals "BadText" = some (some (.ref C_BadText)))
    (xk_BadText : PySem.W.keepIn K (.ref C_BadText) = true)
    (xs_BadText : PySem.W.subIn K (.ref C_BadText) (.type "BaseException") = some true)
    (xt_BadText : PySem.W.typeIn K (.ref C_BadText) = some (.type "type"))
    (xi_BadText : PySem.W.isClsIn K C_BadText = true)
    (xg_BadText : PySem.W.findIn K (.ref C_BadText) "__getattribute__" = some (some (.builtin "BaseException.__getattribute__")))
    (xh_BadText : PySem.W.findIn K (.ref C_BadText) "__getattr__" = some none)
    (xc_BadText : PySem.W.findIn K (.ref C_BadText) "__class__" = some (some (.builtin "object.__class__")))
    (xm_BadText : PySem.W.mroIn K C_BadText (.type "object") = some true)
    (ca_BadText : CA K "BadText" = some C_BadText)
    (xe_BadText : PySem.W.excIn K C_BadText tailVE "ValueError.__new__" = true)
    {C_Level : Addr}
    (xa_Level : PySem.W.nsIn K mainGlobals "Level" = some (some (.ref C_Level)))
    (xk_Level : PySem.W.keepIn K (.ref C_Level) = true)
    (xs_Level : PySem.W.subIn K (.ref C_Level) (.type "BaseException") = some true)
    (xt_Level : PySem.W.typeIn K (.ref C_Level) = some (.type "type"))
    (xi_Level : PySem.W.isClsIn K C_Level = true)
    (xg_Level : PySem.W.findIn K (.ref C_Level) "__getattribute__" = some (some (.builtin "BaseException.__getattribute__")))
    (xh_Level : PySem.W.findIn K (.ref C_Level) "__getattr__" = some none)
    (xc_Level : PySem.W.findIn K (.ref C_Level) "__class__" = some (some (.builtin "object.__class__")))
    (xm_Level : PySem.W.mroIn K C_Level (.type "object") = some true)
    (ca_Level : CA K "Level" = some C_Level)
    (xe_Level : PySem.W.excIn K C_Level tailVE "ValueError.__new__" = true)
    {C_Few : Addr}
    (xa_Few : PySem.W.nsIn K mainGlobals "Few" = some (some (.ref C_Few)))
    (xk_Few : PySem.W.keepIn K (.ref C_Few) = true)
    (xs_Few : PySem.W.subIn K (.ref C_Few) (.type "BaseException") = some true)
    (xt_Few : PySem.W.typeIn K (.ref C_Few) = some (.type "type"))
    (xi_Few : PySem.W.isClsIn K C_Few = true)
    (xg_Few : PySem.W.findIn K (.ref C_Few) "__getattribute__" = some (some (.builtin "BaseException.__getattribute__")))
    (xh_Few : PySem.W.findIn K (.ref C_Few) "__getattr__" = some none)
    (xc_Few : PySem.W.findIn K (.ref C_Few) "__class__" = some (some (.builtin "object.__class__")))
    (xm_Few : PySem.W.mroIn K C_Few (.type "object") = some true)
    (ca_Few : CA K "Few" = some C_Few)
    (xe_Few : PySem.W.excIn K C_Few tailVE "ValueError.__new__" = true)
    {C_TooManyEdits : Addr}
    (xa_TooManyEdits : PySem.W.nsIn K mainGlobals "TooManyEdits" = some (some (.ref C_TooManyEdits)))
    (xk_TooManyEdits : PySem.W.keepIn K (.ref C_TooManyEdits) = true)
    (xs_TooManyEdits : PySem.W.subIn K (.ref C_TooManyEdits) (.type "BaseException") = some true)
    (xt_TooManyEdits : PySem.W.typeIn K (.ref C_TooManyEdits) = some (.type "type"))
    (xi_TooManyEdits : PySem.W.isClsIn K C_TooManyEdits = true)
    (xg_TooManyEdits : PySem.W.findIn K (.ref C_TooManyEdits) "__getattribute__" = some (some (.builtin "BaseException.__getattribute__")))
    (xh_TooManyEdits : PySem.W.findIn K (.ref C_TooManyEdits) "__getattr__" = some none)
    (xc_TooManyEdits : PySem.W.findIn K (.ref C_TooManyEdits) "__class__" = some (some (.builtin "object.__class__")))
    (xm_TooManyEdits : PySem.W.mroIn K C_TooManyEdits (.type "object") = some true)
    (ca_TooManyEdits : CA K "TooManyEdits" = some C_TooManyEdits)
    (xe_TooManyEdits : PySem.W.excIn K C_TooManyEdits tailVE "ValueError.__new__" = true)
    {C_NothingToUndo : Addr}
    (xa_NothingToUndo : PySem.W.nsIn K mainGlobals "NothingToUndo" = some (some (.ref C_NothingToUndo)))
    (xk_NothingToUndo : PySem.W.keepIn K (.ref C_NothingToUndo) = true)
    (xs_NothingToUndo : PySem.W.subIn K (.ref C_NothingToUndo) (.type "BaseException") = some true)
    (xt_NothingToUndo : PySem.W.typeIn K (.ref C_NothingToUndo) = some (.type "type"))
    (xi_NothingToUndo : PySem.W.isClsIn K C_NothingToUndo = true)
    (xg_NothingToUndo : PySem.W.findIn K (.ref C_NothingToUndo) "__getattribute__" = some (some (.builtin "BaseException.__getattribute__")))
    (xh_NothingToUndo : PySem.W.findIn K (.ref C_NothingToUndo) "__getattr__" = some none)
    (xc_NothingToUndo : PySem.W.findIn K (.ref C_NothingToUndo) "__class__" = some (some (.builtin "object.__class__")))
    (xm_NothingToUndo : PySem.W.mroIn K C_NothingToUndo (.type "object") = some true)
    (ca_NothingToUndo : CA K "NothingToUndo" = some C_NothingToUndo)
    (xe_NothingToUndo : PySem.W.excIn K C_NothingToUndo tailVE "ValueError.__new__" = true)
    {C_NothingToRedo : Addr}
    (xa_NothingToRedo : PySem.W.nsIn K mainGlobals "NothingToRedo" = some (some (.ref C_NothingToRedo)))
    (xk_NothingToRedo : PySem.W.keepIn K (.ref C_NothingToRedo) = true)
    (xs_NothingToRedo : PySem.W.subIn K (.ref C_NothingToRedo) (.type "BaseException") = some true)
    (xt_NothingToRedo : PySem.W.typeIn K (.ref C_NothingToRedo) = some (.type "type"))
    (xi_NothingToRedo : PySem.W.isClsIn K C_NothingToRedo = true)
    (xg_NothingToRedo : PySem.W.findIn K (.ref C_NothingToRedo) "__getattribute__" = some (some (.builtin "BaseException.__getattribute__")))
    (xh_NothingToRedo : PySem.W.findIn K (.ref C_NothingToRedo) "__getattr__" = some none)
    (xc_NothingToRedo : PySem.W.findIn K (.ref C_NothingToRedo) "__class__" = some (some (.builtin "object.__class__")))
    (xm_NothingToRedo : PySem.W.mroIn K C_NothingToRedo (.type "object") = some true)
    (ca_NothingToRedo : CA K "NothingToRedo" = some C_NothingToRedo)
    (xe_NothingToRedo : PySem.W.excIn K C_NothingToRedo tailVE "ValueError.__new__" = true)
    {C_NoVersion : Addr}
    (xa_NoVersion : PySem.W.nsIn K mainGlobals "NoVersion" = some (some (.ref C_NoVersion)))
    (xk_NoVersion : PySem.W.keepIn K (.ref C_NoVersion) = true)
    (xs_NoVersion : PySem.W.subIn K (.ref C_NoVersion) (.type "BaseException") = some true)
    (xt_NoVersion : PySem.W.typeIn K (.ref C_NoVersion) = some (.type "type"))
    (xi_NoVersion : PySem.W.isClsIn K C_NoVersion = true)
    (xg_NoVersion : PySem.W.findIn K (.ref C_NoVersion) "__getattribute__" = some (some (.builtin "BaseException.__getattribute__")))
    (xh_NoVersion : PySem.W.findIn K (.ref C_NoVersion) "__getattr__" = some none)
    (xc_NoVersion : PySem.W.findIn K (.ref C_NoVersion) "__class__" = some (some (.builtin "object.__class__")))
    (xm_NoVersion : PySem.W.mroIn K C_NoVersion (.type "object") = some true)
    (ca_NoVersion : CA K "NoVersion" = some C_NoVersion)
    (qx_all : ((qt_NoVersion : List (Str × Bool)).map (·.1)).all (exqB K) = true)
    (qt_NoVersion : isqB K (.ref C_NoVersion) qt_NoVersion = true)
    {C_Unlevel : Addr}
    (xa_Unlevel : PySem.W.nsIn K mainGlobals "Unlevel" = some (some (.ref C_Unlevel)))
    (xk_Unlevel : PySem.W.keepIn K (.ref C_Unlevel) = true)
    (xs_Unlevel : PySem.W.subIn K (.ref C_Unlevel) (.type "BaseException") = some true)
    (xt_Unlevel : PySem.W.typeIn K (.ref C_Unlevel) = some (.type "type"))
    (xi_Unlevel : PySem.W.isClsIn K C_Unlevel = true)
    (xg_Unlevel : PySem.W.findIn K (.ref C_Unlevel) "__getattribute__" = some (some (.builtin "BaseException.__getattribute__")))
    (xh_Unlevel : PySem.W.findIn K (.ref C_Unlevel) "__getattr__" = some none)
    (xc_Unlevel : PySem.W.findIn K (.ref C_Unlevel) "__class__" = some (some (.builtin "object.__class__")))
    (xm_Unlevel : PySem.W.mroIn K C_Unlevel (.type "object") = some true)
    (ca_Unlevel : CA K "Unlevel" = some C_Unlevel)
    (qt_Unlevel : isqB K (.ref C_Unlevel) qt_Unlevel = true)
    {C_TooMany : Addr}
    (xa_TooMany : PySem.W.nsIn K mainGlobals "TooMany" = some (some (.ref C_TooMany)))
    (xk_TooMany : PySem.W.keepIn K (.ref C_TooMany) = true)
    (xs_TooMany : PySem.W.subIn K (.ref C_TooMany) (.type "BaseException") = some true)
    (xt_TooMany : PySem.W.typeIn K (.ref C_TooMany) = some (.type "type"))
    (xi_TooMany : PySem.W.isClsIn K C_TooMany = true)
    (xg_TooMany : PySem.W.findIn K (.ref C_TooMany) "__getattribute__" = some (some (.builtin "BaseException.__getattribute__")))
    (xh_TooMany : PySem.W.findIn K (.ref C_TooMany) "__getattr__" = some none)
    (xc_TooMany : PySem.W.findIn K (.ref C_TooMany) "__class__" = some (some (.builtin "object.__class__")))
    (xm_TooMany : PySem.W.mroIn K C_TooMany (.type "object") = some true)
    (ca_TooMany : CA K "TooMany" = some C_TooMany)
    (qt_TooMany : isqB K (.ref C_TooMany) qt_TooMany = true)
    {C_BadBook : Addr}
    (xa_BadBook : PySem.W.nsIn K mainGlobals "BadBook" = some (some (.ref C_BadBook)))
    (xk_BadBook : PySem.W.keepIn K (.ref C_BadBook) = true)
    (xs_BadBook : PySem.W.subIn K (.ref C_BadBook) (.type "BaseException") = some true)
    (xt_BadBook : PySem.W.typeIn K (.ref C_BadBook) = some (.type "type"))
    (xi_BadBook : PySem.W.isClsIn K C_BadBook = true)
    (xg_BadBook : PySem.W.findIn K (.ref C_BadBook) "__getattribute__" = some (some (.builtin "BaseException.__getattribute__")))
    (xh_BadBook : PySem.W.findIn K (.ref C_BadBook) "__getattr__" = some none)
    (xc_BadBook : PySem.W.findIn K (.ref C_BadBook) "__class__" = some (some (.builtin "object.__class__")))
    (xm_BadBook : PySem.W.mroIn K C_BadBook (.type "object") = some true)
    (ca_BadBook : CA K "BadBook" = some C_BadBook)
    (qt_BadBook : isqB K (.ref C_BadBook) qt_BadBook = true)
    (qt_BadText : isqB K (.ref C_BadText) qt_BadText = true)
    (qt_Unfit : isqB K (.ref C_Unfit) qt_Unfit = true)
    {C_BadLog : Addr}
    (xa_BadLog : PySem.W.nsIn K mainGlobals "BadLog" = some (some (.ref C_BadLog)))
    (xk_BadLog : PySem.W.keepIn K (.ref C_BadLog) = true)
    (xs_BadLog : PySem.W.subIn K (.ref C_BadLog) (.type "BaseException") = some true)
    (xt_BadLog : PySem.W.typeIn K (.ref C_BadLog) = some (.type "type"))
    (xi_BadLog : PySem.W.isClsIn K C_BadLog = true)
    (xg_BadLog : PySem.W.findIn K (.ref C_BadLog) "__getattribute__" = some (some (.builtin "BaseException.__getattribute__")))
    (xh_BadLog : PySem.W.findIn K (.ref C_BadLog) "__getattr__" = some none)
    (xc_BadLog : PySem.W.findIn K (.ref C_BadLog) "__class__" = some (some (.builtin "object.__class__")))
    (xm_BadLog : PySem.W.mroIn K C_BadLog (.type "object") = some true)
    (ca_BadLog : CA K "BadLog" = some C_BadLog)
    (qt_BadLog : isqB K (.ref C_BadLog) qt_BadLog = true)
    (qt_TooManyEdits : isqB K (.ref C_TooManyEdits) qt_TooManyEdits = true)
    (qt_Few : isqB K (.ref C_Few) qt_Few = true)
    (qt_Level : isqB K (.ref C_Level) qt_Level = true)
    (qt_NothingToRedo : isqB K (.ref C_NothingToRedo) qt_NothingToRedo = true)
    (qt_NothingToUndo : isqB K (.ref C_NothingToUndo) qt_NothingToUndo = true)
    (qt_FieldsError : isqB K (.ref C_FieldsError) qt_FieldsError = true)
    (qt_ValueError : isqB K (.type "ValueError") qt_ValueError = true)
    {yf_BadBook ycc_BadBook ycda_BadBook yNN_BadBook : Addr} {yp0_BadBook yp1_BadBook yp2_BadBook yp3_BadBook yp4_BadBook yp5_BadBook yp6_BadBook yp7_BadBook yp8_BadBook yq_BadBook : Pos} {yj_BadBook : Nat} {ypa_BadBook : Arguments} {ysc_BadBook : Scope} {ydV_BadBook ykV_BadBook ydc_BadBook ypm_BadBook yct_BadBook yoc_BadBook yccl_BadBook ycl_BadBook : Value} {yan_BadBook yod_BadBook ydd_BadBook ycdd_BadBook ycld_BadBook : Option Addr} {yosl_BadBook yccs_BadBook ycsl_BadBook : Array (Option Value)} {ynm_BadBook yqn_BadBook yfnm_BadBook yfq_BadBook yfile_BadBook : Str} {ybs_BadBook ybm_BadBook ysub_BadBook : List Value} {ysn_BadBook : List Str} {yab_BadBook : Bool} {ycol_BadBook : Option Bool} {yk0_BadBook yk1_BadBook yk2_BadBook yk3_BadBook yk5_BadBook : Option Value} {yvs_BadBook : Array Value} {ytf_BadBook : Tok}
    (yhiC_BadBook : PySem.W.findIn K (.ref C_BadBook) "__init__" = some (some (.ref yf_BadBook)))
    (yhtI_BadBook : PySem.W.typeIn K (.ref yf_BadBook) = some (.type "function"))
    (yhlC_BadBook : K.lookup C_BadBook = some (excClassObj ynm_BadBook yqn_BadBook C_BadBook yNN_BadBook ybs_BadBook ybm_BadBook true ysn_BadBook ysub_BadBook yab_BadBook ycol_BadBook ydd_BadBook yk0_BadBook yk1_BadBook yk2_BadBook yk3_BadBook yk5_BadBook "ValueError.__new__"))
    (yhvb_BadBook : PySem.HandSPX.refsVE ybm_BadBook = true)
    (yhsa_BadBook : PySem.W.findIn K (.ref C_BadBook) "__setattr__" = some (some (.builtin "object.__setattr__")))
    (yhlI_BadBook : K.lookup yf_BadBook = some ⟨yoc_BadBook, yod_BadBook, .func (sxFn "self" "error" "error" "the value is no book" yfnm_BadBook yfq_BadBook ypa_BadBook ysc_BadBook yj_BadBook yp0_BadBook yp1_BadBook yp2_BadBook yp3_BadBook yp4_BadBook yp5_BadBook yp6_BadBook yp7_BadBook yp8_BadBook yq_BadBook ydV_BadBook ykV_BadBook ydc_BadBook ypm_BadBook yan_BadBook ycda_BadBook yct_BadBook ycc_BadBook), yosl_BadBook⟩)
    (yhhcd_BadBook : PySem.W.codeIn K (.ref ycda_BadBook) yfq_BadBook = true)
    (yhlD_BadBook : K.lookup ycda_BadBook = some ⟨yccl_BadBook, ycdd_BadBook, .fields yvs_BadBook, yccs_BadBook⟩)
    (yhhvs_BadBook : yvs_BadBook[2]? = some (.str yfile_BadBook ytf_BadBook))
    (yhhfile_BadBook : ((P.main.file : Str) == yfile_BadBook) = true)
    (yhlc_BadBook : K.lookup ycc_BadBook = some ⟨ycl_BadBook, ycld_BadBook, .cell (some (.ref C_BadBook)), ycsl_BadBook⟩)
    (yhmro_BadBook : PySem.W.mroIn K C_BadBook (.ref C_BadBook) = some true)
    (yany : PySem.W.nsIn K cStatics "thirdparty.any" = some none)
    (yhsup_BadBook : PySem.W.ks_superIn K C_BadBook C_BadBook "__init__" = some (some (.builtin "ValueError.__init__")))
    (yhsb_BadBook : PySem.W.subIn K (.ref C_BadBook) (.type "ValueError") = some true)
    (yhexi_BadBook : PySem.W.excInitIn K C_BadBook veMro "ValueError.__new__" = true)
    (yhfl_BadBook : PySem.W.findIn K (.ref C_BadBook) "error" = some none)
    (ysup : PySem.W.nsIn K mainGlobals "super" = some none)
    (ytop : (P.main.scope.names.lookup ("super" : Str)).isSome = false)
    (yhT_BadBook : SxT yf_BadBook ycda_BadBook ycc_BadBook "self" "error" "error" "the value is no book" yfq_BadBook ypa_BadBook ysc_BadBook yj_BadBook yp0_BadBook yp1_BadBook yp2_BadBook yp3_BadBook yp4_BadBook yp5_BadBook yp6_BadBook yp7_BadBook yp8_BadBook yq_BadBook)
    (yhhb_BadBook : Binds K (sxFn "self" "error" "error" "the value is no book" yfnm_BadBook yfq_BadBook ypa_BadBook ysc_BadBook yj_BadBook yp0_BadBook yp1_BadBook yp2_BadBook yp3_BadBook yp4_BadBook yp5_BadBook yp6_BadBook yp7_BadBook yp8_BadBook yq_BadBook ydV_BadBook ykV_BadBook ydc_BadBook ypm_BadBook yan_BadBook ycda_BadBook yct_BadBook ycc_BadBook) ["self", "error"] [])
    (yhk2_BadBook : ∀ (s : Shared) (a b : Value), BindsTo s (sxFn "self" "error" "error" "the value is no book" yfnm_BadBook yfq_BadBook ypa_BadBook ysc_BadBook yj_BadBook yp0_BadBook yp1_BadBook yp2_BadBook yp3_BadBook yp4_BadBook yp5_BadBook yp6_BadBook yp7_BadBook yp8_BadBook yq_BadBook ydV_BadBook ykV_BadBook ydc_BadBook ypm_BadBook yan_BadBook ycda_BadBook yct_BadBook ycc_BadBook) ⟨[a], [("error", b)]⟩ ((["self", "error"] : List Str).zip [a, b]))
    (xd_BadBook : PySem.W.hasDictIn K C_BadBook = true)
    (xn_BadBook_error : PySem.W.findIn K (.ref C_BadBook) "error" = some none)
    {yf_TooMany ycc_TooMany ycda_TooMany yNN_TooMany : Addr} {yp0_TooMany yp1_TooMany yp2_TooMany yp3_TooMany yp4_TooMany yp5_TooMany yp6_TooMany yp7_TooMany yp8_TooMany yq_TooMany : Pos} {yj_TooMany : Nat} {ypa_TooMany : Arguments} {ysc_TooMany : Scope} {ydV_TooMany ykV_TooMany ydc_TooMany ypm_TooMany yct_TooMany yoc_TooMany yccl_TooMany ycl_TooMany : Value} {yan_TooMany yod_TooMany ydd_TooMany ycdd_TooMany ycld_TooMany : Option Addr} {yosl_TooMany yccs_TooMany ycsl_TooMany : Array (Option Value)} {ynm_TooMany yqn_TooMany yfnm_TooMany yfq_TooMany yfile_TooMany : Str} {ybs_TooMany ybm_TooMany ysub_TooMany : List Value} {ysn_TooMany : List Str} {yab_TooMany : Bool} {ycol_TooMany : Option Bool} {yk0_TooMany yk1_TooMany yk2_TooMany yk3_TooMany yk5_TooMany : Option Value} {yvs_TooMany : Array Value} {ytf_TooMany : Tok}
    (yhiC_TooMany : PySem.W.findIn K (.ref C_TooMany) "__init__" = some (some (.ref yf_TooMany)))
    (yhtI_TooMany : PySem.W.typeIn K (.ref yf_TooMany) = some (.type "function"))
    (yhlC_TooMany : K.lookup C_TooMany = some (excClassObj ynm_TooMany yqn_TooMany C_TooMany yNN_TooMany ybs_TooMany ybm_TooMany true ysn_TooMany ysub_TooMany yab_TooMany ycol_TooMany ydd_TooMany yk0_TooMany yk1_TooMany yk2_TooMany yk3_TooMany yk5_TooMany "ValueError.__new__"))
    (yhvb_TooMany : PySem.HandSPX.refsVE ybm_TooMany = true)
    (yhsa_TooMany : PySem.W.findIn K (.ref C_TooMany) "__setattr__" = some (some (.builtin "object.__setattr__")))
    (yhlI_TooMany : K.lookup yf_TooMany = some ⟨yoc_TooMany, yod_TooMany, .func (sxFn "self" "limit" "limit" "a limit is passed" yfnm_TooMany yfq_TooMany ypa_TooMany ysc_TooMany yj_TooMany yp0_TooMany yp1_TooMany yp2_TooMany yp3_TooMany yp4_TooMany yp5_TooMany yp6_TooMany yp7_TooMany yp8_TooMany yq_TooMany ydV_TooMany ykV_TooMany ydc_TooMany ypm_TooMany yan_TooMany ycda_TooMany yct_TooMany ycc_TooMany), yosl_TooMany⟩)
    (yhhcd_TooMany : PySem.W.codeIn K (.ref ycda_TooMany) yfq_TooMany = true)
    (yhlD_TooMany : K.lookup ycda_TooMany = some ⟨yccl_TooMany, ycdd_TooMany, .fields yvs_TooMany, yccs_TooMany⟩)
    (yhhvs_TooMany : yvs_TooMany[2]? = some (.str yfile_TooMany ytf_TooMany))
    (yhhfile_TooMany : ((P.main.file : Str) == yfile_TooMany) = true)
    (yhlc_TooMany : K.lookup ycc_TooMany = some ⟨ycl_TooMany, ycld_TooMany, .cell (some (.ref C_TooMany)), ycsl_TooMany⟩)
    (yhmro_TooMany : PySem.W.mroIn K C_TooMany (.ref C_TooMany) = some true)
    (yhsup_TooMany : PySem.W.ks_superIn K C_TooMany C_TooMany "__init__" = some (some (.builtin "ValueError.__init__")))
    (yhsb_TooMany : PySem.W.subIn K (.ref C_TooMany) (.type "ValueError") = some true)
    (yhexi_TooMany : PySem.W.excInitIn K C_TooMany veMro "ValueError.__new__" = true)
    (yhfl_TooMany : PySem.W.findIn K (.ref C_TooMany) "limit" = some none)
    (yhT_TooMany : SxT yf_TooMany ycda_TooMany ycc_TooMany "self" "limit" "limit" "a limit is passed" yfq_TooMany ypa_TooMany ysc_TooMany yj_TooMany yp0_TooMany yp1_TooMany yp2_TooMany yp3_TooMany yp4_TooMany yp5_TooMany yp6_TooMany yp7_TooMany yp8_TooMany yq_TooMany)
    (yhhb_TooMany : Binds K (sxFn "self" "limit" "limit" "a limit is passed" yfnm_TooMany yfq_TooMany ypa_TooMany ysc_TooMany yj_TooMany yp0_TooMany yp1_TooMany yp2_TooMany yp3_TooMany yp4_TooMany yp5_TooMany yp6_TooMany yp7_TooMany yp8_TooMany yq_TooMany ydV_TooMany ykV_TooMany ydc_TooMany ypm_TooMany yan_TooMany ycda_TooMany yct_TooMany ycc_TooMany) ["self", "limit"] [])
    (yhk2_TooMany : ∀ (s : Shared) (a b : Value), BindsTo s (sxFn "self" "limit" "limit" "a limit is passed" yfnm_TooMany yfq_TooMany ypa_TooMany ysc_TooMany yj_TooMany yp0_TooMany yp1_TooMany yp2_TooMany yp3_TooMany yp4_TooMany yp5_TooMany yp6_TooMany yp7_TooMany yp8_TooMany yq_TooMany ydV_TooMany ykV_TooMany ydc_TooMany ypm_TooMany yan_TooMany ycda_TooMany yct_TooMany ycc_TooMany) ⟨[a], [("limit", b)]⟩ ((["self", "limit"] : List Str).zip [a, b]))
    (xd_TooMany : PySem.W.hasDictIn K C_TooMany = true)
    (xn_TooMany_limit : PySem.W.findIn K (.ref C_TooMany) "limit" = some none)
    {yf_Unlevel ycc_Unlevel ycda_Unlevel yNN_Unlevel : Addr} {yp0_Unlevel yp1_Unlevel yp2_Unlevel yp3_Unlevel yp4_Unlevel yp5_Unlevel yp6_Unlevel yp7_Unlevel yp8_Unlevel yq_Unlevel : Pos} {yj_Unlevel : Nat} {ypa_Unlevel : Arguments} {ysc_Unlevel : Scope} {ydV_Unlevel ykV_Unlevel ydc_Unlevel ypm_Unlevel yct_Unlevel yoc_Unlevel yccl_Unlevel ycl_Unlevel : Value} {yan_Unlevel yod_Unlevel ydd_Unlevel ycdd_Unlevel ycld_Unlevel : Option Addr} {yosl_Unlevel yccs_Unlevel ycsl_Unlevel : Array (Option Value)} {ynm_Unlevel yqn_Unlevel yfnm_Unlevel yfq_Unlevel yfile_Unlevel : Str} {ybs_Unlevel ybm_Unlevel ysub_Unlevel : List Value} {ysn_Unlevel : List Str} {yab_Unlevel : Bool} {ycol_Unlevel : Option Bool} {yk0_Unlevel yk1_Unlevel yk2_Unlevel yk3_Unlevel yk5_Unlevel : Option Value} {yvs_Unlevel : Array Value} {ytf_Unlevel : Tok}
    (yhiC_Unlevel : PySem.W.findIn K (.ref C_Unlevel) "__init__" = some (some (.ref yf_Unlevel)))
    (yhtI_Unlevel : PySem.W.typeIn K (.ref yf_Unlevel) = some (.type "function"))
    (yhlC_Unlevel : K.lookup C_Unlevel = some (excClassObj ynm_Unlevel yqn_Unlevel C_Unlevel yNN_Unlevel ybs_Unlevel ybm_Unlevel true ysn_Unlevel ysub_Unlevel yab_Unlevel ycol_Unlevel ydd_Unlevel yk0_Unlevel yk1_Unlevel yk2_Unlevel yk3_Unlevel yk5_Unlevel "ValueError.__new__"))
    (yhvb_Unlevel : PySem.HandSPX.refsVE ybm_Unlevel = true)
    (yhsa_Unlevel : PySem.W.findIn K (.ref C_Unlevel) "__setattr__" = some (some (.builtin "object.__setattr__")))
    (yhlI_Unlevel : K.lookup yf_Unlevel = some ⟨yoc_Unlevel, yod_Unlevel, .func (sxFn "self" "pair" "pair" "the book is not level" yfnm_Unlevel yfq_Unlevel ypa_Unlevel ysc_Unlevel yj_Unlevel yp0_Unlevel yp1_Unlevel yp2_Unlevel yp3_Unlevel yp4_Unlevel yp5_Unlevel yp6_Unlevel yp7_Unlevel yp8_Unlevel yq_Unlevel ydV_Unlevel ykV_Unlevel ydc_Unlevel ypm_Unlevel yan_Unlevel ycda_Unlevel yct_Unlevel ycc_Unlevel), yosl_Unlevel⟩)
    (yhhcd_Unlevel : PySem.W.codeIn K (.ref ycda_Unlevel) yfq_Unlevel = true)
    (yhlD_Unlevel : K.lookup ycda_Unlevel = some ⟨yccl_Unlevel, ycdd_Unlevel, .fields yvs_Unlevel, yccs_Unlevel⟩)
    (yhhvs_Unlevel : yvs_Unlevel[2]? = some (.str yfile_Unlevel ytf_Unlevel))
    (yhhfile_Unlevel : ((P.main.file : Str) == yfile_Unlevel) = true)
    (yhlc_Unlevel : K.lookup ycc_Unlevel = some ⟨ycl_Unlevel, ycld_Unlevel, .cell (some (.ref C_Unlevel)), ycsl_Unlevel⟩)
    (yhmro_Unlevel : PySem.W.mroIn K C_Unlevel (.ref C_Unlevel) = some true)
    (yhsup_Unlevel : PySem.W.ks_superIn K C_Unlevel C_Unlevel "__init__" = some (some (.builtin "ValueError.__init__")))
    (yhsb_Unlevel : PySem.W.subIn K (.ref C_Unlevel) (.type "ValueError") = some true)
    (yhexi_Unlevel : PySem.W.excInitIn K C_Unlevel veMro "ValueError.__new__" = true)
    (yhfl_Unlevel : PySem.W.findIn K (.ref C_Unlevel) "pair" = some none)
    (yhT_Unlevel : SxT yf_Unlevel ycda_Unlevel ycc_Unlevel "self" "pair" "pair" "the book is not level" yfq_Unlevel ypa_Unlevel ysc_Unlevel yj_Unlevel yp0_Unlevel yp1_Unlevel yp2_Unlevel yp3_Unlevel yp4_Unlevel yp5_Unlevel yp6_Unlevel yp7_Unlevel yp8_Unlevel yq_Unlevel)
    (yhhb_Unlevel : Binds K (sxFn "self" "pair" "pair" "the book is not level" yfnm_Unlevel yfq_Unlevel ypa_Unlevel ysc_Unlevel yj_Unlevel yp0_Unlevel yp1_Unlevel yp2_Unlevel yp3_Unlevel yp4_Unlevel yp5_Unlevel yp6_Unlevel yp7_Unlevel yp8_Unlevel yq_Unlevel ydV_Unlevel ykV_Unlevel ydc_Unlevel ypm_Unlevel yan_Unlevel ycda_Unlevel yct_Unlevel ycc_Unlevel) ["self", "pair"] [])
    (yhk2_Unlevel : ∀ (s : Shared) (a b : Value), BindsTo s (sxFn "self" "pair" "pair" "the book is not level" yfnm_Unlevel yfq_Unlevel ypa_Unlevel ysc_Unlevel yj_Unlevel yp0_Unlevel yp1_Unlevel yp2_Unlevel yp3_Unlevel yp4_Unlevel yp5_Unlevel yp6_Unlevel yp7_Unlevel yp8_Unlevel yq_Unlevel ydV_Unlevel ykV_Unlevel ydc_Unlevel ypm_Unlevel yan_Unlevel ycda_Unlevel yct_Unlevel ycc_Unlevel) ⟨[a], [("pair", b)]⟩ ((["self", "pair"] : List Str).zip [a, b]))
    (xd_Unlevel : PySem.W.hasDictIn K C_Unlevel = true)
    (xn_Unlevel_pair : PySem.W.findIn K (.ref C_Unlevel) "pair" = some none)
    {yf_NoVersion ycc_NoVersion ycda_NoVersion yNN_NoVersion : Addr} {yp0_NoVersion yp1_NoVersion yp2_NoVersion yp3_NoVersion yp4_NoVersion yp5_NoVersion yp6_NoVersion yp7_NoVersion yp8_NoVersion yq_NoVersion : Pos} {yj_NoVersion : Nat} {ypa_NoVersion : Arguments} {ysc_NoVersion : Scope} {ydV_NoVersion ykV_NoVersion ydc_NoVersion ypm_NoVersion yct_NoVersion yoc_NoVersion yccl_NoVersion ycl_NoVersion : Value} {yan_NoVersion yod_NoVersion ydd_NoVersion ycdd_NoVersion ycld_NoVersion : Option Addr} {yosl_NoVersion yccs_NoVersion ycsl_NoVersion : Array (Option Value)} {ynm_NoVersion yqn_NoVersion yfnm_NoVersion yfq_NoVersion yfile_NoVersion : Str} {ybs_NoVersion ybm_NoVersion ysub_NoVersion : List Value} {ysn_NoVersion : List Str} {yab_NoVersion : Bool} {ycol_NoVersion : Option Bool} {yk0_NoVersion yk1_NoVersion yk2_NoVersion yk3_NoVersion yk5_NoVersion : Option Value} {yvs_NoVersion : Array Value} {ytf_NoVersion : Tok}
    (yhiC_NoVersion : PySem.W.findIn K (.ref C_NoVersion) "__init__" = some (some (.ref yf_NoVersion)))
    (yhtI_NoVersion : PySem.W.typeIn K (.ref yf_NoVersion) = some (.type "function"))
    (yhlC_NoVersion : K.lookup C_NoVersion = some (excClassObj ynm_NoVersion yqn_NoVersion C_NoVersion yNN_NoVersion ybs_NoVersion ybm_NoVersion true ysn_NoVersion ysub_NoVersion yab_NoVersion ycol_NoVersion ydd_NoVersion yk0_NoVersion yk1_NoVersion yk2_NoVersion yk3_NoVersion yk5_NoVersion "ValueError.__new__"))
    (yhvb_NoVersion : PySem.HandSPX.refsVE ybm_NoVersion = true)
    (yhsa_NoVersion : PySem.W.findIn K (.ref C_NoVersion) "__setattr__" = some (some (.builtin "object.__setattr__")))
    (yhlI_NoVersion : K.lookup yf_NoVersion = some ⟨yoc_NoVersion, yod_NoVersion, .func (sxFn "self" "given" "given" "there is no such version" yfnm_NoVersion yfq_NoVersion ypa_NoVersion ysc_NoVersion yj_NoVersion yp0_NoVersion yp1_NoVersion yp2_NoVersion yp3_NoVersion yp4_NoVersion yp5_NoVersion yp6_NoVersion yp7_NoVersion yp8_NoVersion yq_NoVersion ydV_NoVersion ykV_NoVersion ydc_NoVersion ypm_NoVersion yan_NoVersion ycda_NoVersion yct_NoVersion ycc_NoVersion), yosl_NoVersion⟩)
    (yhhcd_NoVersion : PySem.W.codeIn K (.ref ycda_NoVersion) yfq_NoVersion = true)
    (yhlD_NoVersion : K.lookup ycda_NoVersion = some ⟨yccl_NoVersion, ycdd_NoVersion, .fields yvs_NoVersion, yccs_NoVersion⟩)
    (yhhvs_NoVersion : yvs_NoVersion[2]? = some (.str yfile_NoVersion ytf_NoVersion))
    (yhhfile_NoVersion : ((P.main.file : Str) == yfile_NoVersion) = true)
    (yhlc_NoVersion : K.lookup ycc_NoVersion = some ⟨ycl_NoVersion, ycld_NoVersion, .cell (some (.ref C_NoVersion)), ycsl_NoVersion⟩)
    (yhmro_NoVersion : PySem.W.mroIn K C_NoVersion (.ref C_NoVersion) = some true)
    (yhsup_NoVersion : PySem.W.ks_superIn K C_NoVersion C_NoVersion "__init__" = some (some (.builtin "ValueError.__init__")))
    (yhsb_NoVersion : PySem.W.subIn K (.ref C_NoVersion) (.type "ValueError") = some true)
    (yhexi_NoVersion : PySem.W.excInitIn K C_NoVersion veMro "ValueError.__new__" = true)
    (yhfl_NoVersion : PySem.W.findIn K (.ref C_NoVersion) "given" = some none)
    (yhT_NoVersion : SxT yf_NoVersion ycda_NoVersion ycc_NoVersion "self" "given" "given" "there is no such version" yfq_NoVersion ypa_NoVersion ysc_NoVersion yj_NoVersion yp0_NoVersion yp1_NoVersion yp2_NoVersion yp3_NoVersion yp4_NoVersion yp5_NoVersion yp6_NoVersion yp7_NoVersion yp8_NoVersion yq_NoVersion)
    (yhhb_NoVersion : Binds K (sxFn "self" "given" "given" "there is no such version" yfnm_NoVersion yfq_NoVersion ypa_NoVersion ysc_NoVersion yj_NoVersion yp0_NoVersion yp1_NoVersion yp2_NoVersion yp3_NoVersion yp4_NoVersion yp5_NoVersion yp6_NoVersion yp7_NoVersion yp8_NoVersion yq_NoVersion ydV_NoVersion ykV_NoVersion ydc_NoVersion ypm_NoVersion yan_NoVersion ycda_NoVersion yct_NoVersion ycc_NoVersion) ["self", "given"] [])
    (yhk2_NoVersion : ∀ (s : Shared) (a b : Value), BindsTo s (sxFn "self" "given" "given" "there is no such version" yfnm_NoVersion yfq_NoVersion ypa_NoVersion ysc_NoVersion yj_NoVersion yp0_NoVersion yp1_NoVersion yp2_NoVersion yp3_NoVersion yp4_NoVersion yp5_NoVersion yp6_NoVersion yp7_NoVersion yp8_NoVersion yq_NoVersion ydV_NoVersion ykV_NoVersion ydc_NoVersion ypm_NoVersion yan_NoVersion ycda_NoVersion yct_NoVersion ycc_NoVersion) ⟨[a], [("given", b)]⟩ ((["self", "given"] : List Str).zip [a, b]))
    (xd_NoVersion : PySem.W.hasDictIn K C_NoVersion = true)
    (xn_NoVersion_given : PySem.W.findIn K (.ref C_NoVersion) "given" = some none)
    {yf_BadLog ycc_BadLog ycda_BadLog yNN_BadLog : Addr} {yp0_BadLog yp1_BadLog yp2_BadLog yp3_BadLog yp4_BadLog yp5_BadLog yp6_BadLog yp7_BadLog yp8_BadLog yq_BadLog : Pos} {yj_BadLog : Nat} {ypa_BadLog : Arguments} {ysc_BadLog : Scope} {ydV_BadLog ykV_BadLog ydc_BadLog ypm_BadLog yct_BadLog yoc_BadLog yccl_BadLog ycl_BadLog : Value} {yan_BadLog yod_BadLog ydd_BadLog ycdd_BadLog ycld_BadLog : Option Addr} {yosl_BadLog yccs_BadLog ycsl_BadLog : Array (Option Value)} {ynm_BadLog yqn_BadLog yfnm_BadLog yfq_BadLog yfile_BadLog : Str} {ybs_BadLog ybm_BadLog ysub_BadLog : List Value} {ysn_BadLog : List Str} {yab_BadLog : Bool} {ycol_BadLog : Option Bool} {yk0_BadLog yk1_BadLog yk2_BadLog yk3_BadLog yk5_BadLog : Option Value} {yvs_BadLog : Array Value} {ytf_BadLog : Tok}
    (yhiC_BadLog : PySem.W.findIn K (.ref C_BadLog) "__init__" = some (some (.ref yf_BadLog)))
    (yhtI_BadLog : PySem.W.typeIn K (.ref yf_BadLog) = some (.type "function"))
    (yhlC_BadLog : K.lookup C_BadLog = some (excClassObj ynm_BadLog yqn_BadLog C_BadLog yNN_BadLog ybs_BadLog ybm_BadLog true ysn_BadLog ysub_BadLog yab_BadLog ycol_BadLog ydd_BadLog yk0_BadLog yk1_BadLog yk2_BadLog yk3_BadLog yk5_BadLog "ValueError.__new__"))
    (yhvb_BadLog : PySem.HandSPX.refsVE ybm_BadLog = true)
    (yhsa_BadLog : PySem.W.findIn K (.ref C_BadLog) "__setattr__" = some (some (.builtin "object.__setattr__")))
    (yhlI_BadLog : K.lookup yf_BadLog = some ⟨yoc_BadLog, yod_BadLog, .func (sxFn "self" "place" "place" "the log has a wrong item, or is none" yfnm_BadLog yfq_BadLog ypa_BadLog ysc_BadLog yj_BadLog yp0_BadLog yp1_BadLog yp2_BadLog yp3_BadLog yp4_BadLog yp5_BadLog yp6_BadLog yp7_BadLog yp8_BadLog yq_BadLog ydV_BadLog ykV_BadLog ydc_BadLog ypm_BadLog yan_BadLog ycda_BadLog yct_BadLog ycc_BadLog), yosl_BadLog⟩)
    (yhhcd_BadLog : PySem.W.codeIn K (.ref ycda_BadLog) yfq_BadLog = true)
    (yhlD_BadLog : K.lookup ycda_BadLog = some ⟨yccl_BadLog, ycdd_BadLog, .fields yvs_BadLog, yccs_BadLog⟩)
    (yhhvs_BadLog : yvs_BadLog[2]? = some (.str yfile_BadLog ytf_BadLog))
    (yhhfile_BadLog : ((P.main.file : Str) == yfile_BadLog) = true)
    (yhlc_BadLog : K.lookup ycc_BadLog = some ⟨ycl_BadLog, ycld_BadLog, .cell (some (.ref C_BadLog)), ycsl_BadLog⟩)
    (yhmro_BadLog : PySem.W.mroIn K C_BadLog (.ref C_BadLog) = some true)
    (yhsup_BadLog : PySem.W.ks_superIn K C_BadLog C_BadLog "__init__" = some (some (.builtin "ValueError.__init__")))
    (yhsb_BadLog : PySem.W.subIn K (.ref C_BadLog) (.type "ValueError") = some true)
    (yhexi_BadLog : PySem.W.excInitIn K C_BadLog veMro "ValueError.__new__" = true)
    (yhfl_BadLog : PySem.W.findIn K (.ref C_BadLog) "place" = some none)
    (yhT_BadLog : SxT yf_BadLog ycda_BadLog ycc_BadLog "self" "place" "place" "the log has a wrong item, or is none" yfq_BadLog ypa_BadLog ysc_BadLog yj_BadLog yp0_BadLog yp1_BadLog yp2_BadLog yp3_BadLog yp4_BadLog yp5_BadLog yp6_BadLog yp7_BadLog yp8_BadLog yq_BadLog)
    (yhhb_BadLog : Binds K (sxFn "self" "place" "place" "the log has a wrong item, or is none" yfnm_BadLog yfq_BadLog ypa_BadLog ysc_BadLog yj_BadLog yp0_BadLog yp1_BadLog yp2_BadLog yp3_BadLog yp4_BadLog yp5_BadLog yp6_BadLog yp7_BadLog yp8_BadLog yq_BadLog ydV_BadLog ykV_BadLog ydc_BadLog ypm_BadLog yan_BadLog ycda_BadLog yct_BadLog ycc_BadLog) ["self", "place"] [])
    (yhk2_BadLog : ∀ (s : Shared) (a b : Value), BindsTo s (sxFn "self" "place" "place" "the log has a wrong item, or is none" yfnm_BadLog yfq_BadLog ypa_BadLog ysc_BadLog yj_BadLog yp0_BadLog yp1_BadLog yp2_BadLog yp3_BadLog yp4_BadLog yp5_BadLog yp6_BadLog yp7_BadLog yp8_BadLog yq_BadLog ydV_BadLog ykV_BadLog ydc_BadLog ypm_BadLog yan_BadLog ycda_BadLog yct_BadLog ycc_BadLog) ⟨[a], [("place", b)]⟩ ((["self", "place"] : List Str).zip [a, b]))
    (xd_BadLog : PySem.W.hasDictIn K C_BadLog = true)
    (xn_BadLog_place : PySem.W.findIn K (.ref C_BadLog) "place" = some none)
    : ∃ fd : FuncData, (∀ (s : Shared) (v : Value), BindsTo s fd ⟨[v], []⟩ [("script", v)]) ∧ ∀ base : Heap, K.In base → base.Ns mainGlobals mg → FnG P w K mg base 6 fa fd ["script"] (spM K d_law) := by
  cases hfa.symm.trans (PySem.W.mg_of X G a9)
  have E_FieldsError : ExF K C_FieldsError := exf_of xk_FieldsError xs_FieldsError xt_FieldsError xi_FieldsError xg_FieldsError xh_FieldsError xc_FieldsError xsp xtk xm_FieldsError
  have E_Unfit : ExF K C_Unfit := exf_of xk_Unfit xs_Unfit xt_Unfit xi_Unfit xg_Unfit xh_Unfit xc_Unfit xsp xtk xm_Unfit
  have E_BadText : ExF K C_BadText := exf_of xk_BadText xs_BadText xt_BadText xi_BadText xg_BadText xh_BadText xc_BadText xsp xtk xm_BadText
  have E_Level : ExF K C_Level := exf_of xk_Level xs_Level xt_Level xi_Level xg_Level xh_Level xc_Level xsp xtk xm_Level
  have E_Few : ExF K C_Few := exf_of xk_Few xs_Few xt_Few xi_Few xg_Few xh_Few xc_Few xsp xtk xm_Few
  have E_TooManyEdits : ExF K C_TooManyEdits := exf_of xk_TooManyEdits xs_TooManyEdits xt_TooManyEdits xi_TooManyEdits xg_TooManyEdits xh_TooManyEdits xc_TooManyEdits xsp xtk xm_TooManyEdits
  have E_NothingToUndo : ExF K C_NothingToUndo := exf_of xk_NothingToUndo xs_NothingToUndo xt_NothingToUndo xi_NothingToUndo xg_NothingToUndo xh_NothingToUndo xc_NothingToUndo xsp xtk xm_NothingToUndo
  have E_NothingToRedo : ExF K C_NothingToRedo := exf_of xk_NothingToRedo xs_NothingToRedo xt_NothingToRedo xi_NothingToRedo xg_NothingToRedo xh_NothingToRedo xc_NothingToRedo xsp xtk xm_NothingToRedo
  have E_NoVersion : ExF K C_NoVersion := exf_of xk_NoVersion xs_NoVersion xt_NoVersion xi_NoVersion xg_NoVersion xh_NoVersion xc_NoVersion xsp xtk xm_NoVersion
  have E_Unlevel : ExF K C_Unlevel := exf_of xk_Unlevel xs_Unlevel xt_Unlevel xi_Unlevel xg_Unlevel xh_Unlevel xc_Unlevel xsp xtk xm_Unlevel
  have E_TooMany : ExF K C_TooMany := exf_of xk_TooMany xs_TooMany xt_TooMany xi_TooMany xg_TooMany xh_TooMany xc_TooMany xsp xtk xm_TooMany
  have E_BadBook : ExF K C_BadBook := exf_of xk_BadBook xs_BadBook xt_BadBook xi_BadBook xg_BadBook xh_BadBook xc_BadBook xsp xtk xm_BadBook
  have E_BadLog : ExF K C_BadLog := exf_of xk_BadLog xs_BadLog xt_BadLog xi_BadLog xg_BadLog xh_BadLog xc_BadLog xsp xtk xm_BadLog
  have Z : Zs P K mg := ⟨PySem.W.mg_none_of X G z_len, PySem.W.mg_none_of X G z_abs, PySem.W.mg_none_of X G z_int, PySem.W.mg_none_of X G z_range, PySem.W.mg_none_of X G z_tuple, PySem.W.mg_none_of X G z_isinstance, PySem.W.mg_none_of X G z_ValueError, PySem.W.mg_none_of X G z_repr, ⟨_, (PySem.W.mg_of X G xa_FieldsError), qv_FieldsError⟩, ⟨C_Unfit, (PySem.W.mg_of X G xa_Unfit), ca_Unfit, xk_Unfit, xe_Unfit⟩, ⟨C_BadText, (PySem.W.mg_of X G xa_BadText), ca_BadText, xk_BadText, xe_BadText⟩, ⟨C_Level, (PySem.W.mg_of X G xa_Level), ca_Level, xk_Level, xe_Level⟩, ⟨C_Few, (PySem.W.mg_of X G xa_Few), ca_Few, xk_Few, xe_Few⟩, ⟨C_TooManyEdits, (PySem.W.mg_of X G xa_TooManyEdits), ca_TooManyEdits, xk_TooManyEdits, xe_TooManyEdits⟩, ⟨C_NothingToUndo, (PySem.W.mg_of X G xa_NothingToUndo), ca_NothingToUndo, xk_NothingToUndo, xe_NothingToUndo⟩, ⟨C_NothingToRedo, (PySem.W.mg_of X G xa_NothingToRedo), ca_NothingToRedo, xk_NothingToRedo, xe_NothingToRedo⟩, ⟨_, (PySem.W.mg_of X G xa_NoVersion), isqT_of (fun _ h => h) qx_all qt_NoVersion⟩, ⟨_, (PySem.W.mg_of X G xa_Unlevel), isqT_of (fun _ h => h) qx_all qt_Unlevel⟩, ⟨_, (PySem.W.mg_of X G xa_TooMany), isqT_of (fun _ h => h) qx_all qt_TooMany⟩, ⟨_, (PySem.W.mg_of X G xa_BadBook), isqT_of (fun _ h => h) qx_all qt_BadBook⟩, ⟨_, (PySem.W.mg_of X G xa_BadText), isqT_of (fun _ h => h) qx_all qt_BadText⟩, ⟨_, (PySem.W.mg_of X G xa_Unfit), isqT_of (fun _ h => h) qx_all qt_Unfit⟩, ⟨_, (PySem.W.mg_of X G xa_BadLog), isqT_of (fun _ h => h) qx_all qt_BadLog⟩, ⟨_, (PySem.W.mg_of X G xa_TooManyEdits), isqT_of (fun _ h => h) qx_all qt_TooManyEdits⟩, ⟨_, (PySem.W.mg_of X G xa_Few), isqT_of (fun _ h => h) qx_all qt_Few⟩, ⟨_, (PySem.W.mg_of X G xa_Level), isqT_of (fun _ h => h) qx_all qt_Level⟩, ⟨_, (PySem.W.mg_of X G xa_NothingToRedo), isqT_of (fun _ h => h) qx_all qt_NothingToRedo⟩, ⟨_, (PySem.W.mg_of X G xa_NothingToUndo), isqT_of (fun _ h => h) qx_all qt_NothingToUndo⟩, ⟨_, (PySem.W.mg_of X G xa_FieldsError), isqT_of (fun _ h => h) qx_all qt_FieldsError⟩, isqT_of (fun _ h => h) qx_all qt_ValueError, kx2_of (PySem.W.mg_of X G xa_BadBook) E_BadBook yhiC_BadBook yhtI_BadBook yhlC_BadBook yhvb_BadBook yhsa_BadBook yhlI_BadBook yhhcd_BadBook yhlD_BadBook yhhvs_BadBook yhhfile_BadBook yhlc_BadBook yhmro_BadBook yany yhsup_BadBook yhsb_BadBook yhexi_BadBook yhfl_BadBook (PySem.W.mg_none_of X G ysup) ytop yhT_BadBook yhhb_BadBook ca_BadBook yhk2_BadBook, fun C h => by cases ca_BadBook.symm.trans h; exact ⟨⟨xg_BadBook, xh_BadBook, xs_BadBook, xd_BadBook⟩, xn_BadBook_error⟩, kx2_of (PySem.W.mg_of X G xa_TooMany) E_TooMany yhiC_TooMany yhtI_TooMany yhlC_TooMany yhvb_TooMany yhsa_TooMany yhlI_TooMany yhhcd_TooMany yhlD_TooMany yhhvs_TooMany yhhfile_TooMany yhlc_TooMany yhmro_TooMany yany yhsup_TooMany yhsb_TooMany yhexi_TooMany yhfl_TooMany (PySem.W.mg_none_of X G ysup) ytop yhT_TooMany yhhb_TooMany ca_TooMany yhk2_TooMany, fun C h => by cases ca_TooMany.symm.trans h; exact ⟨⟨xg_TooMany, xh_TooMany, xs_TooMany, xd_TooMany⟩, xn_TooMany_limit⟩, kx2_of (PySem.W.mg_of X G xa_Unlevel) E_Unlevel yhiC_Unlevel yhtI_Unlevel yhlC_Unlevel yhvb_Unlevel yhsa_Unlevel yhlI_Unlevel yhhcd_Unlevel yhlD_Unlevel yhhvs_Unlevel yhhfile_Unlevel yhlc_Unlevel yhmro_Unlevel yany yhsup_Unlevel yhsb_Unlevel yhexi_Unlevel yhfl_Unlevel (PySem.W.mg_none_of X G ysup) ytop yhT_Unlevel yhhb_Unlevel ca_Unlevel yhk2_Unlevel, fun C h => by cases ca_Unlevel.symm.trans h; exact ⟨⟨xg_Unlevel, xh_Unlevel, xs_Unlevel, xd_Unlevel⟩, xn_Unlevel_pair⟩, kx2_of (PySem.W.mg_of X G xa_NoVersion) E_NoVersion yhiC_NoVersion yhtI_NoVersion yhlC_NoVersion yhvb_NoVersion yhsa_NoVersion yhlI_NoVersion yhhcd_NoVersion yhlD_NoVersion yhhvs_NoVersion yhhfile_NoVersion yhlc_NoVersion yhmro_NoVersion yany yhsup_NoVersion yhsb_NoVersion yhexi_NoVersion yhfl_NoVersion (PySem.W.mg_none_of X G ysup) ytop yhT_NoVersion yhhb_NoVersion ca_NoVersion yhk2_NoVersion, fun C h => by cases ca_NoVersion.symm.trans h; exact ⟨⟨xg_NoVersion, xh_NoVersion, xs_NoVersion, xd_NoVersion⟩, xn_NoVersion_given⟩, kx2_of (PySem.W.mg_of X G xa_BadLog) E_BadLog yhiC_BadLog yhtI_BadLog yhlC_BadLog yhvb_BadLog yhsa_BadLog yhlI_BadLog yhhcd_BadLog yhlD_BadLog yhhvs_BadLog yhhfile_BadLog yhlc_BadLog yhmro_BadLog yany yhsup_BadLog yhsb_BadLog yhexi_BadLog yhfl_BadLog (PySem.W.mg_none_of X G ysup) ytop yhT_BadLog yhhb_BadLog ca_BadLog yhk2_BadLog, fun C h => by cases ca_BadLog.symm.trans h; exact ⟨⟨xg_BadLog, xh_BadLog, xs_BadLog, xd_BadLog⟩, xn_BadLog_place⟩⟩
  refine ⟨PySem.W.fnOf "law" "law" (defArgs s_law) (defBody s_law) (defScope s_law) .none kV9 dc9 pm9 an9 cd9 ct9, fun s v => .of_eq rfl, fun base _ _ => ?_⟩
  have F0 := fun_mk (st := s__law_deck) l0 c0 k0
  have h0 : Kn P w K mg base 1 "_law_deck" s__law_deck ["script"] d__law_deck := ⟨_, _, ok__law_deck Z  F0, PySem.W.mg_of X G a0, F0, F0.binds fun _ _ _ _ _ _ us hl => match us, hl with | [_], _ => rfl⟩
  have F1 := fun_mk (st := s__law_draw) l1 c1 k1
  have h1 : Kn P w K mg base 1 "_law_draw" s__law_draw ["deck", "many"] d__law_draw := ⟨_, _, ok__law_draw Z  F1, PySem.W.mg_of X G a1, F1, F1.binds fun _ _ _ _ _ _ us hl => match us, hl with | [_, _], _ => rfl⟩
  have F2 := fun_mk (st := s__law_pick) l2 c2 k2
  have h2 : Kn P w K mg base 2 "_law_pick" s__law_pick ["deck", "some"] d__law_pick := ⟨_, _, ok__law_pick Z h1 F2, PySem.W.mg_of X G a2, F2, F2.binds fun _ _ _ _ _ _ us hl => match us, hl with | [_, _], _ => rfl⟩
  have F3 := fun_mk (st := s__law_any_r2) l5 c5 k5
  have h3 : Kn P w K mg base 3 "_law_any" s__law_any_r2 ["deck", "deep"] d__law_any_r2 := ⟨_, _, ok__law_any_r2 Z h1 h2 F3, PySem.W.mg_of X G a5, F3, F3.binds fun _ _ _ _ _ _ us hl => match us, hl with | [_, _], _ => rfl⟩
  have F4 := fun_mk (st := s__law_any_r1) l5 c5 k5
  have h4 : Kn P w K mg base 4 "_law_any" s__law_any_r1 ["deck", "deep"] d__law_any_r1 := ⟨_, _, ok__law_any_r1 Z h1 h2 h3 F4, PySem.W.mg_of X G a5, F4, F4.binds fun _ _ _ _ _ _ us hl => match us, hl with | [_, _], _ => rfl⟩
  have F5 := fun_mk (st := s__law_any) l5 c5 k5
  have h5 : Kn P w K mg base 5 "_law_any" s__law_any ["deck", "deep"] d__law_any := ⟨_, _, ok__law_any Z h1 h2 h4 F5, PySem.W.mg_of X G a5, F5, F5.binds fun _ _ _ _ _ _ us hl => match us, hl with | [_, _], _ => rfl⟩
  have F6 := fun_mk (st := s__law_made) l6 c6 k6
  have h6 : Kn P w K mg base 3 "_law_made" s__law_made ["way", "thing", "is_named"] d__law_made := ⟨_, _, ok__law_made Z  F6, PySem.W.mg_of X G a6, F6, F6.binds fun _ _ _ _ _ _ us hl => match us, hl with | [_, _, _], _ => rfl⟩
  have F7 := fun_mk (st := s__law_is_kind) l7 c7 k7
  have h7 : Kn P w K mg base 1 "_law_is_kind" s__law_is_kind ["way", "made"] d__law_is_kind := ⟨_, _, ok__law_is_kind Z  F7, PySem.W.mg_of X G a7, F7, F7.binds fun _ _ _ _ _ _ us hl => match us, hl with | [_, _], _ => rfl⟩
  have F8 := fun_mk (st := s__law_bare) l8 c8 k8
  have h8 : Kn P w K mg base 1 "_law_bare" s__law_bare ["way"] d__law_bare := ⟨_, _, ok__law_bare Z  F8, PySem.W.mg_of X G a8, F8, F8.binds fun _ _ _ _ _ _ us hl => match us, hl with | [_], _ => rfl⟩
  have F9 := fun_mk (st := s_law) l9 c9 k9
  exact ok_law Z h0 h5 h1 h6 h7 h8 F9
end K54
set_option Elab.async false
set_option linter.all false
set_option maxRecDepth 100000
namespace Yq
open PySem PySem.Spec L2 L3 Sh Wm
structure Wq (w k : Nat) (x : Dt) : Prop where
  ex : ∃ y, pd x = some y ∧ y.showable = true ∧ y.leavesShort 130 = true ∧ y.weight ≤ w ∧ y.depth ≤ k
structure WqA (w k : Nat) (xs : List Dt) : Prop where
  ex : ∃ ys, pds xs = some ys ∧ PyData.showableAll ys = true ∧ PyData.leavesShortAll 130 ys = true ∧ PyData.weightAll ys ≤ w ∧ PyData.depthAll ys ≤ k
theorem Wq.mono {w w' k k' : Nat} {x : Dt} (h : Wq w k x) (hw : w ≤ w') (hk : k ≤ k') : Wq w' k' x := by
  obtain ⟨y, h1, h2, h3, h4, h5⟩ := h.ex
  exact ⟨y, h1, h2, h3, by omega, by omega⟩
theorem WqA.mono {w w' k k' : Nat} {x : List Dt} (h : WqA w k x) (hw : w ≤ w') (hk : k ≤ k') : WqA w' k' x := by
  obtain ⟨y, h1, h2, h3, h4, h5⟩ := h.ex
  exact ⟨y, h1, h2, h3, by omega, by omega⟩
theorem wq_nil : WqA 0 0 [] := ⟨[], rfl, rfl, rfl, by simp [PyData.weightAll], by simp [PyData.depthAll]⟩
theorem wq_cons {w w' k : Nat} {x : Dt} {l : List Dt} (h : Wq w k x) (g : WqA w' k l) : WqA (w + 1 + w') k (x :: l) := by
  obtain ⟨y, h1, h2, h3, h4, h5⟩ := h.ex
  obtain ⟨ys, g1, g2, g3, g4, g5⟩ := g.ex
  refine ⟨y :: ys, by simp [pds, h1, g1], by simp [PyData.showableAll, h2, g2], by simp [PyData.leavesShortAll, h3, g3], ?_, ?_⟩
  · simp only [PyData.weightAll]
    omega
  · simp only [PyData.depthAll]
    omega
theorem wq_one {w k : Nat} {x : Dt} (h : Wq w k x) : WqA (w + 1) k [x] := (wq_cons h (wq_nil.mono (Nat.le_refl _) (Nat.zero_le _))).mono (by omega) (Nat.le_refl _)
theorem wq_all {w k : Nat} : ∀ {l : List Dt}, (∀ x ∈ l, Wq w k x) → WqA (l.length * (w + 1)) k l
  | [], _ => wq_nil.mono (by omega) (Nat.zero_le _)
  | x :: l, h => (wq_cons (h x List.mem_cons_self) (wq_all fun y hy => h y (List.mem_cons_of_mem _ hy))).mono (by rw [List.length_cons, Nat.succ_mul]; omega) (Nat.le_refl _)
theorem wq_lst {w k : Nat} {l : List Dt} (h : WqA w k l) : Wq w (k + 1) (.lst l) := by
  obtain ⟨ys, g1, g2, g3, g4, g5⟩ := h.ex
  refine ⟨.list ys, by simp [pd, g1], by simp [PyData.showable, g2], by simp [PyData.leavesShort, g3], by simp only [PyData.weight]; exact g4, by simp only [PyData.depth]; omega⟩
theorem wq_tup {w k : Nat} {l : List Dt} (h : WqA w k l) : Wq w (k + 1) (.tup l) := by
  obtain ⟨ys, g1, g2, g3, g4, g5⟩ := h.ex
  refine ⟨.tuple ys, by simp [pd, g1], by simp [PyData.showable, g2], by simp [PyData.leavesShort, g3], by simp only [PyData.weight]; exact g4, by simp only [PyData.depth]; omega⟩
/-- a dict: its keys are short -/
theorem wq_dic {w k : Nat} {ks : List Key} {l : List Dt} (hl : ks.length = l.length) (hk : ∀ q ∈ ks, (keyP q).showable = true ∧ (keyP q).leavesShort 130 = true ∧ (keyP q).weight ≤ 100 ∧ (keyP q).depth ≤ k) (h : WqA w k l) : Wq (w + 101 * ks.length) (k + 1) (.dic ks l) := by
  obtain ⟨ys, g1, g2, g3, g4, g5⟩ := h.ex
  have l2 : ks.length = ys.length := hl.trans (pds_len g1)
  refine ⟨.dict ((ks.map keyP).zip ys), by simp [pd, g1], ?_, ?_, ?_, ?_⟩
  all_goals clear g1 hl h
  all_goals (induction ks generalizing ys w with
    | nil => cases ys with
      | nil => simp [PyData.showable, PyData.showableKv, PyData.leavesShort, PyData.leavesShortKv, PyData.weight, PyData.weightKv, PyData.depth, PyData.depthKv]
      | cons _ _ => simp at l2
    | cons q ks ih => cases ys with
      | nil => simp at l2
      | cons y ys =>
        have h1 := hk q List.mem_cons_self
        simp only [PyData.showableAll, PyData.leavesShortAll, PyData.weightAll, PyData.depthAll, Bool.and_eq_true] at g2 g3 g4 g5
        have h2 := ih (w := PyData.weightAll ys) (fun q hq => hk q (List.mem_cons_of_mem _ hq)) ys g2.2 g3.2 (Nat.le_refl _) (by omega) (by simpa using l2)
        simp only [PyData.showable, PyData.leavesShort, PyData.weight, PyData.depth] at h2
        simp only [List.map_cons, List.zip_cons_cons, PyData.showable, PyData.showableKv, PyData.leavesShort, PyData.leavesShortKv, PyData.weight, PyData.weightKv, PyData.depth, PyData.depthKv, Bool.and_eq_true, List.length_cons]
        first
          | exact ⟨⟨h1.1, g2.1⟩, h2⟩
          | exact ⟨⟨h1.2.1, g3.1⟩, h2⟩
          | omega)
def wqB (w k : Nat) (x : Dt) : Bool := match pd x with
  | some y => y.showable && (y.leavesShort 130 && (decide (y.weight ≤ w) && decide (y.depth ≤ k)))
  | none => false
theorem wqB_ok {w k : Nat} {x : Dt} (h : wqB w k x = true) : Wq w k x := by
  unfold wqB at h
  split at h
  · rename_i y e
    simp only [Bool.and_eq_true, decide_eq_true_eq] at h
    exact ⟨y, e, h.1, h.2.1, h.2.2.1, h.2.2.2⟩
  · cases h
theorem Wq.ok {w k : Nat} {x : Dt} (h : Wq w k x) (hw : w ≤ 100000) (hk : k ≤ 100) : ∃ y, pd x = some y ∧ OkShowQ y := by
  obtain ⟨y, h1, h2, h3, h4, h5⟩ := h.ex
  refine ⟨y, h1, h2, Nat.le_trans h5 hk, ?_⟩
  have := PyData.shown_le 130 (by omega) y h3
  rw [sizeLine_eq]
  have : (130 + 2) * y.weight ≤ 132 * 100000 := Nat.mul_le_mul (by omega) (by omega)
  omega
@[simp] theorem noL_inj (x : Dt) : noL (inj x) = true := by cases x <;> rfl
@[simp] theorem noL_q (x : Dt) : noL (.q x) = true := rfl
@[simp] theorem tq_q (x : Dt) : tq (.q x) = some x := rfl
theorem tqs_c {t : T} {x : Dt} {ts : List T} {xs : List Dt} (h : tq t = some x) (g : tqs ts = some xs) : tqs (t :: ts) = some (x :: xs) := by
  unfold tqs
  rw [h, g]
theorem w_qlst {r : Ma} {τ : En} {M : Mem} {Q : Kt} (h : r τ M fun ts M1 => ∃ ds, tqs ts = some ds ∧ ds.length ≤ sizeLine ∧ Q (.q (.lst ds)) M1) : mQLst r τ M Q := h
theorem w_qtup {r : Ma} {τ : En} {M : Mem} {Q : Kt} (h : r τ M fun ts M1 => ∃ ds, tqs ts = some ds ∧ ds.length ≤ sizeLine ∧ Q (.q (.tup ds)) M1) : mQTup r τ M Q := h
theorem w_qlc {i : Mi} {g : Mg} {c : Mb} {m : Me} {vs : List Nat} {τ : En} {M : Mem} {Q : Kt} (h : i τ M fun ts M1 => goLcQ g c m (wipeT τ vs) (fun acc M2 => Q (.q (.lst acc)) M2) ts [] M1) : mQLc i g c m vs τ M Q := h
theorem tqM_of {t : T} {x : Dt} {M : Mem} (e : tq t = some x) : tqM t M = some x := by
  cases t with
  | mr n => cases e
  | d x => exact e
  | lr i => cases e
  | scr ns => cases e
  | wt xs => cases e
  | exo a c d e' => cases e
  | q x => exact e
theorem w_qrepr {t : T} {x : Dt} {y : PyData} {M : Mem} {Q : Kt} (e : tq t = some x) (p : pd x = some y) (o : OkShowQ y) (q : Q (.str y.shown) M) : fQRepr [t] M Q := ⟨x, y, tqM_of e, p, o, q⟩
theorem w_qadd {a b : List Dt} {t u : T} {M : Mem} {Q : Kt} (e1 : tq t = some (.lst a)) (e2 : tq u = some (.lst b)) (hl : a.length + b.length ≤ sizeLine) (q : Q (.q (.lst (a ++ b))) M) : oQAdd t u M Q := by
  unfold oQAdd
  rw [e1, e2]
  exact ⟨hl, q⟩
theorem w_qix {a : List Dt} {t : T} {i : Nat} {M : Mem} {Q : Kt} (e : tq t = some (.lst a)) (hi : i < a.length) (q : Q (inj a[i]) M) : oQIx t (.d (.int (i : Int))) M Q := by
  unfold oQIx
  rw [e]
  exact ⟨_, atI_nat (List.getElem?_eq_getElem hi), q⟩
theorem w_qlen {a : List Dt} {t : T} {M : Mem} {Q : Kt} (e : tq t = some (.lst a)) (q : Q (.int a.length) M) : fQLen [t] M Q := by
  unfold fQLen
  simp only [e]
  exact q
theorem lcQ_all {g : Mg} {c : Mb} {m : Me} {τ0 : En} {F : List Dt → Mem → Prop} {ts : List T} {M : Mem} (I : Nat → List Dt → Mem → Prop) (h0 : I 0 [] M)
    (step : ∀ (i : Nat) (acc : List Dt) (M : Mem) (t : T) (R : List Dt → Mem → Prop), ts[i]? = some t → I i acc M → (∀ acc' M', I (i + 1) acc' M' → R acc' M') →
      g t τ0 M fun τ1 M1 => c τ1 M1 fun k M2 => if k = true then m τ1 M2 fun y M3 => ∃ z, tq y = some z ∧ acc.length < sizeLine ∧ R (acc ++ [z]) M3 else R acc M2)
    (done : ∀ acc M, I ts.length acc M → F acc M) : goLcQ g c m τ0 F ts [] M := by
  have key : ∀ (rest : List T) (i : Nat) (acc : List Dt) (M : Mem), ts.drop i = rest → i ≤ ts.length → I i acc M → goLcQ g c m τ0 F rest acc M := by
    intro rest
    induction rest with
    | nil =>
      intro i acc M e hi h
      have : i = ts.length := by
        have := congrArg List.length e
        simp at this
        omega
      subst this
      exact done acc M h
    | cons t rest ih =>
      intro i acc M e hi h
      have hlt : i < ts.length := by
        rcases Nat.lt_or_ge i ts.length with q | q
        · exact q
        · rw [List.drop_eq_nil_of_le q] at e; cases e
      rw [drop_at hlt] at e
      obtain ⟨e1, e2⟩ := List.cons.inj e
      subst e1
      exact step i acc M _ _ (List.getElem?_eq_getElem hlt) h fun acc' M' h' => ih (i + 1) acc' M' e2 hlt h'
  exact key ts 0 [] M rfl (Nat.zero_le _) h0
end Yq
set_option Elab.async false
set_option linter.all false
set_option maxRecDepth 100000
set_option maxHeartbeats 1000000
namespace K54
open PySem PySem.Spec L2 L3 Sh Wm Yq
def rk (k : Nat) (s : Int) : List (Key × T) := [(.inr "deep", .mr k), (.inr "state", .int s)]
@[simp] theorem rk_deep {k : Nat} {s : Int} : lookT (rk k s) (.inr "deep") = some (.mr k) := by
  unfold rk lookT
  rfl
@[simp] theorem rk_state {k : Nat} {s : Int} : lookT (rk k s) (.inr "state") = some (.int s) := by
  unfold rk lookT
  rfl
@[simp] theorem rk_putd {k l : Nat} {s : Int} : putT (rk k s) (.inr "deep") (.mr l) = rk l s := by
  unfold rk putT
  rfl
@[simp] theorem rk_puts {k : Nat} {s r : Int} : putT (rk k s) (.inr "state") (.int r) = rk k r := by
  unfold rk putT
  rfl
@[simp] theorem rk_len {k : Nat} {s : Int} : (rk k s).length = 2 := rfl
structure RI (D : List Cell) : Prop where
  ex : ∃ (k : Nat) (deep : List Int) (s : Int), D[1]? = some (.dct (rk k s)) ∧ D[k]? = some (.lst (deep.map T.int)) ∧ k ≠ 1 ∧ deep.length ≤ 64 ∧ 0 ≤ s ∧ s < 2305843009213693951
theorem sz2 : (2 : Nat) < sizeLine := by rw [sizeLine_eq]; decide
theorem he_nilG {k : Nat} {deep : List Int} {D : List Cell} {L : List (Option (List PyData))} {n : Bool} {Q : Kt} (h : D[k]? = some (.lst (deep.map T.int))) (q : Q (.bl (if n then !deep.isEmpty else deep.isEmpty)) ⟨D, L⟩) : oEq n (.mr k) (.d (.list [])) ⟨D, L⟩ Q := by
  rw [x_eq (a := .list (deep.map .int)) (b := .list []) ?_ rfl (shaped_ints _) (shaped_ints []) (fun _ z => nomatch z), eqv_nil]
  · cases deep <;> exact q
  · unfold now
    simp only [h]
    rw [datas_ints]
    rfl
theorem draw_tail {k : Nat} {deep : List Int} {s many : Int} {D : List Cell} {Q : T → List Cell → Prop} {t2 : Option T} (e1 : D[1]? = some (.dct (rk k s))) (ek : D[k]? = some (.lst (deep.map T.int))) (nk : k ≠ 1) (hdl : deep.length ≤ 64) (hs : 0 ≤ s) (hs2 : s < 2305843009213693951) (h1 : 1 ≤ many) (h2 : many < 18446744073709551616)
    (q : ∀ n D', 0 ≤ n → n < many → RI D' → Q (.int n) D') : b__law_draw_8 { nx := fun _ M => Q .non M.D, rt := fun t M => noL t = true ∧ Q t M.D } [some (.mr 1), some (.int many), t2, none, none] ⟨D, []⟩ := by
  have hD : 1 < D.length := by
    obtain ⟨h, _⟩ := List.getElem?_eq_some_iff.mp e1
    exact h
  refine w_seq ?_
  simp [e1]
  have hm := rang (i := s * 1181783497276652981 + 88172645463325) (j := 2305843009213693951) (by omega)
  generalize (s * 1181783497276652981 + 88172645463325) % 2305843009213693951 = m1 at hm
  refine ⟨by unfold CMul; omega, ?_⟩
  refine w_seq ?_
  simp [e1]
  refine ⟨sz2, ?_⟩
  refine w_seq ?_
  simp
  have hm2 := rang (i := m1 * m1 + 374761393 * m1 + 11) (j := 2305843009213693921) (by omega)
  generalize (m1 * m1 + 374761393 * m1 + 11) % 2305843009213693921 = m2 at hm2
  refine ⟨by unfold CMul; omega, by unfold CMul; omega, ?_⟩
  refine ⟨by unfold CDv; omega, by omega, ?_⟩
  have hf := fun x : Int => rang (i := x) (j := many) (by omega)
  refine q _ _ (hf _).1 (hf _).2 ⟨k, deep, m1, ?_, ?_, nk, hdl, hm.1, hm.2⟩
  · rw [List.getElem?_set_self hD]
  · rw [List.getElem?_set_ne (Ne.symm nk)]
    exact ek
theorem sp_draw {D : List Cell} {many : Int} {Q : T → List Cell → Prop} (hD : RI D) (h1 : 1 ≤ many) (h2 : many < 18446744073709551616) (q : ∀ n D', 0 ≤ n → n < many → RI D' → Q (.int n) D') : d__law_draw [.mr 1, .int many] D Q := by
  have hD' := hD
  obtain ⟨k, deep, s, e1, ek, nk, hdl, hs, hs2⟩ := hD.ex
  refine ⟨rfl, ?_⟩
  have ht := fun (t2 : Option T) => draw_tail (t2 := t2) e1 ek nk hdl hs hs2 h1 h2 q
  refine w_seq (w_if ?_)
  simp
  by_cases hm2 : many < 2
  · exact .inr ⟨hm2, q 0 _ (by omega) (by omega) hD'⟩
  refine .inl ⟨by omega, ?_⟩
  refine w_seq (w_if ?_)
  simp [e1]
  refine he_nilG ek ?_
  by_cases hd : deep = []
  · subst hd
    exact .inl ⟨rfl, ht none⟩
  · have hk : k < D.length := (List.getElem?_eq_some_iff.mp ek).1
    obtain ⟨d0, x, rfl⟩ : ∃ d0 x, deep = d0 ++ [x] := ⟨deep.dropLast, deep.getLast hd, (List.dropLast_concat_getLast hd).symm⟩
    refine .inr ⟨by simp, ?_⟩
    refine w_seq ?_
    simp [e1, ek]
    refine w_seq (w_if ?_)
    simp
    have hp := fun x : Int => rang (i := x) (j := many) (by omega)
    have hl2 : d0.length + 1 ≤ 64 := by simpa using hdl
    by_cases hx : x < many
    · refine .inl ⟨hx, by omega, q _ _ (hp x).1 (hp x).2 ⟨k, d0, s, ?_, ?_, nk, by omega, hs, hs2⟩⟩
      · rw [List.getElem?_set_ne nk]
        exact e1
      · rw [List.getElem?_set_self hk]
    · refine .inr ⟨by omega, ?_⟩
      rw [List.getElem?_set_ne nk, e1]
      refine ⟨_, rk_deep, ⟨_, List.getElem?_set_self hk⟩, by unfold CDv; omega, ?_⟩
      unfold fApp
      simp [hk]
      refine ⟨sz64 (by omega), by omega, q _ _ (hp x).1 (hp x).2 ⟨k, d0 ++ [x / many], s, ?_, ?_, nk, by simpa using hl2, hs, hs2⟩⟩
      · rw [List.getElem?_set_ne nk]
        exact e1
      · rw [List.getElem?_set_self hk]
        simp
theorem deck_tail {k : Nat} {deep : List Int} {s n : Int} {D : List Cell} {E : Es} {a y : Option T} (e1 : D[1]? = some (.dct (rk k s))) (hs : 0 ≤ s)
    (q : ∀ r w, 0 ≤ r → r < 2305843009213693951 → E.nx [a, some (.mr 1), some (.int n), some w] ⟨D.set 1 (.dct (rk k r)), []⟩) : b__law_deck_2 E [a, some (.mr 1), some (.int n), y] ⟨D, []⟩ := by
  refine w_seq ?_
  simp
  refine ⟨by unfold CMul; omega, ?_⟩
  simp [e1]
  generalize 2 * (if n < 0 then -n else n) + (if n < 0 then 1 else 0) = w
  have hm := rang (i := (s + w + 1) * 1181783497276652981 + 521288629) (j := 2305843009213693951) (by omega)
  generalize ((s + w + 1) * 1181783497276652981 + 521288629) % 2305843009213693951 = m1 at hm
  refine ⟨by unfold CMul; omega, ?_⟩
  refine ⟨sz2, ?_⟩
  exact q m1 _ hm.1 hm.2
theorem sp_deck {ns : List Int} {Q : T → List Cell → Prop} (h : ns.length ≤ 63) (q : ∀ D, RI D → Q (.mr 1) D) : d__law_deck [.scr ns] [] Q := by
  have h0 : ns.length ≤ sizeLine := sz64' (by omega)
  refine ⟨rfl, w_seq ?_⟩
  simp [mDisp, goD, cut63 h]
  refine ⟨by decide, ?_⟩
  refine w_seq (w_for ?_)
  simp [cut63 h]
  refine for_all (fun i τ M => M.L = [] ∧ (∃ (k : Nat) (deep : List Int) (s : Int), M.D[1]? = some (.dct (rk k s)) ∧ M.D[k]? = some (.lst (deep.map T.int)) ∧ k ≠ 1 ∧ deep.length ≤ i ∧ 0 ≤ s ∧ s < 2305843009213693951) ∧ ∃ x y, τ = [some (.scr ns), some (.mr 1), x, y]) ⟨rfl, ⟨0, [], 362974611 + ns.length, rfl, rfl, by omega, by simp, by omega, by omega⟩, _, _, rfl⟩ ?_ ?_
  · rintro i τ ⟨D, L⟩ t R ht ⟨rfl, ⟨k, deep, s, e1, ek, nk, hd, hs, hs2⟩, x, y, rfl⟩ kk
    have hi : i < ns.length := by
      obtain ⟨h, _⟩ := List.getElem?_eq_some_iff.mp ht
      simpa using h
    have et : t = T.int ns[i] := by
      have ht2 : (ns.map (T.d ∘ PyData.int))[i]? = some t := by simpa using ht
      rw [List.getElem?_map, List.getElem?_eq_getElem hi] at ht2
      exact (Option.some.inj ht2).symm
    subst et
    generalize ns[i] = n
    simp
    refine w_seq (w_if ?_)
    simp [CPow]
    have e1 : D[1]? = some (.dct (rk k s)) := e1
    have ek : D[k]? = some (.lst (deep.map T.int)) := ek
    have h1 : 1 < D.length := (List.getElem?_eq_some_iff.mp e1).1
    have hk : k < D.length := (List.getElem?_eq_some_iff.mp ek).1
    by_cases hn : (if n < 0 then -n else n) < 1000000000000000000
    · refine .inl ⟨hn, ?_⟩
      refine deck_tail (deep := deep) e1 hs fun r w r0 r1 => kk _ _ ⟨rfl, ⟨k, deep, r, ?_, ?_, nk, by omega, r0, r1⟩, _, _, rfl⟩
      · exact List.getElem?_set_self h1
      · show (D.set 1 _)[k]? = _
        rw [List.getElem?_set_ne (Ne.symm nk)]
        exact ek
    · refine .inr ⟨by omega, sz1, ?_⟩
      rw [e1]
      refine ⟨_, rk_deep, ?_⟩
      refine ⟨_, k, _, rfl, rfl, ek, by simp; exact sz64' (by omega), ?_⟩
      generalize (if n < 0 then -n else n) = v
      have e2 : (D ++ [Cell.lst (List.map T.d [PyData.int v] ++ deep.map T.int)])[1]? = some (.dct (rk k s)) := by
        rw [List.getElem?_append_left h1]
        exact e1
      dsimp only
      rw [e2]
      refine ⟨rfl, sz2, ?_⟩
      rw [rk_putd]
      have e3 : ((D ++ [Cell.lst (List.map T.d [PyData.int v] ++ deep.map T.int)]).set 1 (.dct (rk D.length s)))[1]? = some (.dct (rk D.length s)) := by
        rw [List.getElem?_set_self (by simp; omega)]
      have e4 : ((D ++ [Cell.lst (List.map T.d [PyData.int v] ++ deep.map T.int)]).set 1 (.dct (rk D.length s)))[D.length]? = some (.lst ((v :: deep).map T.int)) := by
        rw [List.getElem?_set_ne (by omega), List.getElem?_append_right (Nat.le_refl _)]
        simp
      generalize ((D ++ [Cell.lst (List.map T.d [PyData.int v] ++ deep.map T.int)]).set 1 (.dct (rk D.length s))) = D3 at e3 e4
      refine deck_tail (deep := v :: deep) e3 hs fun r w r0 r1 => kk _ _ ⟨rfl, ⟨D.length, v :: deep, r, ?_, ?_, by omega, by simp; omega, r0, r1⟩, _, _, rfl⟩
      · exact List.getElem?_set_self (List.getElem?_eq_some_iff.mp e3).1
      · show (D3.set 1 _)[D.length]? = _
        rw [List.getElem?_set_ne (by omega)]
        exact e4
  · rintro τ ⟨D, L⟩ ⟨rfl, ⟨k, deep, s, e1, ek, nk, hd, hs, hs2⟩, x, y, rfl⟩
    simp
    refine q D ⟨k, deep, s, e1, ek, nk, ?_, hs, hs2⟩
    simp at hd
    omega
theorem sp_pick {D : List Cell} {xs : List Dt} {Q : T → List Cell → Prop} (hD : RI D) (h1 : xs ≠ []) (h2 : xs.length < 100000) (q : ∀ x D', x ∈ xs → RI D' → Q (inj x) D') : d__law_pick [.mr 1, .q (.lst xs)] D Q := by
  have hl : 0 < xs.length := List.length_pos_iff.mpr h1
  refine ⟨rfl, ?_⟩
  show b__law_pick_0 _ _ _
  simp only [x_ret, x_op, x_call, x_acons, x_anil, x_var, x_def, List.getElem?_cons_succ, List.getElem?_cons_zero]
  refine ⟨_, rfl, _, rfl, _, rfl, ?_⟩
  refine w_qlen rfl ?_
  refine ⟨by simp, ?_⟩
  refine sp_draw hD (by omega) (by omega) fun n D' n0 n1 hD' => ?_
  obtain ⟨k, rfl⟩ : ∃ k : Nat, n = k := ⟨n.toNat, by omega⟩
  have hk : k < xs.length := by omega
  refine w_qix rfl hk ?_
  exact ⟨noL_inj _, q _ _ (List.getElem_mem hk) hD'⟩
def plainL : List Dt := [.non, .bl true, .bl false, .int 0, .int 1, .int (-1), .int 1000000000000000000000000000000000000000000000000000000000000,
  .int (-1000000000000000000000000000000000000000000000000000000000000000000000000000000000000000000000000000000000000000000000000), .str (Str.ofString ""), .str (Str.ofString "a"), .str (repS (Str.ofString "x\n") 40), .tup [], .lst [], .dic [] [], .tup [.int 4, .int 4]]
def plainR : List Dt := [.lst [.int 1, .lst [.int 2]], .dic [.inr (Str.ofString "a")] [.int 1], .tup [.str (Str.ofString "kind"), .int 3], .str (Str.ofString "form"), .tup [.int 0, .int 1], .tup [.str (Str.ofString "kind"), .lst [.int 0]], .int 256, .int 100, .int 1000000000000000000000000000000]
theorem plain_ok : (plainL ++ plainR).all (wqB 400 4) = true := by decide +kernel
theorem plain_vals {E : Es} {D : List Cell} {b c d e f : Option T} (hD : RI D) (q : ∀ x D', Wq 400 4 x → RI D' → E.rt (inj x) ⟨D', []⟩) : b__law_any_r2_1 E [some (.mr 1), b, c, d, e, f] ⟨D, []⟩ := by
  refine w_seq (w_set (w_qlst ?_))
  simp [mQLst, mQTup, mQDic, goQD, CPow, oMulS, oMulW, oI, CBig, tqs, tq, up, ups]
  refine ⟨by decide, ⟨by decide, by decide, by rw [sizeLine_eq]; decide⟩, two_ok, sz64' (by decide), sz1, two_ok, _, rfl, two_ok, sz1, two_ok, sz64' (by decide), ?_⟩
  refine w_qadd (a := plainL) (b := plainR) rfl rfl (sz64' (by decide)) ⟨rfl, ?_⟩
  refine sp_pick hD (by decide) (by decide) fun x D' hx hD' => ?_
  have := plain_ok
  rw [List.all_eq_true] at this
  exact q x D' (wqB_ok (this x hx)) hD'
theorem sp_any2 {D : List Cell} {Q : T → List Cell → Prop} (hD : RI D) (q : ∀ x D', Wq 400 4 x → RI D' → Q (inj x) D') : d__law_any_r2 [.mr 1, .int 0] D Q := by
  refine ⟨rfl, ?_⟩
  show b__law_any_r2_5 _ _ _
  refine w_seq ?_
  simp
  refine sp_draw hD (by omega) (by omega) fun n D1 n0 n1 hD1 => ?_
  refine w_seq (w_if ?_)
  simp
  refine .inr ⟨by omega, ?_⟩
  exact plain_vals hD1 fun x D' w h => ⟨noL_inj _, q x D' w h⟩
theorem inner_vals {E : Es} {D : List Cell} {c : Int} {d e f : Option T} {m : Me} {w k deep : Nat} {b : Option T} (hb : b = some (.int deep)) (hD : RI D) (hw : 400 ≤ w)
    (hm : ∀ {D : List Cell} {e : Option T} {R : Kt} {c d : Option T} {j : T}, RI D → (∀ x D', Wq w k x → RI D' → R (inj x) ⟨D', []⟩) → m [some (.mr 1), some (.int deep), c, d, e, some j] ⟨D, []⟩ R)
    (q : ∀ x D', Wq (4 * (w + 1) + 200) (k + 2) x → RI D' → E.rt (inj x) ⟨D', []⟩) :
    mSeq (mSet 4 (mQLc (iRange (aCons (mCall (fDef d__law_draw) (aCons (mVar 0) (aCons (mC (.int 4)) aNil))) aNil)) (gN 5) bYes m [5])) b__law_any_2 E [some (.mr 1), b, some (.int c), d, e, f] ⟨D, []⟩ := by
  subst hb
  refine w_seq (w_set (w_qlc ?_))
  simp [wipeT]
  refine sp_draw hD (by omega) (by omega) fun n D1 n0 n1 hD1 => ?_
  refine ⟨⟨by omega, by omega⟩, ?_⟩
  refine lcQ_all (fun i acc M => M.L = [] ∧ RI M.D ∧ acc.length = i ∧ ∀ x ∈ acc, Wq w k x) ⟨rfl, hD1, rfl, fun x hx => nomatch hx⟩ ?_ ?_
  · rintro i acc ⟨D, L⟩ t R ht ⟨rfl, hD, hl, ha⟩ kk
    obtain ⟨hi, et⟩ := range_at (by simpa using ht)
    subst et
    have hi4 : i < 4 := by omega
    simp
    refine hm hD fun x D' hx hD' => ?_
    refine ⟨x, tq_inj x, sz64 (by omega), kk _ _ ⟨rfl, hD', by simp [hl], fun y hy => ?_⟩⟩
    rcases List.mem_append.mp hy with h | h
    · exact ha y h
    · rw [List.mem_singleton.mp h]
      exact hx
  · rintro acc ⟨D, L⟩ ⟨rfl, hD, hl, ha⟩
    have hl4 : acc.length < 4 := by
      rw [hl]
      simp [rangeT]
      omega
    have wa : WqA (4 * (w + 1)) k acc := (wq_all ha).mono (Nat.mul_le_mul_right _ (by omega)) (Nat.le_refl _)
    by_cases c1 : c < 11
    · refine .inr ⟨c1, ?_⟩
      show E.rt (.q (.tup acc)) _
      exact q (.tup acc) _ ((wq_tup wa).mono (by omega) (by omega)) hD
    · refine .inl ⟨by omega, ?_⟩
      by_cases c2 : c = 11
      · exact .inr ⟨c2, q (.lst acc) _ ((wq_lst wa).mono (by omega) (by omega)) hD⟩
      · refine .inl ⟨c2, ?_⟩
        simp only [mQDic, goQD, x_c, x_var, List.getElem?_cons_succ, List.getElem?_cons_zero]
        refine ⟨_, rfl, _, rfl, _, rfl, ⟨by simp, by simp⟩, ?_⟩
        refine q (.dic [.inr "b"] [.lst acc]) _ ?_ hD
        exact (wq_dic (w := 4 * (w + 1) + 1) (k := k + 1) rfl (fun q hq => by
          rw [List.mem_singleton.mp hq]
          exact ⟨by decide, by decide, by decide, Nat.zero_le _⟩) (wq_one (wq_lst wa))).mono (by simp <;> omega) (Nat.le_refl _)
theorem sp_any1 {D : List Cell} {Q : T → List Cell → Prop} (hD : RI D) (q : ∀ x D', Wq 2000 6 x → RI D' → Q (inj x) D') : d__law_any_r1 [.mr 1, .int 1] D Q := by
  refine ⟨rfl, ?_⟩
  show b__law_any_r1_5 _ _ _
  refine w_seq ?_
  simp
  refine sp_draw hD (by omega) (by omega) fun n D1 n0 n1 hD1 => ?_
  refine w_seq (w_if ?_)
  simp
  by_cases c : n < 9
  · refine .inr ⟨c, ?_⟩
    exact plain_vals hD1 fun x D' w h => ⟨noL_inj _, q x D' (w.mono (by omega) (by omega)) h⟩
  · refine .inl ⟨by omega, ?_⟩
    refine inner_vals (deep := 1) (w := 400) (k := 4) rfl hD1 (by omega) (fun hD q => ?_) fun x D' w h => ⟨noL_inj _, q x D' (w.mono (by omega) (by omega)) h⟩
    simp
    exact sp_any2 hD q
theorem sp_any {D : List Cell} {Q : T → List Cell → Prop} (hD : RI D) (q : ∀ x D', Wq 9000 8 x → RI D' → Q (inj x) D') : d__law_any [.mr 1, .int 2] D Q := by
  refine ⟨rfl, ?_⟩
  show b__law_any_5 _ _ _
  refine w_seq ?_
  simp
  refine sp_draw hD (by omega) (by omega) fun n D1 n0 n1 hD1 => ?_
  refine w_seq (w_if ?_)
  simp
  by_cases c : n < 9
  · refine .inr ⟨c, ?_⟩
    exact plain_vals hD1 fun x D' w h => ⟨noL_inj _, q x D' (w.mono (by omega) (by omega)) h⟩
  · refine .inl ⟨by omega, ?_⟩
    refine inner_vals (deep := 2) (w := 2000) (k := 6) rfl hD1 (by omega) (fun hD q => ?_) fun x D' w h => ⟨noL_inj _, q x D' (w.mono (by omega) (by omega)) h⟩
    simp
    exact sp_any1 hD q
theorem w_qisc {tab : List (Str × Bool)} {c : Str} {fs : List Str} {xs : List Dt} {r : Bool} {i : Nat} {τ : En} {M : Mem} {Q : Kt} (ht : τ[i]? = some (some (.q (.obj c fs xs)))) (hr : tab.lookup c = some r) (hl : fs.length = xs.length) (q : Q (.bl r) M) : mQIsc tab (mVar i) τ M Q := by
  refine ⟨_, ht, c, fs, xs, r, rfl, ?_, hl, q⟩
  clear q ht
  induction tab with
  | nil => cases hr
  | cons p tab ih =>
    obtain ⟨a, b⟩ := p
    rw [List.lookup_cons] at hr
    split at hr
    · rename_i e
      cases hr
      rw [eq_of_beq e]
      exact List.mem_cons_self
    · exact List.mem_cons_of_mem _ (ih hr)
theorem w_qisv {tab : List (Str × Bool)} {c : Str} {fs : List Str} {xs : List Dt} {r : Bool} {i : Nat} {T0 : String} {τ : En} {M : Mem} {Q : Kt} (ht : τ[i]? = some (some (.q (.obj c fs xs)))) (hr : tab.lookup c = some r) (hl : fs.length = xs.length) (q : Q (.bl r) M) : mQIsi T0 tab (mVar i) τ M Q := by
  obtain ⟨t, h1, c', fs', xs', r', h2, h3, h4, h5⟩ := w_qisc (tab := tab) (Q := fun t M' => t = .bl r ∧ M' = M) ht hr hl ⟨rfl, rfl⟩
  rw [ht] at h1
  cases h1
  cases h2
  obtain ⟨h5, _⟩ := h5
  cases h5
  exact ⟨_, ht, _, rfl, .inr ⟨c, fs, xs, r, rfl, h3, hl, q⟩⟩
theorem shaped_bools (l : List Bool) : SeqAt.shaped (.list (l.map .bool)) = true := by
  have h1 : ∀ l : List Bool, PyData.canLayAll0 (l.map .bool) = true := by
    intro l
    induction l with
    | nil => rfl
    | cons x l ih => simp [PyData.canLayAll0, PyData.canLay0, ih]
  have h2 : ∀ l : List Bool, PyData.depthAll (l.map .bool) ≤ 1 := by
    intro l
    induction l with
    | nil => simp [PyData.depthAll]
    | cons x l ih =>
      simp [PyData.depthAll, PyData.depth]
      omega
  unfold SeqAt.shaped
  rw [Bool.and_eq_true]
  refine ⟨by simp [PyData.canLay0, h1], decide_eq_true ?_⟩
  have := h2 l
  simp only [PyData.depth]
  omega
theorem ik_end {D : List Cell} {Q : T → List Cell → Prop} {c : Str} {fs : List Str} {xs : List Dt} {l : Nat} {rs : List PyData} (hl : fs.length = xs.length) (hr : rs = (List.range 12).map fun (k : Nat) => PyData.bool (decide ((k : Int) = l))) (h1 : qt_FieldsError.lookup c = some true) (h2 : qt_ValueError.lookup c = some true) (q : Q (.bl true) D) :
    b__law_is_kind_0 { nx := fun _ M => Q .non M.D, rt := fun t M => noL t = true ∧ Q t M.D } [some (.int l), some (.q (.obj c fs xs)), some (.lst rs), none] ⟨D, []⟩ := by
  refine w_ret (w_and ?_)
  simp only [x_op, x_var, List.getElem?_cons_succ, List.getElem?_cons_zero]
  refine ⟨_, rfl, w_lc ?_⟩
  simp [wipeT]
  refine lc_all (fun i acc M => M = ⟨D, []⟩ ∧ acc = (List.range i).map fun (k : Nat) => PyData.bool (decide ((k : Int) = l))) ⟨rfl, rfl⟩ ?_ ?_
  · rintro i acc M t R ht ⟨rfl, rfl⟩ k
    obtain ⟨hi, et⟩ := range_at (by simpa using ht)
    subst et
    simp
    refine ⟨sz64 (by omega), k _ _ ⟨rfl, ?_⟩⟩
    rw [List.range_succ, List.map_append]
    rfl
  · rintro acc M ⟨rfl, rfl⟩
    have e12 : (rangeT 12).length = 12 := by simp [rangeT]
    rw [e12, ← hr]
    have sh : SeqAt.shaped (.list rs) = true := by
      rw [hr, show (List.range 12).map (fun (k : Nat) => PyData.bool (decide ((k : Int) = l))) = ((List.range 12).map fun (k : Nat) => decide ((k : Int) = l)).map PyData.bool from by rw [List.map_map]; rfl]
      exact shaped_bools _
    rw [x_eq (a := .list rs) (b := .list rs) rfl rfl sh sh (fun _ z => nomatch z), PySem.SeqAt.eqv_refl _ (SeqAt.canLay_of_shaped sh)]
    show mQIsc _ _ _ _ _
    refine w_qisc rfl h1 hl ?_
    refine w_qisv rfl h2 hl ?_
    exact ⟨rfl, q⟩
theorem ik_0 {D : List Cell} {Q : T → List Cell → Prop} {fs : List Str} {xs : List Dt} (hl : fs.length = xs.length) (q : Q (.bl true) D) : d__law_is_kind [.int 0, .q (.obj "BadBook" fs xs)] D Q := by
  refine ⟨rfl, ?_⟩
  show b__law_is_kind_4 _ _ _
  refine w_seq (w_set (w_lst ?_))
  simp only [x_acons, x_anil]
  refine w_qisc rfl rfl hl (w_qisc rfl rfl hl (w_qisc rfl rfl hl (w_qisc rfl rfl hl ⟨sz4', ?_⟩)))
  show b__law_is_kind_3 _ [some (.int 0), some (.q (.obj "BadBook" fs xs)), some (.lst [.bool true, .bool false, .bool false, .bool false]), none] _
  refine w_seq (w_set ?_)
  simp only [x_op, x_var, x_lst, x_acons, x_anil, List.set_cons_succ, List.set_cons_zero, List.getElem?_cons_succ, List.getElem?_cons_zero]
  refine ⟨_, rfl, w_qisc rfl rfl hl (w_qisc rfl rfl hl (w_qisc rfl rfl hl ⟨sz3, ?_⟩))⟩
  refine ⟨sz64' (by decide), ?_⟩
  show b__law_is_kind_2 _ [some (.int 0), some (.q (.obj "BadBook" fs xs)), some (.lst [.bool true, .bool false, .bool false, .bool false, .bool false, .bool false, .bool false]), none] _
  refine w_seq (w_set ?_)
  simp only [x_op, x_var, x_lst, x_acons, x_anil, List.set_cons_succ, List.set_cons_zero, List.getElem?_cons_succ, List.getElem?_cons_zero]
  refine ⟨_, rfl, w_qisc rfl rfl hl (w_qisc rfl rfl hl (w_qisc rfl rfl hl ⟨sz3, ?_⟩))⟩
  refine ⟨sz64' (by decide), ?_⟩
  show b__law_is_kind_1 _ [some (.int 0), some (.q (.obj "BadBook" fs xs)), some (.lst [.bool true, .bool false, .bool false, .bool false, .bool false, .bool false, .bool false, .bool false, .bool false, .bool false]), none] _
  refine w_seq (w_set ?_)
  simp only [x_op, x_var, x_lst, x_acons, x_anil, List.set_cons_succ, List.set_cons_zero, List.getElem?_cons_succ, List.getElem?_cons_zero]
  refine ⟨_, rfl, w_qisc rfl rfl hl (w_qisc rfl rfl hl ⟨two_ok, ?_⟩)⟩
  refine ⟨sz64' (by decide), ?_⟩
  show b__law_is_kind_0 _ [some (.int 0), some (.q (.obj "BadBook" fs xs)), some (.lst [.bool true, .bool false, .bool false, .bool false, .bool false, .bool false, .bool false, .bool false, .bool false, .bool false, .bool false, .bool false]), none] _
  exact ik_end hl (l := 0) rfl rfl rfl q
theorem ik_1 {D : List Cell} {Q : T → List Cell → Prop} {fs : List Str} {xs : List Dt} (hl : fs.length = xs.length) (q : Q (.bl true) D) : d__law_is_kind [.int 1, .q (.obj "TooMany" fs xs)] D Q := by
  refine ⟨rfl, ?_⟩
  show b__law_is_kind_4 _ _ _
  refine w_seq (w_set (w_lst ?_))
  simp only [x_acons, x_anil]
  refine w_qisc rfl rfl hl (w_qisc rfl rfl hl (w_qisc rfl rfl hl (w_qisc rfl rfl hl ⟨sz4', ?_⟩)))
  show b__law_is_kind_3 _ [some (.int 1), some (.q (.obj "TooMany" fs xs)), some (.lst [.bool false, .bool true, .bool false, .bool false]), none] _
  refine w_seq (w_set ?_)
  simp only [x_op, x_var, x_lst, x_acons, x_anil, List.set_cons_succ, List.set_cons_zero, List.getElem?_cons_succ, List.getElem?_cons_zero]
  refine ⟨_, rfl, w_qisc rfl rfl hl (w_qisc rfl rfl hl (w_qisc rfl rfl hl ⟨sz3, ?_⟩))⟩
  refine ⟨sz64' (by decide), ?_⟩
  show b__law_is_kind_2 _ [some (.int 1), some (.q (.obj "TooMany" fs xs)), some (.lst [.bool false, .bool true, .bool false, .bool false, .bool false, .bool false, .bool false]), none] _
  refine w_seq (w_set ?_)
  simp only [x_op, x_var, x_lst, x_acons, x_anil, List.set_cons_succ, List.set_cons_zero, List.getElem?_cons_succ, List.getElem?_cons_zero]
  refine ⟨_, rfl, w_qisc rfl rfl hl (w_qisc rfl rfl hl (w_qisc rfl rfl hl ⟨sz3, ?_⟩))⟩
  refine ⟨sz64' (by decide), ?_⟩
  show b__law_is_kind_1 _ [some (.int 1), some (.q (.obj "TooMany" fs xs)), some (.lst [.bool false, .bool true, .bool false, .bool false, .bool false, .bool false, .bool false, .bool false, .bool false, .bool false]), none] _
  refine w_seq (w_set ?_)
  simp only [x_op, x_var, x_lst, x_acons, x_anil, List.set_cons_succ, List.set_cons_zero, List.getElem?_cons_succ, List.getElem?_cons_zero]
  refine ⟨_, rfl, w_qisc rfl rfl hl (w_qisc rfl rfl hl ⟨two_ok, ?_⟩)⟩
  refine ⟨sz64' (by decide), ?_⟩
  show b__law_is_kind_0 _ [some (.int 1), some (.q (.obj "TooMany" fs xs)), some (.lst [.bool false, .bool true, .bool false, .bool false, .bool false, .bool false, .bool false, .bool false, .bool false, .bool false, .bool false, .bool false]), none] _
  exact ik_end hl (l := 1) rfl rfl rfl q
theorem ik_2 {D : List Cell} {Q : T → List Cell → Prop} {fs : List Str} {xs : List Dt} (hl : fs.length = xs.length) (q : Q (.bl true) D) : d__law_is_kind [.int 2, .q (.obj "Unlevel" fs xs)] D Q := by
  refine ⟨rfl, ?_⟩
  show b__law_is_kind_4 _ _ _
  refine w_seq (w_set (w_lst ?_))
  simp only [x_acons, x_anil]
  refine w_qisc rfl rfl hl (w_qisc rfl rfl hl (w_qisc rfl rfl hl (w_qisc rfl rfl hl ⟨sz4', ?_⟩)))
  show b__law_is_kind_3 _ [some (.int 2), some (.q (.obj "Unlevel" fs xs)), some (.lst [.bool false, .bool false, .bool true, .bool false]), none] _
  refine w_seq (w_set ?_)
  simp only [x_op, x_var, x_lst, x_acons, x_anil, List.set_cons_succ, List.set_cons_zero, List.getElem?_cons_succ, List.getElem?_cons_zero]
  refine ⟨_, rfl, w_qisc rfl rfl hl (w_qisc rfl rfl hl (w_qisc rfl rfl hl ⟨sz3, ?_⟩))⟩
  refine ⟨sz64' (by decide), ?_⟩
  show b__law_is_kind_2 _ [some (.int 2), some (.q (.obj "Unlevel" fs xs)), some (.lst [.bool false, .bool false, .bool true, .bool false, .bool false, .bool false, .bool false]), none] _
  refine w_seq (w_set ?_)
  simp only [x_op, x_var, x_lst, x_acons, x_anil, List.set_cons_succ, List.set_cons_zero, List.getElem?_cons_succ, List.getElem?_cons_zero]
  refine ⟨_, rfl, w_qisc rfl rfl hl (w_qisc rfl rfl hl (w_qisc rfl rfl hl ⟨sz3, ?_⟩))⟩
  refine ⟨sz64' (by decide), ?_⟩
  show b__law_is_kind_1 _ [some (.int 2), some (.q (.obj "Unlevel" fs xs)), some (.lst [.bool false, .bool false, .bool true, .bool false, .bool false, .bool false, .bool false, .bool false, .bool false, .bool false]), none] _
  refine w_seq (w_set ?_)
  simp only [x_op, x_var, x_lst, x_acons, x_anil, List.set_cons_succ, List.set_cons_zero, List.getElem?_cons_succ, List.getElem?_cons_zero]
  refine ⟨_, rfl, w_qisc rfl rfl hl (w_qisc rfl rfl hl ⟨two_ok, ?_⟩)⟩
  refine ⟨sz64' (by decide), ?_⟩
  show b__law_is_kind_0 _ [some (.int 2), some (.q (.obj "Unlevel" fs xs)), some (.lst [.bool false, .bool false, .bool true, .bool false, .bool false, .bool false, .bool false, .bool false, .bool false, .bool false, .bool false, .bool false]), none] _
  exact ik_end hl (l := 2) rfl rfl rfl q
theorem ik_3 {D : List Cell} {Q : T → List Cell → Prop} {fs : List Str} {xs : List Dt} (hl : fs.length = xs.length) (q : Q (.bl true) D) : d__law_is_kind [.int 3, .q (.obj "NoVersion" fs xs)] D Q := by
  refine ⟨rfl, ?_⟩
  show b__law_is_kind_4 _ _ _
  refine w_seq (w_set (w_lst ?_))
  simp only [x_acons, x_anil]
  refine w_qisc rfl rfl hl (w_qisc rfl rfl hl (w_qisc rfl rfl hl (w_qisc rfl rfl hl ⟨sz4', ?_⟩)))
  show b__law_is_kind_3 _ [some (.int 3), some (.q (.obj "NoVersion" fs xs)), some (.lst [.bool false, .bool false, .bool false, .bool true]), none] _
  refine w_seq (w_set ?_)
  simp only [x_op, x_var, x_lst, x_acons, x_anil, List.set_cons_succ, List.set_cons_zero, List.getElem?_cons_succ, List.getElem?_cons_zero]
  refine ⟨_, rfl, w_qisc rfl rfl hl (w_qisc rfl rfl hl (w_qisc rfl rfl hl ⟨sz3, ?_⟩))⟩
  refine ⟨sz64' (by decide), ?_⟩
  show b__law_is_kind_2 _ [some (.int 3), some (.q (.obj "NoVersion" fs xs)), some (.lst [.bool false, .bool false, .bool false, .bool true, .bool false, .bool false, .bool false]), none] _
  refine w_seq (w_set ?_)
  simp only [x_op, x_var, x_lst, x_acons, x_anil, List.set_cons_succ, List.set_cons_zero, List.getElem?_cons_succ, List.getElem?_cons_zero]
  refine ⟨_, rfl, w_qisc rfl rfl hl (w_qisc rfl rfl hl (w_qisc rfl rfl hl ⟨sz3, ?_⟩))⟩
  refine ⟨sz64' (by decide), ?_⟩
  show b__law_is_kind_1 _ [some (.int 3), some (.q (.obj "NoVersion" fs xs)), some (.lst [.bool false, .bool false, .bool false, .bool true, .bool false, .bool false, .bool false, .bool false, .bool false, .bool false]), none] _
  refine w_seq (w_set ?_)
  simp only [x_op, x_var, x_lst, x_acons, x_anil, List.set_cons_succ, List.set_cons_zero, List.getElem?_cons_succ, List.getElem?_cons_zero]
  refine ⟨_, rfl, w_qisc rfl rfl hl (w_qisc rfl rfl hl ⟨two_ok, ?_⟩)⟩
  refine ⟨sz64' (by decide), ?_⟩
  show b__law_is_kind_0 _ [some (.int 3), some (.q (.obj "NoVersion" fs xs)), some (.lst [.bool false, .bool false, .bool false, .bool true, .bool false, .bool false, .bool false, .bool false, .bool false, .bool false, .bool false, .bool false]), none] _
  exact ik_end hl (l := 3) rfl rfl rfl q
theorem ik_4 {D : List Cell} {Q : T → List Cell → Prop} {fs : List Str} {xs : List Dt} (hl : fs.length = xs.length) (q : Q (.bl true) D) : d__law_is_kind [.int 4, .q (.obj "BadLog" fs xs)] D Q := by
  refine ⟨rfl, ?_⟩
  show b__law_is_kind_4 _ _ _
  refine w_seq (w_set (w_lst ?_))
  simp only [x_acons, x_anil]
  refine w_qisc rfl rfl hl (w_qisc rfl rfl hl (w_qisc rfl rfl hl (w_qisc rfl rfl hl ⟨sz4', ?_⟩)))
  show b__law_is_kind_3 _ [some (.int 4), some (.q (.obj "BadLog" fs xs)), some (.lst [.bool false, .bool false, .bool false, .bool false]), none] _
  refine w_seq (w_set ?_)
  simp only [x_op, x_var, x_lst, x_acons, x_anil, List.set_cons_succ, List.set_cons_zero, List.getElem?_cons_succ, List.getElem?_cons_zero]
  refine ⟨_, rfl, w_qisc rfl rfl hl (w_qisc rfl rfl hl (w_qisc rfl rfl hl ⟨sz3, ?_⟩))⟩
  refine ⟨sz64' (by decide), ?_⟩
  show b__law_is_kind_2 _ [some (.int 4), some (.q (.obj "BadLog" fs xs)), some (.lst [.bool false, .bool false, .bool false, .bool false, .bool true, .bool false, .bool false]), none] _
  refine w_seq (w_set ?_)
  simp only [x_op, x_var, x_lst, x_acons, x_anil, List.set_cons_succ, List.set_cons_zero, List.getElem?_cons_succ, List.getElem?_cons_zero]
  refine ⟨_, rfl, w_qisc rfl rfl hl (w_qisc rfl rfl hl (w_qisc rfl rfl hl ⟨sz3, ?_⟩))⟩
  refine ⟨sz64' (by decide), ?_⟩
  show b__law_is_kind_1 _ [some (.int 4), some (.q (.obj "BadLog" fs xs)), some (.lst [.bool false, .bool false, .bool false, .bool false, .bool true, .bool false, .bool false, .bool false, .bool false, .bool false]), none] _
  refine w_seq (w_set ?_)
  simp only [x_op, x_var, x_lst, x_acons, x_anil, List.set_cons_succ, List.set_cons_zero, List.getElem?_cons_succ, List.getElem?_cons_zero]
  refine ⟨_, rfl, w_qisc rfl rfl hl (w_qisc rfl rfl hl ⟨two_ok, ?_⟩)⟩
  refine ⟨sz64' (by decide), ?_⟩
  show b__law_is_kind_0 _ [some (.int 4), some (.q (.obj "BadLog" fs xs)), some (.lst [.bool false, .bool false, .bool false, .bool false, .bool true, .bool false, .bool false, .bool false, .bool false, .bool false, .bool false, .bool false]), none] _
  exact ik_end hl (l := 4) rfl rfl rfl q
theorem ik_5 {D : List Cell} {Q : T → List Cell → Prop} {fs : List Str} {xs : List Dt} (hl : fs.length = xs.length) (q : Q (.bl true) D) : d__law_is_kind [.int 5, .q (.obj "Unfit" fs xs)] D Q := by
  refine ⟨rfl, ?_⟩
  show b__law_is_kind_4 _ _ _
  refine w_seq (w_set (w_lst ?_))
  simp only [x_acons, x_anil]
  refine w_qisc rfl rfl hl (w_qisc rfl rfl hl (w_qisc rfl rfl hl (w_qisc rfl rfl hl ⟨sz4', ?_⟩)))
  show b__law_is_kind_3 _ [some (.int 5), some (.q (.obj "Unfit" fs xs)), some (.lst [.bool false, .bool false, .bool false, .bool false]), none] _
  refine w_seq (w_set ?_)
  simp only [x_op, x_var, x_lst, x_acons, x_anil, List.set_cons_succ, List.set_cons_zero, List.getElem?_cons_succ, List.getElem?_cons_zero]
  refine ⟨_, rfl, w_qisc rfl rfl hl (w_qisc rfl rfl hl (w_qisc rfl rfl hl ⟨sz3, ?_⟩))⟩
  refine ⟨sz64' (by decide), ?_⟩
  show b__law_is_kind_2 _ [some (.int 5), some (.q (.obj "Unfit" fs xs)), some (.lst [.bool false, .bool false, .bool false, .bool false, .bool false, .bool true, .bool false]), none] _
  refine w_seq (w_set ?_)
  simp only [x_op, x_var, x_lst, x_acons, x_anil, List.set_cons_succ, List.set_cons_zero, List.getElem?_cons_succ, List.getElem?_cons_zero]
  refine ⟨_, rfl, w_qisc rfl rfl hl (w_qisc rfl rfl hl (w_qisc rfl rfl hl ⟨sz3, ?_⟩))⟩
  refine ⟨sz64' (by decide), ?_⟩
  show b__law_is_kind_1 _ [some (.int 5), some (.q (.obj "Unfit" fs xs)), some (.lst [.bool false, .bool false, .bool false, .bool false, .bool false, .bool true, .bool false, .bool false, .bool false, .bool false]), none] _
  refine w_seq (w_set ?_)
  simp only [x_op, x_var, x_lst, x_acons, x_anil, List.set_cons_succ, List.set_cons_zero, List.getElem?_cons_succ, List.getElem?_cons_zero]
  refine ⟨_, rfl, w_qisc rfl rfl hl (w_qisc rfl rfl hl ⟨two_ok, ?_⟩)⟩
  refine ⟨sz64' (by decide), ?_⟩
  show b__law_is_kind_0 _ [some (.int 5), some (.q (.obj "Unfit" fs xs)), some (.lst [.bool false, .bool false, .bool false, .bool false, .bool false, .bool true, .bool false, .bool false, .bool false, .bool false, .bool false, .bool false]), none] _
  exact ik_end hl (l := 5) rfl rfl rfl q
theorem ik_6 {D : List Cell} {Q : T → List Cell → Prop} {fs : List Str} {xs : List Dt} (hl : fs.length = xs.length) (q : Q (.bl true) D) : d__law_is_kind [.int 6, .q (.obj "BadText" fs xs)] D Q := by
  refine ⟨rfl, ?_⟩
  show b__law_is_kind_4 _ _ _
  refine w_seq (w_set (w_lst ?_))
  simp only [x_acons, x_anil]
  refine w_qisc rfl rfl hl (w_qisc rfl rfl hl (w_qisc rfl rfl hl (w_qisc rfl rfl hl ⟨sz4', ?_⟩)))
  show b__law_is_kind_3 _ [some (.int 6), some (.q (.obj "BadText" fs xs)), some (.lst [.bool false, .bool false, .bool false, .bool false]), none] _
  refine w_seq (w_set ?_)
  simp only [x_op, x_var, x_lst, x_acons, x_anil, List.set_cons_succ, List.set_cons_zero, List.getElem?_cons_succ, List.getElem?_cons_zero]
  refine ⟨_, rfl, w_qisc rfl rfl hl (w_qisc rfl rfl hl (w_qisc rfl rfl hl ⟨sz3, ?_⟩))⟩
  refine ⟨sz64' (by decide), ?_⟩
  show b__law_is_kind_2 _ [some (.int 6), some (.q (.obj "BadText" fs xs)), some (.lst [.bool false, .bool false, .bool false, .bool false, .bool false, .bool false, .bool true]), none] _
  refine w_seq (w_set ?_)
  simp only [x_op, x_var, x_lst, x_acons, x_anil, List.set_cons_succ, List.set_cons_zero, List.getElem?_cons_succ, List.getElem?_cons_zero]
  refine ⟨_, rfl, w_qisc rfl rfl hl (w_qisc rfl rfl hl (w_qisc rfl rfl hl ⟨sz3, ?_⟩))⟩
  refine ⟨sz64' (by decide), ?_⟩
  show b__law_is_kind_1 _ [some (.int 6), some (.q (.obj "BadText" fs xs)), some (.lst [.bool false, .bool false, .bool false, .bool false, .bool false, .bool false, .bool true, .bool false, .bool false, .bool false]), none] _
  refine w_seq (w_set ?_)
  simp only [x_op, x_var, x_lst, x_acons, x_anil, List.set_cons_succ, List.set_cons_zero, List.getElem?_cons_succ, List.getElem?_cons_zero]
  refine ⟨_, rfl, w_qisc rfl rfl hl (w_qisc rfl rfl hl ⟨two_ok, ?_⟩)⟩
  refine ⟨sz64' (by decide), ?_⟩
  show b__law_is_kind_0 _ [some (.int 6), some (.q (.obj "BadText" fs xs)), some (.lst [.bool false, .bool false, .bool false, .bool false, .bool false, .bool false, .bool true, .bool false, .bool false, .bool false, .bool false, .bool false]), none] _
  exact ik_end hl (l := 6) rfl rfl rfl q
theorem ik_7 {D : List Cell} {Q : T → List Cell → Prop} {fs : List Str} {xs : List Dt} (hl : fs.length = xs.length) (q : Q (.bl true) D) : d__law_is_kind [.int 7, .q (.obj "Level" fs xs)] D Q := by
  refine ⟨rfl, ?_⟩
  show b__law_is_kind_4 _ _ _
  refine w_seq (w_set (w_lst ?_))
  simp only [x_acons, x_anil]
  refine w_qisc rfl rfl hl (w_qisc rfl rfl hl (w_qisc rfl rfl hl (w_qisc rfl rfl hl ⟨sz4', ?_⟩)))
  show b__law_is_kind_3 _ [some (.int 7), some (.q (.obj "Level" fs xs)), some (.lst [.bool false, .bool false, .bool false, .bool false]), none] _
  refine w_seq (w_set ?_)
  simp only [x_op, x_var, x_lst, x_acons, x_anil, List.set_cons_succ, List.set_cons_zero, List.getElem?_cons_succ, List.getElem?_cons_zero]
  refine ⟨_, rfl, w_qisc rfl rfl hl (w_qisc rfl rfl hl (w_qisc rfl rfl hl ⟨sz3, ?_⟩))⟩
  refine ⟨sz64' (by decide), ?_⟩
  show b__law_is_kind_2 _ [some (.int 7), some (.q (.obj "Level" fs xs)), some (.lst [.bool false, .bool false, .bool false, .bool false, .bool false, .bool false, .bool false]), none] _
  refine w_seq (w_set ?_)
  simp only [x_op, x_var, x_lst, x_acons, x_anil, List.set_cons_succ, List.set_cons_zero, List.getElem?_cons_succ, List.getElem?_cons_zero]
  refine ⟨_, rfl, w_qisc rfl rfl hl (w_qisc rfl rfl hl (w_qisc rfl rfl hl ⟨sz3, ?_⟩))⟩
  refine ⟨sz64' (by decide), ?_⟩
  show b__law_is_kind_1 _ [some (.int 7), some (.q (.obj "Level" fs xs)), some (.lst [.bool false, .bool false, .bool false, .bool false, .bool false, .bool false, .bool false, .bool true, .bool false, .bool false]), none] _
  refine w_seq (w_set ?_)
  simp only [x_op, x_var, x_lst, x_acons, x_anil, List.set_cons_succ, List.set_cons_zero, List.getElem?_cons_succ, List.getElem?_cons_zero]
  refine ⟨_, rfl, w_qisc rfl rfl hl (w_qisc rfl rfl hl ⟨two_ok, ?_⟩)⟩
  refine ⟨sz64' (by decide), ?_⟩
  show b__law_is_kind_0 _ [some (.int 7), some (.q (.obj "Level" fs xs)), some (.lst [.bool false, .bool false, .bool false, .bool false, .bool false, .bool false, .bool false, .bool true, .bool false, .bool false, .bool false, .bool false]), none] _
  exact ik_end hl (l := 7) rfl rfl rfl q
theorem ik_8 {D : List Cell} {Q : T → List Cell → Prop} {fs : List Str} {xs : List Dt} (hl : fs.length = xs.length) (q : Q (.bl true) D) : d__law_is_kind [.int 8, .q (.obj "Few" fs xs)] D Q := by
  refine ⟨rfl, ?_⟩
  show b__law_is_kind_4 _ _ _
  refine w_seq (w_set (w_lst ?_))
  simp only [x_acons, x_anil]
  refine w_qisc rfl rfl hl (w_qisc rfl rfl hl (w_qisc rfl rfl hl (w_qisc rfl rfl hl ⟨sz4', ?_⟩)))
  show b__law_is_kind_3 _ [some (.int 8), some (.q (.obj "Few" fs xs)), some (.lst [.bool false, .bool false, .bool false, .bool false]), none] _
  refine w_seq (w_set ?_)
  simp only [x_op, x_var, x_lst, x_acons, x_anil, List.set_cons_succ, List.set_cons_zero, List.getElem?_cons_succ, List.getElem?_cons_zero]
  refine ⟨_, rfl, w_qisc rfl rfl hl (w_qisc rfl rfl hl (w_qisc rfl rfl hl ⟨sz3, ?_⟩))⟩
  refine ⟨sz64' (by decide), ?_⟩
  show b__law_is_kind_2 _ [some (.int 8), some (.q (.obj "Few" fs xs)), some (.lst [.bool false, .bool false, .bool false, .bool false, .bool false, .bool false, .bool false]), none] _
  refine w_seq (w_set ?_)
  simp only [x_op, x_var, x_lst, x_acons, x_anil, List.set_cons_succ, List.set_cons_zero, List.getElem?_cons_succ, List.getElem?_cons_zero]
  refine ⟨_, rfl, w_qisc rfl rfl hl (w_qisc rfl rfl hl (w_qisc rfl rfl hl ⟨sz3, ?_⟩))⟩
  refine ⟨sz64' (by decide), ?_⟩
  show b__law_is_kind_1 _ [some (.int 8), some (.q (.obj "Few" fs xs)), some (.lst [.bool false, .bool false, .bool false, .bool false, .bool false, .bool false, .bool false, .bool false, .bool true, .bool false]), none] _
  refine w_seq (w_set ?_)
  simp only [x_op, x_var, x_lst, x_acons, x_anil, List.set_cons_succ, List.set_cons_zero, List.getElem?_cons_succ, List.getElem?_cons_zero]
  refine ⟨_, rfl, w_qisc rfl rfl hl (w_qisc rfl rfl hl ⟨two_ok, ?_⟩)⟩
  refine ⟨sz64' (by decide), ?_⟩
  show b__law_is_kind_0 _ [some (.int 8), some (.q (.obj "Few" fs xs)), some (.lst [.bool false, .bool false, .bool false, .bool false, .bool false, .bool false, .bool false, .bool false, .bool true, .bool false, .bool false, .bool false]), none] _
  exact ik_end hl (l := 8) rfl rfl rfl q
theorem ik_9 {D : List Cell} {Q : T → List Cell → Prop} {fs : List Str} {xs : List Dt} (hl : fs.length = xs.length) (q : Q (.bl true) D) : d__law_is_kind [.int 9, .q (.obj "TooManyEdits" fs xs)] D Q := by
  refine ⟨rfl, ?_⟩
  show b__law_is_kind_4 _ _ _
  refine w_seq (w_set (w_lst ?_))
  simp only [x_acons, x_anil]
  refine w_qisc rfl rfl hl (w_qisc rfl rfl hl (w_qisc rfl rfl hl (w_qisc rfl rfl hl ⟨sz4', ?_⟩)))
  show b__law_is_kind_3 _ [some (.int 9), some (.q (.obj "TooManyEdits" fs xs)), some (.lst [.bool false, .bool false, .bool false, .bool false]), none] _
  refine w_seq (w_set ?_)
  simp only [x_op, x_var, x_lst, x_acons, x_anil, List.set_cons_succ, List.set_cons_zero, List.getElem?_cons_succ, List.getElem?_cons_zero]
  refine ⟨_, rfl, w_qisc rfl rfl hl (w_qisc rfl rfl hl (w_qisc rfl rfl hl ⟨sz3, ?_⟩))⟩
  refine ⟨sz64' (by decide), ?_⟩
  show b__law_is_kind_2 _ [some (.int 9), some (.q (.obj "TooManyEdits" fs xs)), some (.lst [.bool false, .bool false, .bool false, .bool false, .bool false, .bool false, .bool false]), none] _
  refine w_seq (w_set ?_)
  simp only [x_op, x_var, x_lst, x_acons, x_anil, List.set_cons_succ, List.set_cons_zero, List.getElem?_cons_succ, List.getElem?_cons_zero]
  refine ⟨_, rfl, w_qisc rfl rfl hl (w_qisc rfl rfl hl (w_qisc rfl rfl hl ⟨sz3, ?_⟩))⟩
  refine ⟨sz64' (by decide), ?_⟩
  show b__law_is_kind_1 _ [some (.int 9), some (.q (.obj "TooManyEdits" fs xs)), some (.lst [.bool false, .bool false, .bool false, .bool false, .bool false, .bool false, .bool false, .bool false, .bool false, .bool true]), none] _
  refine w_seq (w_set ?_)
  simp only [x_op, x_var, x_lst, x_acons, x_anil, List.set_cons_succ, List.set_cons_zero, List.getElem?_cons_succ, List.getElem?_cons_zero]
  refine ⟨_, rfl, w_qisc rfl rfl hl (w_qisc rfl rfl hl ⟨two_ok, ?_⟩)⟩
  refine ⟨sz64' (by decide), ?_⟩
  show b__law_is_kind_0 _ [some (.int 9), some (.q (.obj "TooManyEdits" fs xs)), some (.lst [.bool false, .bool false, .bool false, .bool false, .bool false, .bool false, .bool false, .bool false, .bool false, .bool true, .bool false, .bool false]), none] _
  exact ik_end hl (l := 9) rfl rfl rfl q
theorem ik_10 {D : List Cell} {Q : T → List Cell → Prop} {fs : List Str} {xs : List Dt} (hl : fs.length = xs.length) (q : Q (.bl true) D) : d__law_is_kind [.int 10, .q (.obj "NothingToUndo" fs xs)] D Q := by
  refine ⟨rfl, ?_⟩
  show b__law_is_kind_4 _ _ _
  refine w_seq (w_set (w_lst ?_))
  simp only [x_acons, x_anil]
  refine w_qisc rfl rfl hl (w_qisc rfl rfl hl (w_qisc rfl rfl hl (w_qisc rfl rfl hl ⟨sz4', ?_⟩)))
  show b__law_is_kind_3 _ [some (.int 10), some (.q (.obj "NothingToUndo" fs xs)), some (.lst [.bool false, .bool false, .bool false, .bool false]), none] _
  refine w_seq (w_set ?_)
  simp only [x_op, x_var, x_lst, x_acons, x_anil, List.set_cons_succ, List.set_cons_zero, List.getElem?_cons_succ, List.getElem?_cons_zero]
  refine ⟨_, rfl, w_qisc rfl rfl hl (w_qisc rfl rfl hl (w_qisc rfl rfl hl ⟨sz3, ?_⟩))⟩
  refine ⟨sz64' (by decide), ?_⟩
  show b__law_is_kind_2 _ [some (.int 10), some (.q (.obj "NothingToUndo" fs xs)), some (.lst [.bool false, .bool false, .bool false, .bool false, .bool false, .bool false, .bool false]), none] _
  refine w_seq (w_set ?_)
  simp only [x_op, x_var, x_lst, x_acons, x_anil, List.set_cons_succ, List.set_cons_zero, List.getElem?_cons_succ, List.getElem?_cons_zero]
  refine ⟨_, rfl, w_qisc rfl rfl hl (w_qisc rfl rfl hl (w_qisc rfl rfl hl ⟨sz3, ?_⟩))⟩
  refine ⟨sz64' (by decide), ?_⟩
  show b__law_is_kind_1 _ [some (.int 10), some (.q (.obj "NothingToUndo" fs xs)), some (.lst [.bool false, .bool false, .bool false, .bool false, .bool false, .bool false, .bool false, .bool false, .bool false, .bool false]), none] _
  refine w_seq (w_set ?_)
  simp only [x_op, x_var, x_lst, x_acons, x_anil, List.set_cons_succ, List.set_cons_zero, List.getElem?_cons_succ, List.getElem?_cons_zero]
  refine ⟨_, rfl, w_qisc rfl rfl hl (w_qisc rfl rfl hl ⟨two_ok, ?_⟩)⟩
  refine ⟨sz64' (by decide), ?_⟩
  show b__law_is_kind_0 _ [some (.int 10), some (.q (.obj "NothingToUndo" fs xs)), some (.lst [.bool false, .bool false, .bool false, .bool false, .bool false, .bool false, .bool false, .bool false, .bool false, .bool false, .bool true, .bool false]), none] _
  exact ik_end hl (l := 10) rfl rfl rfl q
theorem ik_11 {D : List Cell} {Q : T → List Cell → Prop} {fs : List Str} {xs : List Dt} (hl : fs.length = xs.length) (q : Q (.bl true) D) : d__law_is_kind [.int 11, .q (.obj "NothingToRedo" fs xs)] D Q := by
  refine ⟨rfl, ?_⟩
  show b__law_is_kind_4 _ _ _
  refine w_seq (w_set (w_lst ?_))
  simp only [x_acons, x_anil]
  refine w_qisc rfl rfl hl (w_qisc rfl rfl hl (w_qisc rfl rfl hl (w_qisc rfl rfl hl ⟨sz4', ?_⟩)))
  show b__law_is_kind_3 _ [some (.int 11), some (.q (.obj "NothingToRedo" fs xs)), some (.lst [.bool false, .bool false, .bool false, .bool false]), none] _
  refine w_seq (w_set ?_)
  simp only [x_op, x_var, x_lst, x_acons, x_anil, List.set_cons_succ, List.set_cons_zero, List.getElem?_cons_succ, List.getElem?_cons_zero]
  refine ⟨_, rfl, w_qisc rfl rfl hl (w_qisc rfl rfl hl (w_qisc rfl rfl hl ⟨sz3, ?_⟩))⟩
  refine ⟨sz64' (by decide), ?_⟩
  show b__law_is_kind_2 _ [some (.int 11), some (.q (.obj "NothingToRedo" fs xs)), some (.lst [.bool false, .bool false, .bool false, .bool false, .bool false, .bool false, .bool false]), none] _
  refine w_seq (w_set ?_)
  simp only [x_op, x_var, x_lst, x_acons, x_anil, List.set_cons_succ, List.set_cons_zero, List.getElem?_cons_succ, List.getElem?_cons_zero]
  refine ⟨_, rfl, w_qisc rfl rfl hl (w_qisc rfl rfl hl (w_qisc rfl rfl hl ⟨sz3, ?_⟩))⟩
  refine ⟨sz64' (by decide), ?_⟩
  show b__law_is_kind_1 _ [some (.int 11), some (.q (.obj "NothingToRedo" fs xs)), some (.lst [.bool false, .bool false, .bool false, .bool false, .bool false, .bool false, .bool false, .bool false, .bool false, .bool false]), none] _
  refine w_seq (w_set ?_)
  simp only [x_op, x_var, x_lst, x_acons, x_anil, List.set_cons_succ, List.set_cons_zero, List.getElem?_cons_succ, List.getElem?_cons_zero]
  refine ⟨_, rfl, w_qisc rfl rfl hl (w_qisc rfl rfl hl ⟨two_ok, ?_⟩)⟩
  refine ⟨sz64' (by decide), ?_⟩
  show b__law_is_kind_0 _ [some (.int 11), some (.q (.obj "NothingToRedo" fs xs)), some (.lst [.bool false, .bool false, .bool false, .bool false, .bool false, .bool false, .bool false, .bool false, .bool false, .bool false, .bool false, .bool true]), none] _
  exact ik_end hl (l := 11) rfl rfl rfl q
theorem made_blk {c f : Str} {E : Es} {D : List Cell} {w d : Option T} {x : Dt} {b : Bool} (q : E.rt (.q (.tup [.obj c [f] [x], x])) ⟨D, []⟩) :
    mSeq (mSet 3 (mIte (mTest (mVar 2)) (mMk1 c f (aCons (mVar 1) aNil)) (mMk1 c f (aCons (mVar 1) aNil)))) (mRet (mQTup (aCons (mVar 3) (aCons (mQFld [c] f (mVar 3)) aNil)))) E [w, some (inj x), some (.bl b), d] ⟨D, []⟩ := by
  have fin : mRet (mQTup (aCons (mVar 3) (aCons (mQFld [c] f (mVar 3)) aNil))) E [w, some (inj x), some (.bl b), some (.q (.obj c [f] [x]))] ⟨D, []⟩ := by
    refine w_ret (w_qtup ?_)
    simp only [x_acons, x_anil, x_var, List.getElem?_cons_succ, List.getElem?_cons_zero]
    refine ⟨_, rfl, _, rfl, ⟨by simp, rfl, ?_⟩⟩
    exact ⟨[.obj c [f] [x], x], tqs_c rfl (tqs_c (tq_inj x) rfl), two_ok, q⟩
  refine w_seq (w_set ?_)
  show mTest _ _ _ _
  refine w_test ⟨_, rfl, b, rfl, ?_⟩
  cases b with
  | true => exact ⟨_, rfl, _, x, rfl, tq_inj x, fin⟩
  | false => exact ⟨_, rfl, _, x, rfl, tq_inj x, fin⟩
def cn : Nat → Str
  | 0 => "BadBook"
  | 1 => "TooMany"
  | 2 => "Unlevel"
  | 3 => "NoVersion"
  | _ => "BadLog"
def fn : Nat → Str
  | 0 => "error"
  | 1 => "limit"
  | 2 => "pair"
  | 3 => "given"
  | _ => "place"
theorem sp_made {D : List Cell} {Q : T → List Cell → Prop} {w : Nat} {x : Dt} {b : Bool} (hw : w < 5) (q : Q (.q (.tup [.obj (cn w) [fn w] [x], x])) D) : d__law_made [.int w, inj x, .bl b] D Q := by
  refine ⟨rfl, ?_⟩
  show b__law_made_13 _ [some (.int w), some (inj x), some (.bl b), none] _
  have hw : w = 0 ∨ w = 1 ∨ w = 2 ∨ w = 3 ∨ w = 4 := by omega
  rcases hw with rfl | rfl | rfl | rfl | rfl
  · refine w_seq (w_if ?_)
    simp
    exact made_blk ⟨rfl, q⟩
  · refine w_seq (w_if ?_)
    simp
    refine w_seq (w_if ?_)
    simp
    exact made_blk ⟨rfl, q⟩
  · refine w_seq (w_if ?_)
    simp
    refine w_seq (w_if ?_)
    simp
    refine w_seq (w_if ?_)
    simp
    exact made_blk ⟨rfl, q⟩
  · refine w_seq (w_if ?_)
    simp
    refine w_seq (w_if ?_)
    simp
    refine w_seq (w_if ?_)
    simp
    refine w_seq (w_if ?_)
    simp
    exact made_blk ⟨rfl, q⟩
  · refine w_seq (w_if ?_)
    simp
    refine w_seq (w_if ?_)
    simp
    refine w_seq (w_if ?_)
    simp
    refine w_seq (w_if ?_)
    simp
    exact made_blk ⟨rfl, q⟩
theorem sp_kind {D : List Cell} {Q : T → List Cell → Prop} {w : Nat} {x : Dt} (hw : w < 5) (q : Q (.bl true) D) : d__law_is_kind [.int w, .q (.obj (cn w) [fn w] [x])] D Q := by
  have hw : w = 0 ∨ w = 1 ∨ w = 2 ∨ w = 3 ∨ w = 4 := by omega
  rcases hw with rfl | rfl | rfl | rfl | rfl
  · exact ik_0 rfl q
  · exact ik_1 rfl q
  · exact ik_2 rfl q
  · exact ik_3 rfl q
  · exact ik_4 rfl q
theorem w_neS {a : Str} {M : Mem} {Q : Kt} (q : Q (.bl false) M) : oEq true (.d (.str a)) (.d (.str a)) M Q := by
  unfold oEq
  dsimp only
  simp only [if_true, decide_true, Bool.not_true]
  exact q
theorem w_notV {i : Nat} {b : Bool} {τ : En} {M : Mem} {Q : Kt} (h : τ[i]? = some (some (.bl b))) (q : Q (.bl (!b)) M) : mNot (mVar i) τ M Q := ⟨_, h, q⟩
/-- one way -/
theorem law_way {E : Es} {D : List Cell} {w : Nat} {a t2 : Option T} {e4 e5 e6 e7 e8 e9 e10 : Option T} (hw : w < 5) (hD : RI D) (q : ∀ D' f4 f5 f6 f7 f8 f9 f10, RI D' → E.nx [a, some (.mr 1), t2, some (.int w), f4, f5, f6, f7, f8, f9, f10] ⟨D', []⟩) :
    b_law_7 E [a, some (.mr 1), t2, some (.int w), e4, e5, e6, e7, e8, e9, e10] ⟨D, []⟩ := by
  refine w_seq (w_par ?_)
  simp only [x_acons, x_anil, x_call, x_op, x_var, x_c, x_def, List.getElem?_cons_succ, List.getElem?_cons_zero]
  refine ⟨_, rfl, by simp, ?_⟩
  refine sp_any hD fun x D1 wx hD1 => ?_
  refine ⟨_, rfl, by simp, ?_⟩
  refine sp_draw hD1 (by omega) (by omega) fun n D2 n0 n1 hD2 => ?_
  rw [x_eqi]
  show b_law_6 E [a, some (.mr 1), t2, some (.int w), some (inj x), some (.bl _), e6, e7, e8, e9, e10] _
  generalize hb : (if false = true then _ else _) = b
  clear hb
  obtain ⟨y, py, oy⟩ := wx.ok (by omega) (by omega)
  obtain ⟨z, pz, oz⟩ := (wq_lst (wq_cons wx (wq_cons wx (wq_one wx)))).ok (by omega) (by omega)
  refine w_seq (w_set ?_)
  simp only [x_call, x_acons, x_anil, x_var, List.getElem?_cons_succ, List.getElem?_cons_zero]
  refine ⟨_, rfl, w_qrepr (tq_inj x) py oy ?_⟩
  show b_law_5 E [a, some (.mr 1), t2, some (.int w), some (inj x), some (.bl b), some (.str y.shown), e7, e8, e9, e10] _
  refine w_seq (w_asg ?_)
  simp only [x_call, x_acons, x_anil, x_var, x_def, List.getElem?_cons_succ, List.getElem?_cons_zero]
  refine ⟨_, rfl, _, rfl, _, rfl, by simp, ?_⟩
  refine sp_made hw ?_
  refine ⟨rfl, rfl, ?_⟩
  show b_law_4 E [a, some (.mr 1), t2, some (.int w), some (inj x), some (.bl b), some (.str y.shown), some (.q (.obj (cn w) [fn w] [x])), some (inj x), e9, e10] _
  refine w_seq (w_asg ?_)
  simp only [x_call, x_acons, x_anil, x_var, x_def, List.getElem?_cons_succ, List.getElem?_cons_zero]
  refine ⟨_, rfl, _, rfl, ?_⟩
  refine w_notV rfl ?_
  refine ⟨by simp, ?_⟩
  refine sp_made hw ?_
  refine ⟨rfl, rfl, ?_⟩
  show b_law_3 E [a, some (.mr 1), t2, some (.int w), some (inj x), some (.bl b), some (.str y.shown), some (.q (.obj (cn w) [fn w] [x])), some (inj x), some (.q (.obj (cn w) [fn w] [x])), some (inj x)] _
  have t3 : tqs [inj x, inj x, inj x] = some [x, x, x] := tqs_c (tq_inj x) (tqs_c (tq_inj x) (tqs_c (tq_inj x) rfl))
  refine w_seq (w_if (w_bor (w_test ?_)))
  simp only [x_call, x_op, x_acons, x_anil, x_var, List.getElem?_cons_succ, List.getElem?_cons_zero]
  refine w_qlst ?_
  simp only [x_acons, x_anil, x_var, List.getElem?_cons_succ, List.getElem?_cons_zero]
  refine ⟨_, rfl, _, rfl, _, rfl, _, t3, sz3, ?_⟩
  refine w_qrepr rfl pz oz ?_
  refine w_qlst ?_
  simp only [x_acons, x_anil, x_var, List.getElem?_cons_succ, List.getElem?_cons_zero]
  refine ⟨_, rfl, _, rfl, _, rfl, _, t3, sz3, ?_⟩
  refine w_qrepr rfl pz oz ?_
  refine w_neS ⟨false, rfl, ?_⟩
  rw [if_neg Bool.false_ne_true]
  refine w_test ?_
  simp only [x_call, x_op, x_acons, x_anil, x_var, List.getElem?_cons_succ, List.getElem?_cons_zero]
  refine ⟨_, rfl, w_qrepr (tq_inj x) py oy ?_⟩
  refine ⟨_, rfl, w_neS ⟨false, rfl, ?_⟩⟩
  rw [if_neg Bool.false_ne_true]
  show b_law_2 E [a, some (.mr 1), t2, some (.int w), some (inj x), some (.bl b), some (.str y.shown), some (.q (.obj (cn w) [fn w] [x])), some (inj x), some (.q (.obj (cn w) [fn w] [x])), some (inj x)] _
  refine w_if (w_bor (w_bnot (w_test ?_)))
  simp only [x_call, x_acons, x_anil, x_var, x_def, List.getElem?_cons_succ, List.getElem?_cons_zero]
  refine ⟨_, rfl, _, rfl, by simp, sp_kind hw ⟨true, rfl, ?_⟩⟩
  rw [Bool.not_true, if_neg Bool.false_ne_true]
  refine w_bnot (w_test ?_)
  simp only [x_call, x_acons, x_anil, x_var, x_def, List.getElem?_cons_succ, List.getElem?_cons_zero]
  refine ⟨_, rfl, _, rfl, by simp, sp_kind hw ⟨true, rfl, ?_⟩⟩
  rw [Bool.not_true, if_neg Bool.false_ne_true]
  exact q _ _ _ _ _ _ _ _ hD2
def bn : Nat → Str
  | 0 => "Unfit"
  | 1 => "BadText"
  | 2 => "Level"
  | 3 => "Few"
  | 4 => "TooManyEdits"
  | 5 => "NothingToUndo"
  | _ => "NothingToRedo"
theorem sp_bare {D : List Cell} {Q : T → List Cell → Prop} {w : Nat} (hw : w < 7) (q : Q (.q (.obj (bn w) [] [])) D) : d__law_bare [.int ((w + 5 : Nat) : Int)] D Q := by
  refine ⟨rfl, ?_⟩
  have hw : w = 0 ∨ w = 1 ∨ w = 2 ∨ w = 3 ∨ w = 4 ∨ w = 5 ∨ w = 6 := by omega
  rcases hw with rfl | rfl | rfl | rfl | rfl | rfl | rfl
  · show b__law_bare_10 _ [some (.int 5)] _
    refine w_seq (w_if ?_)
    simp
    exact ⟨rfl, q⟩
  · show b__law_bare_10 _ [some (.int 6)] _
    refine w_seq (w_if ?_)
    simp
    refine w_seq (w_if ?_)
    simp
    exact ⟨rfl, q⟩
  · show b__law_bare_10 _ [some (.int 7)] _
    refine w_seq (w_if ?_)
    simp
    refine w_seq (w_if ?_)
    simp
    refine w_seq (w_if ?_)
    simp
    exact ⟨rfl, q⟩
  · show b__law_bare_10 _ [some (.int 8)] _
    refine w_seq (w_if ?_)
    simp
    refine w_seq (w_if ?_)
    simp
    refine w_seq (w_if ?_)
    simp
    refine w_seq (w_if ?_)
    simp
    exact ⟨rfl, q⟩
  · show b__law_bare_10 _ [some (.int 9)] _
    refine w_seq (w_if ?_)
    simp
    refine w_seq (w_if ?_)
    simp
    refine w_seq (w_if ?_)
    simp
    refine w_seq (w_if ?_)
    simp
    refine w_seq (w_if ?_)
    simp
    exact ⟨rfl, q⟩
  · show b__law_bare_10 _ [some (.int 10)] _
    refine w_seq (w_if ?_)
    simp
    refine w_seq (w_if ?_)
    simp
    refine w_seq (w_if ?_)
    simp
    refine w_seq (w_if ?_)
    simp
    refine w_seq (w_if ?_)
    simp
    exact ⟨rfl, q⟩
  · show b__law_bare_10 _ [some (.int 11)] _
    refine w_seq (w_if ?_)
    simp
    refine w_seq (w_if ?_)
    simp
    refine w_seq (w_if ?_)
    simp
    refine w_seq (w_if ?_)
    simp
    refine w_seq (w_if ?_)
    simp
    exact ⟨rfl, q⟩
theorem sp_kind0 {D : List Cell} {Q : T → List Cell → Prop} {w : Nat} (hw : w < 7) (q : Q (.bl true) D) : d__law_is_kind [.int ((w + 5 : Nat) : Int), .q (.obj (bn w) [] [])] D Q := by
  have hw : w = 0 ∨ w = 1 ∨ w = 2 ∨ w = 3 ∨ w = 4 ∨ w = 5 ∨ w = 6 := by omega
  rcases hw with rfl | rfl | rfl | rfl | rfl | rfl | rfl
  · exact ik_5 rfl q
  · exact ik_6 rfl q
  · exact ik_7 rfl q
  · exact ik_8 rfl q
  · exact ik_9 rfl q
  · exact ik_10 rfl q
  · exact ik_11 rfl q
theorem law_true (ns : List Int) (h : ns.length ≤ 63) : d_law [.scr ns] [] fun t _ => t = .bl true := by
  refine ⟨rfl, ?_⟩
  show b_law_14 _ _ _
  refine w_seq (w_set ?_)
  simp only [x_call, x_acons, x_anil, x_var, x_def]
  refine ⟨_, rfl, by simp, ?_⟩
  refine sp_deck h fun D hD => ?_
  show b_law_13 _ [some (.scr ns), some (.mr 1), none, none, none, none, none, none, none, none, none] _
  refine w_seq (w_for ?_)
  simp
  refine for_all (fun i τ M => M.L = [] ∧ RI M.D ∧ ∃ a2 a3 a4 a5 a6 a7 a8 a9 a10, τ = [some (.scr ns), some (.mr 1), a2, a3, a4, a5, a6, a7, a8, a9, a10]) ⟨rfl, hD, _, _, _, _, _, _, _, _, _, rfl⟩ ?_ ?_
  · rintro i τ ⟨D, L⟩ t R ht ⟨rfl, hD, a2, a3, a4, a5, a6, a7, a8, a9, a10, rfl⟩ k
    show b_law_8 _ [some (.scr ns), some (.mr 1), some t, a3, a4, a5, a6, a7, a8, a9, a10] _
    refine w_for ?_
    simp
    refine for_all (fun i τ M => M.L = [] ∧ RI M.D ∧ ∃ a3 a4 a5 a6 a7 a8 a9 a10, τ = [some (.scr ns), some (.mr 1), some t, a3, a4, a5, a6, a7, a8, a9, a10]) ⟨rfl, hD, _, _, _, _, _, _, _, _, rfl⟩ ?_ ?_
    · rintro j τ ⟨D, L⟩ u R2 hu ⟨rfl, hD, a3, a4, a5, a6, a7, a8, a9, a10, rfl⟩ k2
      obtain ⟨hj, eu⟩ := range_at (n := 5) (by simpa using hu)
      subst eu
      show b_law_7 _ [some (.scr ns), some (.mr 1), some t, some (.int (j : Int)), a4, a5, a6, a7, a8, a9, a10] _
      exact law_way hj hD fun D' f4 f5 f6 f7 f8 f9 f10 hD' => k2 _ _ ⟨rfl, hD', _, _, _, _, _, _, _, _, rfl⟩
    · rintro τ ⟨D, L⟩ ⟨rfl, hD, a3, a4, a5, a6, a7, a8, a9, a10, rfl⟩
      exact k _ _ ⟨rfl, hD, _, _, _, _, _, _, _, _, _, rfl⟩
  · rintro τ ⟨D, L⟩ ⟨rfl, hD, a2, a3, a4, a5, a6, a7, a8, a9, a10, rfl⟩
    show b_law_12 _ [some (.scr ns), some (.mr 1), a2, a3, a4, a5, a6, a7, a8, a9, a10] _
    refine w_seq (w_for ?_)
    simp
    refine for_all (fun i τ M => M.L = [] ∧ RI M.D ∧ ∃ a2 a3 a4 a5 a6 a7 a8 a9 a10, τ = [some (.scr ns), some (.mr 1), a2, a3, a4, a5, a6, a7, a8, a9, a10]) ⟨rfl, hD, _, _, _, _, _, _, _, _, _, rfl⟩ ?_ ?_
    · rintro i τ ⟨D, L⟩ t R ht ⟨rfl, hD, a2, a3, a4, a5, a6, a7, a8, a9, a10, rfl⟩ k
      obtain ⟨hi, et⟩ : i < 7 ∧ t = .int ((i + 5 : Nat) : Int) := by
        unfold rangeT2 at ht
        rw [List.getElem?_map] at ht
        rcases Nat.lt_or_ge i 7 with q | q
        · rw [List.getElem?_range q] at ht
          refine ⟨q, ?_⟩
          rw [← Option.some.inj ht]
          show T.int _ = T.int _
          congr 1
          omega
        · rw [List.getElem?_eq_none (by simpa using q)] at ht
          cases ht
      subst et
      show b_law_10 _ [some (.scr ns), some (.mr 1), a2, some (.int ((i + 5 : Nat) : Int)), a4, a5, a6, a7, a8, a9, a10] _
      refine w_if (w_bnot (w_test ?_))
      simp only [x_call, x_acons, x_anil, x_var, x_def, List.getElem?_cons_succ, List.getElem?_cons_zero]
      refine ⟨_, rfl, _, rfl, by simp, sp_bare hi ?_⟩
      refine ⟨by simp, sp_kind0 hi ⟨true, rfl, ?_⟩⟩
      rw [Bool.not_true, if_neg Bool.false_ne_true]
      exact k _ _ ⟨rfl, hD, _, _, _, _, _, _, _, _, _, rfl⟩
    · rintro τ ⟨D, L⟩ ⟨rfl, hD, a2, a3, a4, a5, a6, a7, a8, a9, a10, rfl⟩
      exact ⟨rfl, rfl⟩
end K54
set_option Elab.async false
set_option linter.all false
set_option maxRecDepth 100000
open PySem PySem.W PyProof.Rows
set_option maxHeartbeats 0 in
theorem PySem.Challenge.cw_fallingfields_k54_errors_of_all_classes_holds : PySem.Challenge.rw_fallingfields_k54_errors_of_all_classes.Holds := by
  w_on; o_law; k_head; (case hw => w_witness2)
  k_fill
  refine L3.walkG (l := PySem.Challenge.rw_fallingfields_k54_errors_of_all_classes) (n := 63) (k := 6) (x := "script") (m := K54.d_law) rfl (by decide) rfl ⟨rfl, by decide, by decide⟩ (fun w h Y => PySem.W.kIn_of Y) ?F K54.law_true
  case F =>
    intro w mg fa h KX G hmg
    refine' K54.all_mk KX G hmg ?a0 ?l0 ?c0 ?k0 ?a1 ?l1 ?c1 ?k1 ?a2 ?l2 ?c2 ?k2 ?a5 ?l5 ?c5 ?k5 ?a6 ?l6 ?c6 ?k6 ?a7 ?l7 ?c7 ?k7 ?a8 ?l8 ?c8 ?k8 ?a9 ?l9 ?c9 ?k9 ?z_len ?z_abs ?z_int ?z_range ?z_tuple ?z_isinstance ?z_ValueError ?z_repr ?xa_FieldsError ?xk_FieldsError ?xs_FieldsError ?xt_FieldsError ?xi_FieldsError ?xg_FieldsError ?xh_FieldsError ?xc_FieldsError ?xm_FieldsError ?xsp ?xtk ?ca_FieldsError ?qv_FieldsError ?xa_Unfit ?xk_Unfit ?xs_Unfit ?xt_Unfit ?xi_Unfit ?xg_Unfit ?xh_Unfit ?xc_Unfit ?xm_Unfit ?ca_Unfit ?xe_Unfit ?xa_BadText ?xk_BadText ?xs_BadText ?xt_BadText ?xi_BadText ?xg_BadText ?xh_BadText ?xc_BadText ?xm_BadText ?ca_BadText ?xe_BadText ?xa_Level ?xk_Level ?xs_Level ?xt_Level ?xi_Level ?xg_Level ?xh_Level ?xc_Level ?xm_Level ?ca_Level ?xe_Level ?xa_Few ?xk_Few ?xs_Few ?xt_Few ?xi_Few ?xg_Few ?xh_Few ?xc_Few ?xm_Few ?ca_Few ?xe_Few ?xa_TooManyEdits ?xk_TooManyEdits ?xs_TooManyEdits ?xt_TooManyEdits ?xi_TooManyEdits ?xg_TooManyEdits ?xh_TooManyEdits ?xc_TooManyEdits ?xm_TooManyEdits ?ca_TooManyEdits ?xe_TooManyEdits ?xa_NothingToUndo ?xk_NothingToUndo ?xs_NothingToUndo ?xt_NothingToUndo ?xi_NothingToUndo ?xg_NothingToUndo ?xh_NothingToUndo ?xc_NothingToUndo ?xm_NothingToUndo ?ca_NothingToUndo ?xe_NothingToUndo ?xa_NothingToRedo ?xk_NothingToRedo ?xs_NothingToRedo ?xt_NothingToRedo ?xi_NothingToRedo ?xg_NothingToRedo ?xh_NothingToRedo ?xc_NothingToRedo ?xm_NothingToRedo ?ca_NothingToRedo ?xe_NothingToRedo ?xa_NoVersion ?xk_NoVersion ?xs_NoVersion ?xt_NoVersion ?xi_NoVersion ?xg_NoVersion ?xh_NoVersion ?xc_NoVersion ?xm_NoVersion ?ca_NoVersion ?qx_all ?qt_NoVersion ?xa_Unlevel ?xk_Unlevel ?xs_Unlevel ?xt_Unlevel ?xi_Unlevel ?xg_Unlevel ?xh_Unlevel ?xc_Unlevel ?xm_Unlevel ?ca_Unlevel ?qt_Unlevel ?xa_TooMany ?xk_TooMany ?xs_TooMany ?xt_TooMany ?xi_TooMany ?xg_TooMany ?xh_TooMany ?xc_TooMany ?xm_TooMany ?ca_TooMany ?qt_TooMany ?xa_BadBook ?xk_BadBook ?xs_BadBook ?xt_BadBook ?xi_BadBook ?xg_BadBook ?xh_BadBook ?xc_BadBook ?xm_BadBook ?ca_BadBook ?qt_BadBook ?qt_BadText ?qt_Unfit ?xa_BadLog ?xk_BadLog ?xs_BadLog ?xt_BadLog ?xi_BadLog ?xg_BadLog ?xh_BadLog ?xc_BadLog ?xm_BadLog ?ca_BadLog ?qt_BadLog ?qt_TooManyEdits ?qt_Few ?qt_Level ?qt_NothingToRedo ?qt_NothingToUndo ?qt_FieldsError ?qt_ValueError ?yhiC_BadBook ?yhtI_BadBook ?yhlC_BadBook ?yhvb_BadBook ?yhsa_BadBook ?yhlI_BadBook ?yhhcd_BadBook ?yhlD_BadBook ?yhhvs_BadBook ?yhhfile_BadBook ?yhlc_BadBook ?yhmro_BadBook ?yany ?yhsup_BadBook ?yhsb_BadBook ?yhexi_BadBook ?yhfl_BadBook ?ysup ?ytop ?yhT_BadBook ?yhhb_BadBook ?yhk2_BadBook ?xd_BadBook ?xn_BadBook_error ?yhiC_TooMany ?yhtI_TooMany ?yhlC_TooMany ?yhvb_TooMany ?yhsa_TooMany ?yhlI_TooMany ?yhhcd_TooMany ?yhlD_TooMany ?yhhvs_TooMany ?yhhfile_TooMany ?yhlc_TooMany ?yhmro_TooMany ?yhsup_TooMany ?yhsb_TooMany ?yhexi_TooMany ?yhfl_TooMany ?yhT_TooMany ?yhhb_TooMany ?yhk2_TooMany ?xd_TooMany ?xn_TooMany_limit ?yhiC_Unlevel ?yhtI_Unlevel ?yhlC_Unlevel ?yhvb_Unlevel ?yhsa_Unlevel ?yhlI_Unlevel ?yhhcd_Unlevel ?yhlD_Unlevel ?yhhvs_Unlevel ?yhhfile_Unlevel ?yhlc_Unlevel ?yhmro_Unlevel ?yhsup_Unlevel ?yhsb_Unlevel ?yhexi_Unlevel ?yhfl_Unlevel ?yhT_Unlevel ?yhhb_Unlevel ?yhk2_Unlevel ?xd_Unlevel ?xn_Unlevel_pair ?yhiC_NoVersion ?yhtI_NoVersion ?yhlC_NoVersion ?yhvb_NoVersion ?yhsa_NoVersion ?yhlI_NoVersion ?yhhcd_NoVersion ?yhlD_NoVersion ?yhhvs_NoVersion ?yhhfile_NoVersion ?yhlc_NoVersion ?yhmro_NoVersion ?yhsup_NoVersion ?yhsb_NoVersion ?yhexi_NoVersion ?yhfl_NoVersion ?yhT_NoVersion ?yhhb_NoVersion ?yhk2_NoVersion ?xd_NoVersion ?xn_NoVersion_given ?yhiC_BadLog ?yhtI_BadLog ?yhlC_BadLog ?yhvb_BadLog ?yhsa_BadLog ?yhlI_BadLog ?yhhcd_BadLog ?yhlD_BadLog ?yhhvs_BadLog ?yhhfile_BadLog ?yhlc_BadLog ?yhmro_BadLog ?yhsup_BadLog ?yhsb_BadLog ?yhexi_BadLog ?yhfl_BadLog ?yhT_BadLog ?yhhb_BadLog ?yhk2_BadLog ?xd_BadLog ?xn_BadLog_place
    (case a0 => k_is); (case l0 => k_is); (case c0 => k_is); (case k0 => k_is); (case a1 => k_is); (case l1 => k_is); (case c1 => k_is); (case k1 => k_is); (case a2 => k_is); (case l2 => k_is); (case c2 => k_is); (case k2 => k_is); (case a5 => k_is); (case l5 => k_is); (case c5 => k_is); (case k5 => k_is); (case a6 => k_is); (case l6 => k_is); (case c6 => k_is); (case k6 => k_is); (case a7 => k_is); (case l7 => k_is); (case c7 => k_is); (case k7 => k_is); (case a8 => k_is); (case l8 => k_is); (case c8 => k_is); (case k8 => k_is); (case a9 => k_is); (case l9 => k_is); (case c9 => k_is); (case k9 => k_is); (case z_len => k_is); (case z_abs => k_is); (case z_int => k_is); (case z_range => k_is); (case z_tuple => k_is); (case z_isinstance => k_is); (case z_ValueError => k_is); (case z_repr => k_is); (case xa_FieldsError => k_is); (case xk_FieldsError => k_is); (case xs_FieldsError => k_is); (case xt_FieldsError => k_is); (case xi_FieldsError => k_is); (case xg_FieldsError => k_is); (case xh_FieldsError => k_is); (case xc_FieldsError => k_is); (case xm_FieldsError => k_is); (case xsp => k_is); (case xtk => k_is); (case ca_FieldsError => (first | rfl | decide +kernel)); (case qv_FieldsError => (first | rfl | decide +kernel)); (case xa_Unfit => k_is); (case xk_Unfit => k_is); (case xs_Unfit => k_is); (case xt_Unfit => k_is); (case xi_Unfit => k_is); (case xg_Unfit => k_is); (case xh_Unfit => k_is); (case xc_Unfit => k_is); (case xm_Unfit => k_is); (case ca_Unfit => (first | rfl | decide +kernel)); (case xe_Unfit => k_exc); (case xa_BadText => k_is); (case xk_BadText => k_is); (case xs_BadText => k_is); (case xt_BadText => k_is); (case xi_BadText => k_is); (case xg_BadText => k_is); (case xh_BadText => k_is); (case xc_BadText => k_is); (case xm_BadText => k_is); (case ca_BadText => (first | rfl | decide +kernel)); (case xe_BadText => k_exc); (case xa_Level => k_is); (case xk_Level => k_is); (case xs_Level => k_is); (case xt_Level => k_is); (case xi_Level => k_is); (case xg_Level => k_is); (case xh_Level => k_is); (case xc_Level => k_is); (case xm_Level => k_is); (case ca_Level => (first | rfl | decide +kernel)); (case xe_Level => k_exc); (case xa_Few => k_is); (case xk_Few => k_is); (case xs_Few => k_is); (case xt_Few => k_is); (case xi_Few => k_is); (case xg_Few => k_is); (case xh_Few => k_is); (case xc_Few => k_is); (case xm_Few => k_is); (case ca_Few => (first | rfl | decide +kernel)); (case xe_Few => k_exc); (case xa_TooManyEdits => k_is); (case xk_TooManyEdits => k_is); (case xs_TooManyEdits => k_is); (case xt_TooManyEdits => k_is); (case xi_TooManyEdits => k_is); (case xg_TooManyEdits => k_is); (case xh_TooManyEdits => k_is); (case xc_TooManyEdits => k_is); (case xm_TooManyEdits => k_is); (case ca_TooManyEdits => (first | rfl | decide +kernel)); (case xe_TooManyEdits => k_exc); (case xa_NothingToUndo => k_is); (case xk_NothingToUndo => k_is); (case xs_NothingToUndo => k_is); (case xt_NothingToUndo => k_is); (case xi_NothingToUndo => k_is); (case xg_NothingToUndo => k_is); (case xh_NothingToUndo => k_is); (case xc_NothingToUndo => k_is); (case xm_NothingToUndo => k_is); (case ca_NothingToUndo => (first | rfl | decide +kernel)); (case xe_NothingToUndo => k_exc); (case xa_NothingToRedo => k_is); (case xk_NothingToRedo => k_is); (case xs_NothingToRedo => k_is); (case xt_NothingToRedo => k_is); (case xi_NothingToRedo => k_is); (case xg_NothingToRedo => k_is); (case xh_NothingToRedo => k_is); (case xc_NothingToRedo => k_is); (case xm_NothingToRedo => k_is); (case ca_NothingToRedo => (first | rfl | decide +kernel)); (case xe_NothingToRedo => k_exc); (case xa_NoVersion => k_is); (case xk_NoVersion => k_is); (case xs_NoVersion => k_is); (case xt_NoVersion => k_is); (case xi_NoVersion => k_is); (case xg_NoVersion => k_is); (case xh_NoVersion => k_is); (case xc_NoVersion => k_is); (case xm_NoVersion => k_is); (case ca_NoVersion => (first | rfl | decide +kernel)); (case qx_all => (first | rfl | decide +kernel)); (case qt_NoVersion => (first | rfl | decide +kernel)); (case xa_Unlevel => k_is); (case xk_Unlevel => k_is); (case xs_Unlevel => k_is); (case xt_Unlevel => k_is); (case xi_Unlevel => k_is); (case xg_Unlevel => k_is); (case xh_Unlevel => k_is); (case xc_Unlevel => k_is); (case xm_Unlevel => k_is); (case ca_Unlevel => (first | rfl | decide +kernel)); (case qt_Unlevel => (first | rfl | decide +kernel)); (case xa_TooMany => k_is); (case xk_TooMany => k_is); (case xs_TooMany => k_is); (case xt_TooMany => k_is); (case xi_TooMany => k_is); (case xg_TooMany => k_is); (case xh_TooMany => k_is); (case xc_TooMany => k_is); (case xm_TooMany => k_is); (case ca_TooMany => (first | rfl | decide +kernel)); (case qt_TooMany => (first | rfl | decide +kernel)); (case xa_BadBook => k_is); (case xk_BadBook => k_is); (case xs_BadBook => k_is); (case xt_BadBook => k_is); (case xi_BadBook => k_is); (case xg_BadBook => k_is); (case xh_BadBook => k_is); (case xc_BadBook => k_is); (case xm_BadBook => k_is); (case ca_BadBook => (first | rfl | decide +kernel)); (case qt_BadBook => (first | rfl | decide +kernel)); (case qt_BadText => (first | rfl | decide +kernel)); (case qt_Unfit => (first | rfl | decide +kernel)); (case xa_BadLog => k_is); (case xk_BadLog => k_is); (case xs_BadLog => k_is); (case xt_BadLog => k_is); (case xi_BadLog => k_is); (case xg_BadLog => k_is); (case xh_BadLog => k_is); (case xc_BadLog => k_is); (case xm_BadLog => k_is); (case ca_BadLog => (first | rfl | decide +kernel)); (case qt_BadLog => (first | rfl | decide +kernel)); (case qt_TooManyEdits => (first | rfl | decide +kernel)); (case qt_Few => (first | rfl | decide +kernel)); (case qt_Level => (first | rfl | decide +kernel)); (case qt_NothingToRedo => (first | rfl | decide +kernel)); (case qt_NothingToUndo => (first | rfl | decide +kernel)); (case qt_FieldsError => (first | rfl | decide +kernel)); (case qt_ValueError => (first | rfl | decide +kernel)); (case yhiC_BadBook => k_is); (case yhtI_BadBook => k_is); (case yhlC_BadBook => k_is); (case yhvb_BadBook => (first | rfl | decide +kernel)); (case yhsa_BadBook => k_is); (case yhlI_BadBook => k_is); (case yhhcd_BadBook => k_is); (case yhlD_BadBook => k_is); (case yhhvs_BadBook => rfl); (case yhhfile_BadBook => (first | rfl | decide +kernel)); (case yhlc_BadBook => k_is); (case yhmro_BadBook => k_is); (case yany => k_is); (case yhsup_BadBook => ks_is); (case yhsb_BadBook => k_is); (case yhexi_BadBook => kx_is); (case yhfl_BadBook => k_is); (case ysup => k_is); (case ytop => (first | rfl | decide +kernel)); (case yhT_BadBook => exact ⟨⟨_, rfl, rfl⟩, by decide, rfl, rfl, rfl, rfl, by decide, rfl, rfl, rfl, rfl, rfl, fun _ => rfl, fun _ => ⟨_, rfl⟩, fun _ => rfl, fun _ => rfl⟩); (case yhhb_BadBook => exact L2.Binds.all fun us hl => match us, hl with | [_, _], _ => rfl); (case yhk2_BadBook => exact fun _ _ _ => .of_eq rfl); (case xd_BadBook => k_is); (case xn_BadBook_error => k_is); (case yhiC_TooMany => k_is); (case yhtI_TooMany => k_is); (case yhlC_TooMany => k_is); (case yhvb_TooMany => (first | rfl | decide +kernel)); (case yhsa_TooMany => k_is); (case yhlI_TooMany => k_is); (case yhhcd_TooMany => k_is); (case yhlD_TooMany => k_is); (case yhhvs_TooMany => rfl); (case yhhfile_TooMany => (first | rfl | decide +kernel)); (case yhlc_TooMany => k_is); (case yhmro_TooMany => k_is); (case yhsup_TooMany => ks_is); (case yhsb_TooMany => k_is); (case yhexi_TooMany => kx_is); (case yhfl_TooMany => k_is); (case yhT_TooMany => exact ⟨⟨_, rfl, rfl⟩, by decide, rfl, rfl, rfl, rfl, by decide, rfl, rfl, rfl, rfl, rfl, fun _ => rfl, fun _ => ⟨_, rfl⟩, fun _ => rfl, fun _ => rfl⟩); (case yhhb_TooMany => exact L2.Binds.all fun us hl => match us, hl with | [_, _], _ => rfl); (case yhk2_TooMany => exact fun _ _ _ => .of_eq rfl); (case xd_TooMany => k_is); (case xn_TooMany_limit => k_is); (case yhiC_Unlevel => k_is); (case yhtI_Unlevel => k_is); (case yhlC_Unlevel => k_is); (case yhvb_Unlevel => (first | rfl | decide +kernel)); (case yhsa_Unlevel => k_is); (case yhlI_Unlevel => k_is); (case yhhcd_Unlevel => k_is); (case yhlD_Unlevel => k_is); (case yhhvs_Unlevel => rfl); (case yhhfile_Unlevel => (first | rfl | decide +kernel)); (case yhlc_Unlevel => k_is); (case yhmro_Unlevel => k_is); (case yhsup_Unlevel => ks_is); (case yhsb_Unlevel => k_is); (case yhexi_Unlevel => kx_is); (case yhfl_Unlevel => k_is); (case yhT_Unlevel => exact ⟨⟨_, rfl, rfl⟩, by decide, rfl, rfl, rfl, rfl, by decide, rfl, rfl, rfl, rfl, rfl, fun _ => rfl, fun _ => ⟨_, rfl⟩, fun _ => rfl, fun _ => rfl⟩); (case yhhb_Unlevel => exact L2.Binds.all fun us hl => match us, hl with | [_, _], _ => rfl); (case yhk2_Unlevel => exact fun _ _ _ => .of_eq rfl); (case xd_Unlevel => k_is); (case xn_Unlevel_pair => k_is); (case yhiC_NoVersion => k_is); (case yhtI_NoVersion => k_is); (case yhlC_NoVersion => k_is); (case yhvb_NoVersion => (first | rfl | decide +kernel)); (case yhsa_NoVersion => k_is); (case yhlI_NoVersion => k_is); (case yhhcd_NoVersion => k_is); (case yhlD_NoVersion => k_is); (case yhhvs_NoVersion => rfl); (case yhhfile_NoVersion => (first | rfl | decide +kernel)); (case yhlc_NoVersion => k_is); (case yhmro_NoVersion => k_is); (case yhsup_NoVersion => ks_is); (case yhsb_NoVersion => k_is); (case yhexi_NoVersion => kx_is); (case yhfl_NoVersion => k_is); (case yhT_NoVersion => exact ⟨⟨_, rfl, rfl⟩, by decide, rfl, rfl, rfl, rfl, by decide, rfl, rfl, rfl, rfl, rfl, fun _ => rfl, fun _ => ⟨_, rfl⟩, fun _ => rfl, fun _ => rfl⟩); (case yhhb_NoVersion => exact L2.Binds.all fun us hl => match us, hl with | [_, _], _ => rfl); (case yhk2_NoVersion => exact fun _ _ _ => .of_eq rfl); (case xd_NoVersion => k_is); (case xn_NoVersion_given => k_is); (case yhiC_BadLog => k_is); (case yhtI_BadLog => k_is); (case yhlC_BadLog => k_is); (case yhvb_BadLog => (first | rfl | decide +kernel)); (case yhsa_BadLog => k_is); (case yhlI_BadLog => k_is); (case yhhcd_BadLog => k_is); (case yhlD_BadLog => k_is); (case yhhvs_BadLog => rfl); (case yhhfile_BadLog => (first | rfl | decide +kernel)); (case yhlc_BadLog => k_is); (case yhmro_BadLog => k_is); (case yhsup_BadLog => ks_is); (case yhsb_BadLog => k_is); (case yhexi_BadLog => kx_is); (case yhfl_BadLog => k_is); (case yhT_BadLog => exact ⟨⟨_, rfl, rfl⟩, by decide, rfl, rfl, rfl, rfl, by decide, rfl, rfl, rfl, rfl, rfl, fun _ => rfl, fun _ => ⟨_, rfl⟩, fun _ => rfl, fun _ => rfl⟩); (case yhhb_BadLog => exact L2.Binds.all fun us hl => match us, hl with | [_, _], _ => rfl); (case yhk2_BadLog => exact fun _ _ _ => .of_eq rfl); (case xd_BadLog => k_is); (case xn_BadLog_place => k_is)
