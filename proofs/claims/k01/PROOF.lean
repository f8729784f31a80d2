import PyProof.Rows.All
import Wide.All
import OpenK.AllK
import Wide.FinOn
import HandS.ForMost
import HandS.Wide
import HandS.Walk
import PyProof.ReprRoads
import KE.KeyNested
import HandS.Exc
import HandS.ExcField
import HandS.TupAny
import HandS.TupMul
import HandS.SetFor
import KE.GoesNew
import KE.GoesMore
import KE.BitLaws
import HandS.More
import HandS.Conv
import HandS.Text
import HandS.FStr
import HandS.IsInst
import HandS.Deep
import HandS.Strs
import HandS.SortOrd
import HandS.SortRule
import HandS.TupSets
import HandS.Style
import HandS.ExcOwn
import HandS.TryOnly
import HandS.WordsExc
import KE.KExcIs
import PyProof.DictRoadsH
import PyProof.Rows.TupDisplay
import HandS.Dict
import KE.KDictPairs
import KE.DatumOrd
import PyProof.ListRange
import PyProof.TupleOfSeq
import HandS.SortKw
import HandS.SortInts
import HandS.TupLe
import PyProof.Rows.SortKeyStr
import HandS.ExcInit
import KE.KExcSuper
import HandS.TryMany
import HandS.ExcValue
import HandS.ExcBuiltin
import PyProof.StrOps2
import HandS.Iter
import KE.GoesNewDict
import HandS.SetBool
import KE.KDictCopyH
import KE.KDictOf
import HandS.Property
import PySem.Challenge.RW_fallingfields_k01_what_is_a_book
set_option Elab.async false
set_option linter.all false
set_option maxRecDepth 100000
namespace L3
open PySem PySem.Spec L2
/-- an exception: its class by its name, the one field that it has -/
structure Exn where
  cls : Str
  arg : Option (Str × PyData) := none
/-- values of all kinds: dicts (keys ints and texts), objects of a class by its name, their fields -/
inductive Dt where
  | non
  | bl (b : Bool)
  | int (i : Int)
  | str (x : Str)
  | lst (xs : List Dt)
  | tup (xs : List Dt)
  | dic (ks : List Key) (xs : List Dt)
  | obj (c : Str) (fs : List Str) (xs : List Dt)
inductive T where
  | d (x : PyData)
  | mr (i : Nat)
  | lr (i : Nat)
  | scr (ns : List Int)
  | wt (xs : List PyData)
  | exo (a : Addr) (cls : Value) (d : Option Addr) (e : Exn)
  | q (x : Dt)
abbrev T.int (i : Int) : T := .d (.int i)
abbrev T.bl (b : Bool) : T := .d (.bool b)
abbrev T.non : T := .d .none
abbrev T.str (x : Str) : T := .d (.str x)
abbrev T.lst (x : List PyData) : T := .d (.list x)
abbrev T.tup (x : List PyData) : T := .d (.tuple x)
inductive Cell where
  | lst (ts : List T)
  | dct (kvs : List (Key × T))
  | dnk (kvs : List (NestedKey × T))
  | held (u : HO)
  | dnd (kvs : List (PyData × T))
  | exc (f : Str) (e : Exn)
  | ins (c : Str) (fs : List (Str × T))
  | tup (ts : List T)
structure Mem where
  D : List Cell
  L : List (Option (List PyData))
/-- a tuple that is known to have no names of its own -/
def TupC (K : PySem.W.Frag) (G : Hp) (a : Addr) (xs : List V) : Prop := (∃ o : Obj, G a = some (.frz o (.tup xs)) ∧ o.dict = none) ∨
  ∃ o its n, List.lookup a K = some o ∧ o.cls = Value.type "tuple" ∧ o.dict = none ∧ o.data = Data.seq its n ∧ its.size ≤ sizeLine ∧ Vals xs its.toList
theorem TupC.t {K : PySem.W.Frag} {G : Hp} {a : Addr} {xs : List V} : TupC K G a xs → SqT K G a xs
  | .inl ⟨o, e, _⟩ => .inl (.inr ⟨o, e⟩)
  | .inr ⟨o, its, n, h1, h2, _, h3, h4, h5⟩ => .inr ⟨o, its, n, h1, h2, h3, h4, h5⟩
theorem TupC.mono {K : PySem.W.Frag} {G G' : Hp} (g : ∀ a o, G a = some o → G' a = some o) {a : Addr} {xs : List V} : TupC K G a xs → TupC K G' a xs
  | .inl ⟨o, e, h⟩ => .inl ⟨o, g _ _ e, h⟩
  | .inr h => .inr h
mutual
inductive Rp (K : PySem.W.Frag) (G : Hp) : V → PyData → Prop
  | non : Rp K G .non .none
  | bl (b : Bool) : Rp K G (.bl b) (.bool b)
  | int (i : Int) : Rp K G (.int i) (.int i)
  | str (x : Str) : Rp K G (.str x) (.str x)
  | lst {a : Addr} {xs : List V} {ds : List PyData} : G a = some (.lst xs) → RpA K G xs ds → Rp K G (.ref a) (.list ds)
  | tup {a : Addr} {xs : List V} {ds : List PyData} : TupC K G a xs → RpA K G xs ds → Rp K G (.ref a) (.tuple ds)
inductive RpA (K : PySem.W.Frag) (G : Hp) : List V → List PyData → Prop
  | nil : RpA K G [] []
  | cons {v : V} {vs : List V} {d : PyData} {ds : List PyData} : Rp K G v d → RpA K G vs ds → RpA K G (v :: vs) (d :: ds)
end
/-- an exception that was caught: an object of ours at a, its class cls, its dict d -/
def exh (a : Addr) (cls : Value) (d : Option Addr) : HO := .ext fun h => ∃ (oe : Obj) (vs : Array Value), h.get? a = some oe ∧ Zc cls d oe ∧ oe.data = .fields vs
/-- where the class of a name stands -/
def CA (K : PySem.W.Frag) (c : Str) : Option Addr := K.findSome? fun p => match p.2.data with
  | .cls k => if k.name == c then some p.1 else none
  | _ => none
mutual
inductive Rq (K : PySem.W.Frag) (G : Hp) : V → Dt → Prop
  | non : Rq K G .non .non
  | bl (b : Bool) : Rq K G (.bl b) (.bl b)
  | int (i : Int) : Rq K G (.int i) (.int i)
  | str (x : Str) : Rq K G (.str x) (.str x)
  | lst {a : Addr} {xs : List V} {ds : List Dt} : G a = some (.lst xs) → RqA K G xs ds → Rq K G (.ref a) (.lst ds)
  | tup {a : Addr} {xs : List V} {ds : List Dt} : TupC K G a xs → RqA K G xs ds → Rq K G (.ref a) (.tup ds)
  | dic {a : Addr} {kvs : List (Key × V)} {ks : List Key} {vs : List V} {ds : List Dt} : G a = some (.dK kvs) → kvs.map (·.1) = ks → kvs.map (·.2) = vs → RqA K G vs ds → Rq K G (.ref a) (.dic ks ds)
  | obj {a C : Addr} {c : Str} : CA K c = some C → G a = some (exh a (.ref C) none) → Rq K G (.ref a) (.obj c [] [])
  | obj1 {a C dd : Addr} {c f : Str} {v : V} {x : Dt} : CA K c = some C → G a = some (exh a (.ref C) (some dd)) → G dd = some (.xd [(f, v)]) → Rq K G v x → Rq K G (.ref a) (.obj c [f] [x])
  | ins {a C dx : Addr} {c g : Str} {fs : List (Str × V)} {gs : List Str} : CA K c = some C → G a = some (.ins C dx fs) → Rq K G (.ref a) (.obj c (g :: gs) [])
inductive RqA (K : PySem.W.Frag) (G : Hp) : List V → List Dt → Prop
  | nil : RqA K G [] []
  | cons {v : V} {vs : List V} {d : Dt} {ds : List Dt} : Rq K G v d → RqA K G vs ds → RqA K G (v :: vs) (d :: ds)
end
/-- what stands frozen, the deck's addresses, the frame's own -/
structure Bk where
  G : Hp
  r : List Addr
  l : List Addr
/-- what an exception's own dict d holds -/
def ExR (K : PySem.W.Frag) (G : Hp) (d : Option Addr) (e : Exn) : Prop := match e.arg with
  | none => d = none
  | some (f, x) => ∃ dd v, d = some dd ∧ G dd = some (.xd [(f, v)]) ∧ Rp K G v x
mutual
/-- a key that no text is in, not too deep: its hash is the same in each world -/
def okKey : Nat → NestedKey → Bool
  | _, .none => true
  | _, .num _ => true
  | _, .text _ => false
  | 0, .tup _ => false
  | n + 1, .tup ks => okKeys n ks
def okKeys : Nat → List NestedKey → Bool
  | _, [] => true
  | n, k :: ks => okKey n k && okKeys n ks
end
mutual
/-- the key that a tree is: True is the number 1 -/
def nk : PyData → Option NestedKey
  | .none => some .none
  | .bool b => some (.num (if b = true then 1 else 0))
  | .int i => some (.num i)
  | .str x => some (.text x)
  | .tuple ds => (nks ds).map NestedKey.tup
  | _ => none
def nks : List PyData → Option (List NestedKey)
  | [] => some []
  | d :: ds => match nk d, nks ds with
    | some k, some ks => some (k :: ks)
    | _, _ => none
end
/-- a dict at a with the keys, the keys' own addresses, the values of es -/
def DNok (a : Addr) (es : List (NestedKey × Addr × V)) (h : Heap) : Prop := es.length ≤ sizeLine ∧ (a == sysModules) = false ∧ (es.map (·.1)).Nodup ∧
  ∃ (w : World) (xs : List (NestedKey × Addr × Value)), Paired (fun (p : NestedKey × Addr × V) (q : NestedKey × Addr × Value) => p.1 = q.1 ∧ p.2.1 = q.2.1 ∧ RelV p.2.2 q.2.2) es xs ∧
    ∃ o ds ep, h.get? a = some o ∧ o.ExactDict ∧ o.data = .dict ds ep ∧ ds.toList = xs.map fun x => (⟨x.1.hash w, .ref x.2.1, x.2.2⟩ : DictEntry)
def Rt (K : PySem.W.Frag) (B : Bk) : V → T → Prop
  | v, .d x => Rp K B.G v x
  | v, .mr i => ∃ a, v = .ref a ∧ B.r[i]? = some a
  | v, .lr i => ∃ a, v = .ref a ∧ B.l[i]? = some a
  | v, .scr ns => ∃ a, v = .ref a ∧ SqL K B.G a (ns.map V.int)
  | v, .wt ds => ∃ a xs, v = .ref a ∧ SqT K B.G a xs ∧ RpA K B.G xs ds
  | v, .exo a _ d e => v = .ref a ∧ ExR K B.G d e
  | v, .q x => Rq K B.G v x
def CellAt (K : PySem.W.Frag) (B : Bk) (H : Hp) (a : Addr) : Cell → Prop
  | .lst ts => ∃ xs, H a = some (.lst xs) ∧ Paired (Rt K { B with l := [] }) xs ts
  | .dct kvs => ∃ vs, H a = some (.dK vs) ∧ Paired (fun (p : Key × V) (q : Key × T) => p.1 = q.1 ∧ Rt K { B with l := [] } p.2 q.2) vs kvs
  | .held u => H a = some u
  | .ins c fs => ∃ (C dx : Addr) (vs : List (Str × V)), CA K c = some C ∧ H a = some (.ins C dx vs) ∧ Paired (fun (p : Str × V) (q : Str × T) => p.1 = q.1 ∧ Rt K { B with l := [] } p.2 q.2) vs fs
  | .tup ts => ∃ (o : Obj) (xs : List V), H a = some (.frz o (.tup xs)) ∧ o.dict = none ∧ Paired (Rt K { B with l := [] }) xs ts
  | .exc f e => ∃ (C : Addr) (d : Option Addr), H a = some (exh a (.ref C) d) ∧ ExR K B.G d e ∧ XfC K C ∧ PySem.W.findIn K (.ref C) f = some none
  | .dnd kvs => ∃ es, H a = some (.ext (DNok a es)) ∧ Paired (fun (p : NestedKey × Addr × V) (q : PyData × T) => nk q.1 = some p.1 ∧ okKey 8 p.1 = true ∧ Rp K B.G (.ref p.2.1) q.1 ∧ Rt K { B with l := [] } p.2.2 q.2) es kvs
  | .dnk kvs => ∃ es, H a = some (.ext (DNok a es)) ∧ Paired (fun (p : NestedKey × Addr × V) (q : NestedKey × T) => p.1 = q.1 ∧ okKey 8 q.1 = true ∧ Rp K B.G (.ref p.2.1) q.1.data ∧ Rt K { B with l := [] } p.2.2 q.2) es kvs
/-- the world: the heap H holds the memory M by the book B -/
structure Wd (K : PySem.W.Frag) (B : Bk) (M : Mem) (H : Hp) : Prop where
  le : ∀ a o, B.G a = some o → H a = some o
  rlen : B.r.length = M.D.length
  llen : B.l.length = M.L.length
  nd : (B.r ++ B.l).Nodup
  dc : ∀ (i : Nat) (a : Addr) (c : Cell), B.r[i]? = some a → M.D[i]? = some c → B.G a = none ∧ CellAt K B H a c
  lc : ∀ (i : Nat) (a : Addr) (ds : List PyData), B.l[i]? = some a → M.L[i]? = some (some ds) → B.G a = none ∧ ∃ xs, H a = some (.lst xs) ∧ RpA K B.G xs ds
  tr : ∀ a, a ∈ B.r ++ B.l → H a ≠ none
structure Ext (B : Bk) (H : Hp) (B' : Bk) (H' : Hp) : Prop where
  g : ∀ a o, B.G a = some o → B'.G a = some o
  r : B.r <+: B'.r
  l : B.l <+: B'.l
  fr : ∀ a o, H a = some o → a ∉ B.r → a ∉ B.l → H' a = some o
  tr : ∀ a, H' a = none → H a = none
  rn : ∀ a, a ∈ B'.r → a ∈ B.r ∨ H a = none
  ln : ∀ a, a ∈ B'.l → a ∈ B.l ∨ H a = none
  gf : ∀ a o, B'.G a = some o → B.G a = some o ∨ H a = none ∨ a ∈ B.l
theorem Ext.refl (B : Bk) (H : Hp) : Ext B H B H :=
  ⟨fun _ _ e => e, List.prefix_refl _, List.prefix_refl _, fun _ _ e _ _ => e, fun _ e => e, fun _ e => .inl e, fun _ e => .inl e, fun _ _ e => .inl e⟩
theorem Ext.trans {B B1 B2 : Bk} {H H1 H2 : Hp} (x : Ext B H B1 H1) (y : Ext B1 H1 B2 H2) : Ext B H B2 H2 where
  g a o e := y.g a o (x.g a o e)
  r := x.r.trans y.r
  l := x.l.trans y.l
  fr a o e nr nl := by
    refine y.fr a o (x.fr a o e nr nl) (fun z => ?_) (fun z => ?_)
    · rcases x.rn a z with q | q
      · exact nr q
      · rw [e] at q; cases q
    · rcases x.ln a z with q | q
      · exact nl q
      · rw [e] at q; cases q
  tr a e := x.tr a (y.tr a e)
  rn a e := by
    rcases y.rn a e with q | q
    · exact x.rn a q
    · exact .inr (x.tr a q)
  ln a e := by
    rcases y.ln a e with q | q
    · exact x.ln a q
    · exact .inr (x.tr a q)
  gf a o e := by
    rcases y.gf a o e with q | q | q
    · exact x.gf a o q
    · exact .inr (.inl (x.tr a q))
    · rcases x.ln a q with z | z
      · exact .inr (.inr z)
      · exact .inr (.inl z)
mutual
theorem Rp.mono {K : PySem.W.Frag} {G G' : Hp} (g : ∀ a o, G a = some o → G' a = some o) : ∀ {v : V} {x : PyData}, Rp K G v x → Rp K G' v x
  | _, _, .non => .non
  | _, _, .bl b => .bl b
  | _, _, .int i => .int i
  | _, _, .str x => .str x
  | _, _, .lst e q => .lst (g _ _ e) (RpA.mono g q)
  | _, _, .tup e q => .tup (e.mono g) (RpA.mono g q)
theorem RpA.mono {K : PySem.W.Frag} {G G' : Hp} (g : ∀ a o, G a = some o → G' a = some o) : ∀ {v : List V} {x : List PyData}, RpA K G v x → RpA K G' v x
  | _, _, .nil => .nil
  | _, _, .cons p q => .cons (Rp.mono g p) (RpA.mono g q)
end
mutual
theorem Rq.mono {K : PySem.W.Frag} {G G' : Hp} (g : ∀ a o, G a = some o → G' a = some o) : ∀ {v : V} {x : Dt}, Rq K G v x → Rq K G' v x
  | _, _, .non => .non
  | _, _, .bl b => .bl b
  | _, _, .int i => .int i
  | _, _, .str x => .str x
  | _, _, .lst e q => .lst (g _ _ e) (RqA.mono g q)
  | _, _, .tup e q => .tup (e.mono g) (RqA.mono g q)
  | _, _, .dic e k v q => .dic (g _ _ e) k v (RqA.mono g q)
  | _, _, .obj c e => .obj c (g _ _ e)
  | _, _, .obj1 c e e2 q => .obj1 c (g _ _ e) (g _ _ e2) (Rq.mono g q)
  | _, _, .ins c e => .ins c (g _ _ e)
theorem RqA.mono {K : PySem.W.Frag} {G G' : Hp} (g : ∀ a o, G a = some o → G' a = some o) : ∀ {v : List V} {x : List Dt}, RqA K G v x → RqA K G' v x
  | _, _, .nil => .nil
  | _, _, .cons p q => .cons (Rq.mono g p) (RqA.mono g q)
end
theorem SqL.mono {K : PySem.W.Frag} {G G' : Hp} (g : ∀ a o, G a = some o → G' a = some o) {a : Addr} {xs : List V} (e : SqL K G a xs) : SqL K G' a xs := by
  rcases e with e | e
  · rcases e with e | ⟨o, e⟩
    · exact .inl (.inl (g _ _ e))
    · exact .inl (.inr ⟨o, g _ _ e⟩)
  · exact .inr e
theorem SqT.mono0 {K : PySem.W.Frag} {G G' : Hp} (g : ∀ a o, G a = some o → G' a = some o) {a : Addr} {xs : List V} (e : SqT K G a xs) : SqT K G' a xs := by
  rcases e with e | e
  · rcases e with e | ⟨o, e⟩
    · exact .inl (.inl (g _ _ e))
    · exact .inl (.inr ⟨o, g _ _ e⟩)
  · exact .inr e
/-- what a clean tuple is in a greater heap -/
theorem SqT.mono {K : PySem.W.Frag} {G G' : Hp} (g : ∀ a o, G a = some o → G' a = some o) {a : Addr} {xs : List V} (e : TupC K G a xs) : SqT K G' a xs := (e.mono g).t
theorem get_prefix {α : Type} {a b : List α} (p : a <+: b) {i : Nat} {x : α} (e : a[i]? = some x) : b[i]? = some x := by
  obtain ⟨c, rfl⟩ := p
  rw [List.getElem?_append_left (by
    rcases Nat.lt_or_ge i a.length with q | q
    · exact q
    · rw [List.getElem?_eq_none q] at e; cases e)]
  exact e
theorem ExR.mono {K : PySem.W.Frag} {G G' : Hp} (g : ∀ a o, G a = some o → G' a = some o) {d : Option Addr} {e : Exn} (h : ExR K G d e) : ExR K G' d e := by
  unfold ExR at h ⊢
  split at h
  · exact h
  · obtain ⟨dd, v, h1, h2, h3⟩ := h
    exact ⟨dd, v, h1, g _ _ h2, Rp.mono g h3⟩
theorem Rt.mono' {K : PySem.W.Frag} {B B' : Bk} (g : ∀ a o, B.G a = some o → B'.G a = some o) (r : B.r <+: B'.r) (l : B.l <+: B'.l) {v : V} {t : T} (h : Rt K B v t) : Rt K B' v t := by
  cases t with
  | d x => exact Rp.mono g h
  | mr i => obtain ⟨a, e, q⟩ := h; exact ⟨a, e, get_prefix r q⟩
  | lr i => obtain ⟨a, e, q⟩ := h; exact ⟨a, e, get_prefix l q⟩
  | scr ns => obtain ⟨a, e, q⟩ := h; exact ⟨a, e, SqL.mono g q⟩
  | wt xs => obtain ⟨a, vs, e, q, r⟩ := h; exact ⟨a, vs, e, SqT.mono0 g q, RpA.mono g r⟩
  | exo a c d e => exact ⟨h.1, h.2.mono g⟩
  | q x => exact Rq.mono g h
theorem Rt.mono {K : PySem.W.Frag} {B B' : Bk} {H H' : Hp} (x : Ext B H B' H') {v : V} {t : T} (h : Rt K B v t) : Rt K B' v t := Rt.mono' x.g x.r x.l h
theorem Paired.imp {α β : Type} {F F' : α → β → Prop} (f : ∀ a b, F a b → F' a b) : ∀ {l : List α} {m : List β}, Paired F l m → Paired F' l m
  | _, _, .nil => .nil
  | _, _, .cons h q => .cons (f _ _ h) (Paired.imp f q)
theorem Rts.mono {K : PySem.W.Frag} {B B' : Bk} {H H' : Hp} (x : Ext B H B' H') {v : List V} {t : List T} (h : Paired (Rt K B) v t) : Paired (Rt K B') v t := Paired.imp (fun _ _ q => Rt.mono x q) h
abbrev En := List (Option T)
structure Sl (K : PySem.W.Frag) (B : Bk) (σ : St) (τ : En) : Prop where
  len : σ.length = τ.length
  at_ : ∀ (i : Nat) (t : T), τ[i]? = some (some t) → ∃ v, σ[i]? = some (some v) ∧ Rt K B v t
theorem Sl.mono {K : PySem.W.Frag} {B B' : Bk} {H H' : Hp} (x : Ext B H B' H') {σ : St} {τ : En} (s : Sl K B σ τ) : Sl K B' σ τ :=
  ⟨s.len, fun i t e => let ⟨v, h, q⟩ := s.at_ i t e; ⟨v, h, Rt.mono x q⟩⟩
theorem Sl.set {K : PySem.W.Frag} {B : Bk} {σ : St} {τ : En} (s : Sl K B σ τ) (i : Nat) {v : V} {t : T} (q : Rt K B v t) : Sl K B (σ.set i (some v)) (τ.set i (some t)) := by
  refine ⟨by rw [List.length_set, List.length_set, s.len], fun j u e => ?_⟩
  by_cases h : i = j
  · subst h
    rcases Nat.lt_or_ge i τ.length with z | z
    · rw [List.getElem?_set_self z] at e
      cases e
      exact ⟨v, by rw [List.getElem?_set_self (by rw [s.len]; exact z)], q⟩
    · rw [List.getElem?_eq_none (by rw [List.length_set]; exact z)] at e
      cases e
  · rw [List.getElem?_set_ne h] at e
    obtain ⟨w, h1, h2⟩ := s.at_ j u e
    exact ⟨w, by rw [List.getElem?_set_ne h]; exact h1, h2⟩
theorem Sl.clr {K : PySem.W.Frag} {B : Bk} {σ : St} {τ : En} (s : Sl K B σ τ) (i : Nat) : Sl K B (σ.set i none) (τ.set i none) := by
  refine ⟨by rw [List.length_set, List.length_set, s.len], fun j u e => ?_⟩
  by_cases h : i = j
  · subst h
    rcases Nat.lt_or_ge i τ.length with z | z
    · rw [List.getElem?_set_self z] at e
      cases e
    · rw [List.getElem?_eq_none (by rw [List.length_set]; exact z)] at e
      cases e
  · rw [List.getElem?_set_ne h] at e
    obtain ⟨w, h1, h2⟩ := s.at_ j u e
    exact ⟨w, by rw [List.getElem?_set_ne h]; exact h1, h2⟩
def wipeT (τ : En) : List Nat → En
  | [] => τ
  | v :: vs => (wipeT τ vs).set v none
theorem Sl.wipe {K : PySem.W.Frag} {B : Bk} {σ : St} {τ : En} (s : Sl K B σ τ) : ∀ vs : List Nat, Sl K B (L2.wipe σ vs) (wipeT τ vs)
  | [] => s
  | v :: vs => (Sl.wipe s vs).clr v
abbrev Kt := T → Mem → Prop
abbrev Me := En → Mem → Kt → Prop
abbrev Mb := En → Mem → (Bool → Mem → Prop) → Prop
abbrev Ma := En → Mem → (List T → Mem → Prop) → Prop
structure Es where
  nx : En → Mem → Prop
  rt : Kt
  bk : En → Mem → Prop := fun _ _ => False
  ct : En → Mem → Prop := fun _ _ => False
abbrev Ms := Es → En → Mem → Prop
abbrev Mg := T → En → Mem → (En → Mem → Prop) → Prop
def rE (K : PySem.W.Frag) (m : Me) : TE := fun σ H Q' => ∃ τ M B Q, m τ M Q ∧ Wd K B M H ∧ Sl K B σ τ ∧ ∀ v t M' B' H', Q t M' → Wd K B' M' H' → Ext B H B' H' → Rt K B' v t → Q' v H'
def rB (K : PySem.W.Frag) (m : Mb) : TT := fun σ H Q' => ∃ τ M B Q, m τ M Q ∧ Wd K B M H ∧ Sl K B σ τ ∧ ∀ b M' B' H', Q b M' → Wd K B' M' H' → Ext B H B' H' → Q' b H'
def rA (K : PySem.W.Frag) (m : Ma) : TA := fun σ H Q' => ∃ τ M B Q, m τ M Q ∧ Wd K B M H ∧ Sl K B σ τ ∧ ∀ v t M' B' H', Q t M' → Wd K B' M' H' → Ext B H B' H' → Paired (Rt K B') v t → Q' v H'
/-- what is wanted behind a statement, told over trees -/
structure Go (K : PySem.W.Frag) (E : Es) (D : Ends) (B : Bk) (H : Hp) : Prop where
  nx : ∀ τ' M' B' σ' H', E.nx τ' M' → Wd K B' M' H' → Ext B H B' H' → Sl K B' σ' τ' → D.nx σ' H'
  rt : ∀ v t M' B' H', E.rt t M' → Wd K B' M' H' → Ext B H B' H' → Rt K B' v t → D.rt v H'
  bk : ∀ τ' M' B' σ' H', E.bk τ' M' → Wd K B' M' H' → Ext B H B' H' → Sl K B' σ' τ' → D.bk σ' H'
  ct : ∀ τ' M' B' σ' H', E.ct τ' M' → Wd K B' M' H' → Ext B H B' H' → Sl K B' σ' τ' → D.ct σ' H'
theorem Go.ext {K : PySem.W.Frag} {E : Es} {D : Ends} {B B1 : Bk} {H H1 : Hp} (x : Ext B H B1 H1) (g : Go K E D B H) : Go K E D B1 H1 :=
  ⟨fun t m b s h q w e => g.nx t m b s h q w (x.trans e), fun v t m b h q w e => g.rt v t m b h q w (x.trans e), fun t m b s h q w e => g.bk t m b s h q w (x.trans e), fun t m b s h q w e => g.ct t m b s h q w (x.trans e)⟩
def rS (K : PySem.W.Frag) (m : Ms) : TS := fun D σ H => ∃ E : Es, ∃ τ M B, m E τ M ∧ Wd K B M H ∧ Sl K B σ τ ∧ Go K E D B H
/-- alike but for the slots os -/
structure Ag (os : List Nat) (σ σ' : St) : Prop where
  len : σ'.length = σ.length
  at_ : ∀ j : Nat, j ∉ os → σ'[j]? = σ[j]?
theorem Ag.trans {o o' : List Nat} {a b c : St} (x : Ag o a b) (y : Ag o' b c) : Ag (o ++ o') a c :=
  ⟨y.len.trans x.len, fun j n => (y.at_ j fun z => n (List.mem_append_right _ z)).trans (x.at_ j fun z => n (List.mem_append_left _ z))⟩
theorem wipe_at (σ : St) (j : Nat) : ∀ vs : List Nat, (L2.wipe σ vs)[j]? = if j ∈ vs then (if j < σ.length then some none else none) else σ[j]?
  | [] => by simp [L2.wipe]
  | v :: vs => by
    unfold L2.wipe
    by_cases h : v = j
    · subst h
      rw [if_pos (by simp)]
      by_cases q : v < σ.length
      · rw [List.getElem?_set_self (by rw [wipe_length]; exact q), if_pos q]
      · rw [List.getElem?_eq_none (by rw [List.length_set, wipe_length]; omega), if_neg q]
    · rw [List.getElem?_set_ne h, wipe_at σ j vs]
      by_cases q : j ∈ vs
      · rw [if_pos q, if_pos (List.mem_cons_of_mem _ q)]
      · rw [if_neg q, if_neg]
        intro z
        rcases List.mem_cons.mp z with z | z
        · exact h z.symm
        · exact q z
theorem Ag.wipe {os vs : List Nat} {σ σ' : St} (sub : ∀ j ∈ os, j ∈ vs) (x : Ag os (L2.wipe σ vs) σ') : L2.wipe σ' vs = L2.wipe σ vs := by
  apply List.ext_getElem?
  intro j
  have hl : σ'.length = σ.length := x.len.trans (wipe_length σ vs)
  rw [wipe_at, wipe_at, hl]
  by_cases h : j ∈ vs
  · rw [if_pos h, if_pos h]
  · rw [if_neg h, if_neg h, x.at_ j fun z => h (sub j z), wipe_at, if_neg h]
def rG (K : PySem.W.Frag) (os : List Nat) (m : Mg) : TG := fun v σ H Q' => ∃ t τ M B Q, m t τ M Q ∧ Wd K B M H ∧ Sl K B σ τ ∧ Rt K B v t ∧ ∀ τ' M' B' σ' H', Q τ' M' → Wd K B' M' H' → Ext B H B' H' → Sl K B' σ' τ' → Ag os σ σ' → Q' σ' H'
abbrev ME (X : Cx) (e : Expr) (m : Me) : Prop := PE X e (rE X.K m)
abbrev MB (X : Cx) (e : Expr) (m : Mb) : Prop := PT X e (rB X.K m)
abbrev MA (X : Cx) (e : List Expr) (m : Ma) : Prop := PA X e (rA X.K m)
abbrev MS (X : Cx) (e : Stmt) (m : Ms) : Prop := PS X e (rS X.K m)
abbrev MSs (X : Cx) (e : List Stmt) (m : Ms) : Prop := PSs X e (rS X.K m)
abbrev MG (X : Cx) (e : Expr) (os : List Nat) (m : Mg) : Prop := PG X e (rG X.K os m)
theorem PE.of {X : Cx} {e : Expr} {t t' : TE} (h : PE X e t) (w : ∀ σ H Q, t' σ H Q → t σ H Q) : PE X e t' := ⟨fun _ _ _ _ _ iv q => h.run _ _ _ _ _ iv (w _ _ _ q)⟩
theorem PT.of {X : Cx} {e : Expr} {t t' : TT} (h : PT X e t) (w : ∀ σ H Q, t' σ H Q → t σ H Q) : PT X e t' := ⟨fun _ _ _ _ _ iv q => h.run _ _ _ _ _ iv (w _ _ _ q)⟩
theorem PW.of {X : Cx} {e : Expr} {t t' : TT} (h : PW X e t) (w : ∀ σ H Q, t' σ H Q → t σ H Q) : PW X e t' := ⟨fun _ _ _ _ _ _ iv q => h.run _ _ _ _ _ _ iv (w _ _ _ q)⟩
theorem PA.of {X : Cx} {e : List Expr} {t t' : TA} (h : PA X e t) (w : ∀ σ H Q, t' σ H Q → t σ H Q) : PA X e t' := ⟨fun _ _ _ _ _ _ iv q => h.run _ _ _ _ _ _ iv (w _ _ _ q)⟩
theorem PS.of {X : Cx} {e : Stmt} {t t' : TS} (h : PS X e t) (w : ∀ D σ H, t' D σ H → t D σ H) : PS X e t' := ⟨fun _ _ _ _ _ iv q => h.run _ _ _ _ _ iv (w _ _ _ q)⟩
theorem PSs.of {X : Cx} {e : List Stmt} {t t' : TS} (h : PSs X e t) (w : ∀ D σ H, t' D σ H → t D σ H) : PSs X e t' := ⟨fun _ _ _ _ _ iv q => h.run _ _ _ _ _ iv (w _ _ _ q)⟩
theorem PG.of {X : Cx} {e : Expr} {t t' : TG} (h : PG X e t) (w : ∀ v σ H Q, t' v σ H Q → t v σ H Q) : PG X e t' := ⟨fun _ _ _ _ _ _ _ iv rv q => h.run _ _ _ _ _ _ _ iv rv (w _ _ _ _ q)⟩
section
variable {X : Cx} {a b c e : Expr} {es : List Expr} {ma mb mc m : Me} {pos : Pos}
def mVar (i : Nat) : Me := fun τ M Q => ∃ t, τ[i]? = some (some t) ∧ Q t M
def mC (x : PyData) : Me := fun _ M Q => Q (.d x) M
theorem me_var {i : Nat} {x : Str} (h : PE X (.Name x pos) (tVar i)) : ME X (.Name x pos) (mVar i) := PE.of h fun σ H Q' ⟨τ, M, B, Q, ⟨t, ht, q⟩, w, s, k⟩ => by
  obtain ⟨v, hv, r⟩ := s.at_ i t ht
  exact ⟨v, hv, k v t M B H q w (.refl _ _) r⟩
theorem me_const {v : V} {x : PyData} (h : PE X e (tC v)) (hr : ∀ G, Rp X.K G v x) : ME X e (mC x) := PE.of h fun σ H Q' ⟨τ, M, B, Q, q, w, s, k⟩ => k v (.d x) M B H q w (.refl _ _) (hr _)
theorem me_int {i : Int} {j : Nat} : ME X (.Constant (.int i) j pos) (mC (.int i)) := me_const pe_int fun _ => .int i
theorem me_bl {i : Bool} {j : Nat} : ME X (.Constant (.bool i) j pos) (mC (.bool i)) := me_const pe_bl fun _ => .bl i
theorem me_non {j : Nat} : ME X (.Constant .none j pos) (mC .none) := me_const pe_non fun _ => .non
theorem me_str {i : Str} {j : Nat} : ME X (.Constant (.str i) j pos) (mC (.str i)) := me_const pe_str fun _ => .str i
abbrev F2 := T → T → Mem → Kt → Prop
/-- an operation by values is told by f -/
def OpL (K : PySem.W.Frag) (r : R2) (f : F2) : Prop := ∀ x y t u M B H Q Q', f t u M Q → Wd K B M H → Rt K B x t → Rt K B y u →
  (∀ v t' M' B' H', Q t' M' → Wd K B' M' H' → Ext B H B' H' → Rt K B' v t' → Q' v H') → r x y H Q'
def mOp (f : F2) (ma mb : Me) : Me := fun τ M Q => ma τ M fun x M1 => mb τ M1 fun y M2 => f x y M2 Q
theorem two {K : PySem.W.Frag} {r : R2} {f : F2} (ho : OpL K r f) {σ : St} {H : Hp} {Q' : VK} (h : rE K (mOp f ma mb) σ H Q') : tOp r (rE K ma) (rE K mb) σ H Q' := by
  obtain ⟨τ, M, B, Q, h, w, s, k⟩ := h
  refine ⟨τ, M, B, _, h, w, s, fun x t M1 B1 H1 h1 w1 e1 r1 => ⟨τ, M1, B1, _, h1, w1, s.mono e1, fun y u M2 B2 H2 h2 w2 e2 r2 => ?_⟩⟩
  exact ho x y t u M2 B2 H2 Q Q' h2 w2 (Rt.mono e2 r1) r2 fun v t' M' B' H' q w' e' r' => k v t' M' B' H' q w' (e1.trans (e2.trans e')) r'
theorem me_op {op : Operator} {r : R2} {f : F2} (ho : OpR X (binaryOp op) r) (hl : OpL X.K r f) (ha : ME X a ma) (hb : ME X b mb) : ME X (.BinOp a op b pos) (mOp f ma mb) := PE.of (pe_op ho ha hb) fun _ _ _ h => two hl h
theorem me_cmp {op : CmpOp} {r : R2} {f : F2} (ho : OpR X (compareOp op) r) (hl : OpL X.K r f) (ha : ME X a ma) (hb : ME X b mb) (hm : behindInMarks op b = false) : ME X (.Compare a [op] [b] pos) (mOp f ma mb) := PE.of (pe_cmpR ho ha hb hm) fun _ _ _ h => two hl h
/-- a value as a test -/
def mTest (m : Me) : Mb := fun τ M Q => m τ M fun x M1 => ∃ k, x = .d (.bool k) ∧ Q k M1
theorem mb_cmp {op : CmpOp} {r : R2} {f : F2} (ho : OpR X (compareOp op) r) (hl : OpL X.K r f) (ha : ME X a ma) (hb : ME X b mb) (hm : behindInMarks op b = false) : MB X (.Compare a [op] [b] pos) (mTest (mOp f ma mb)) := by
  refine PT.of (pt_cmpR ho ha hb hm) fun σ H Q' ⟨τ, M, B, Q, h, w, s, k⟩ => ?_
  refine two hl ⟨τ, M, B, _, h, w, s, fun v t M' B' H' ⟨k2, e, q⟩ w' e' r' => ?_⟩
  subst e
  cases r'
  exact ⟨k2, rfl, k k2 M' B' H' q w' e'⟩
end
end L3
set_option Elab.async false
set_option linter.all false
set_option maxRecDepth 100000
namespace L3
open PySem PySem.Spec L2
section
variable {K : PySem.W.Frag} {B : Bk} {M : Mem} {H : Hp}
mutual
theorem Rp.dp {G : Hp} : ∀ {v : V} {x : PyData}, Rp K G v x → Dp K G v x
  | _, _, .non => .non
  | _, _, .bl b => .bl b
  | _, _, .int i => .int i
  | _, _, .str x => .str x
  | _, _, .lst e q => .lst (.inl (.inl e)) (RpA.dp q)
  | _, _, .tup e q => .tup e.t (RpA.dp q)
theorem RpA.dp {G : Hp} : ∀ {v : List V} {x : List PyData}, RpA K G v x → DpAll K G v x
  | _, _, .nil => .nil
  | _, _, .cons p q => .cons (Rp.dp p) (RpA.dp q)
end
theorem Wd.rp (w : Wd K B M H) {v : V} {x : PyData} (h : Rp K B.G v x) : Rp K H v x := Rp.mono w.le h
theorem Wd.rpa (w : Wd K B M H) {v : List V} {x : List PyData} (h : RpA K B.G v x) : RpA K H v x := RpA.mono w.le h
theorem RpA.length {G : Hp} : ∀ {v : List V} {x : List PyData}, RpA K G v x → v.length = x.length
  | _, _, .nil => rfl
  | _, _, .cons _ q => by rw [List.length_cons, List.length_cons, RpA.length q]
theorem RpA.append {G : Hp} : ∀ {v w : List V} {x y : List PyData}, RpA K G v x → RpA K G w y → RpA K G (v ++ w) (x ++ y)
  | _, _, _, _, .nil, q => q
  | _, _, _, _, .cons p q, r => .cons p (RpA.append q r)
theorem RpA.get {G : Hp} : ∀ {v : List V} {x : List PyData} {i : Nat} {d : PyData}, RpA K G v x → x[i]? = some d → ∃ u, v[i]? = some u ∧ Rp K G u d
  | _, _, _, _, .nil, e => by simp at e
  | _, _, 0, _, .cons p _, e => by simp at e; subst e; exact ⟨_, rfl, p⟩
  | _, _, i + 1, _, .cons _ q, e => by
    obtain ⟨u, h1, h2⟩ := RpA.get (i := i) q (by simpa using e)
    exact ⟨u, by simpa using h1, h2⟩
theorem RpA.set {G : Hp} {u : V} {d : PyData} (r : Rp K G u d) : ∀ {v : List V} {x : List PyData} (i : Nat), RpA K G v x → RpA K G (v.set i u) (x.set i d)
  | _, _, _, .nil => .nil
  | _, _, 0, .cons _ q => .cons r q
  | _, _, i + 1, .cons p q => .cons p (RpA.set r i q)
theorem RpA.take {G : Hp} : ∀ {v : List V} {x : List PyData} (n : Nat), RpA K G v x → RpA K G (v.take n) (x.take n)
  | _, _, 0, _ => .nil
  | _, _, _ + 1, .nil => .nil
  | _, _, n + 1, .cons p q => .cons p (RpA.take n q)
theorem RpA.drop {G : Hp} : ∀ {v : List V} {x : List PyData} (n : Nat), RpA K G v x → RpA K G (v.drop n) (x.drop n)
  | _, _, 0, r => r
  | _, _, _ + 1, .nil => .nil
  | _, _, n + 1, .cons _ q => RpA.drop n q
theorem RpA.eraseIdx {G : Hp} : ∀ {v : List V} {x : List PyData} (n : Nat), RpA K G v x → RpA K G (v.eraseIdx n) (x.eraseIdx n)
  | _, _, _, .nil => .nil
  | _, _, 0, .cons _ q => q
  | _, _, n + 1, .cons p q => .cons p (RpA.eraseIdx n q)
theorem RpA.dropLast {G : Hp} {v : List V} {x : List PyData} (h : RpA K G v x) : RpA K G v.dropLast x.dropLast := by
  rw [List.dropLast_eq_take, List.dropLast_eq_take, RpA.length h]
  exact RpA.take _ h
theorem RpA.ints {G : Hp} : ∀ {v : List V} {ns : List Int}, RpA K G v (ns.map PyData.int) → v = ns.map V.int
  | _, [], .nil => rfl
  | _, _ :: _, .cons (.int _) q => by rw [RpA.ints q]; rfl
theorem RpA.of_ints {G : Hp} : ∀ ns : List Int, RpA K G (ns.map V.int) (ns.map PyData.int)
  | [] => .nil
  | n :: ns => .cons (.int n) (RpA.of_ints ns)
theorem RpA.rep {G : Hp} {v : List V} {x : List PyData} (h : RpA K G v x) : ∀ n : Nat, RpA K G (List.replicate n v).flatten (List.replicate n x).flatten
  | 0 => .nil
  | n + 1 => by
    rw [List.replicate_succ, List.replicate_succ, List.flatten_cons, List.flatten_cons]
    exact RpA.append h (RpA.rep h n)
/-- values that all are trees -/
def datas : List T → Option (List PyData)
  | [] => some []
  | .d x :: r => (datas r).map (x :: ·)
  | _ :: _ => none
theorem datas_rpa : ∀ {xs : List V} {ts : List T} {ds : List PyData}, Paired (Rt K B) xs ts → datas ts = some ds → RpA K B.G xs ds
  | _, _, _, .nil, e => by
    cases e
    exact .nil
  | _, _, _, .cons (b := t) p q, e => by
    cases t with
    | d x =>
      unfold datas at e
      cases h : datas _ with
      | none => rw [h] at e; cases e
      | some r =>
        rw [h] at e
        cases e
        exact .cons p (datas_rpa q h)
    | mr i => cases e
    | lr i => cases e
    | scr ns => cases e
    | wt xs => cases e
    | exo a c d e' => cases e
    | q x => cases e
theorem Wd.fresh (w : Wd K B M H) {p : Addr} (hp : H p = none) : B.G p = none ∧ p ∉ B.r ∧ p ∉ B.l := by
  refine ⟨?_, fun z => ?_, fun z => ?_⟩
  · cases e : B.G p with
    | none => rfl
    | some o => rw [w.le _ _ e] at hp; cases hp
  · exact w.tr p (List.mem_append_left _ z) hp
  · exact w.tr p (List.mem_append_right _ z) hp
theorem upd_keep {G : Hp} {p : Addr} {o : HO} (h : G p = none) : ∀ a u, G a = some u → upd G p o a = some u := fun a u e => by
  rw [upd_ne (ne_of_none e h)]
  exact e
theorem CellAt.mono {B' : Bk} {H' : Hp} {a : Addr} {c : Cell} (g : ∀ a o, B.G a = some o → B'.G a = some o) (r : B.r <+: B'.r) (e : H' a = H a) (h : CellAt K B H a c) : CellAt K B' H' a c := by
  have f : ∀ v t, Rt K { B with l := [] } v t → Rt K { B' with l := [] } v t := fun v t q => Rt.mono' (B := { B with l := [] }) (B' := { B' with l := [] }) g r (List.prefix_refl _) q
  cases c with
  | lst ts =>
    obtain ⟨xs, h1, h2⟩ := h
    exact ⟨xs, e.trans h1, Paired.imp f h2⟩
  | dct kvs =>
    obtain ⟨xs, h1, h2⟩ := h
    exact ⟨xs, e.trans h1, Paired.imp (fun _ _ q => ⟨q.1, f _ _ q.2⟩) h2⟩
  | dnk kvs =>
    obtain ⟨xs, h1, h2⟩ := h
    exact ⟨xs, e.trans h1, Paired.imp (fun _ _ q => ⟨q.1, q.2.1, Rp.mono g q.2.2.1, f _ _ q.2.2.2⟩) h2⟩
  | held u => exact e.trans h
  | ins c fs =>
    obtain ⟨C, dx, vs, hc, h1, h2⟩ := h
    exact ⟨C, dx, vs, hc, e.trans h1, Paired.imp (fun _ _ q => ⟨q.1, f _ _ q.2⟩) h2⟩
  | tup ts =>
    obtain ⟨o, xs, h1, ho, h2⟩ := h
    exact ⟨o, xs, e.trans h1, ho, Paired.imp f h2⟩
  | exc f2 e2 =>
    obtain ⟨C, d, h1, h2, h3⟩ := h
    exact ⟨C, d, e.trans h1, ExR.mono g h2, h3⟩
  | dnd kvs =>
    obtain ⟨xs, h1, h2⟩ := h
    exact ⟨xs, e.trans h1, Paired.imp (fun _ _ q => ⟨q.1, q.2.1, Rp.mono g q.2.2.1, f _ _ q.2.2.2⟩) h2⟩
theorem mem_of_get {α : Type} {l : List α} {i : Nat} {a : α} (e : l[i]? = some a) : a ∈ l := List.mem_of_getElem? e
/-- a new object that never changes -/
theorem Wd.alloc (w : Wd K B M H) {p : Addr} (hp : H p = none) (o : HO) : Wd K { B with G := upd B.G p o } M (upd H p o) ∧ Ext B H { B with G := upd B.G p o } (upd H p o) := by
  obtain ⟨hG, hr, hl⟩ := w.fresh hp
  have ne : ∀ {a : Addr}, a ∈ B.r ++ B.l → a ≠ p := fun {a} h z => by
    subst z
    exact w.tr _ h hp
  refine ⟨⟨fun a u e => ?_, w.rlen, w.llen, w.nd, fun i a c h1 h2 => ?_, fun i a ds h1 h2 => ?_, fun a ha => ?_⟩, ⟨upd_keep hG, List.prefix_refl _, List.prefix_refl _, fun a u e _ _ => upd_keep hp a u e, fun a e => ?_, fun a e => .inl e, fun a e => .inl e, fun a u e => ?_⟩⟩
  · by_cases z : a = p
    · subst z
      have e' : upd B.G a o a = some u := e
      rw [upd_same] at e' ⊢
      exact e'
    · have e' : upd B.G p o a = some u := e
      rw [upd_ne z] at e' ⊢
      exact w.le a u e'
  · obtain ⟨q1, q2⟩ := w.dc i a c h1 h2
    have na := ne (List.mem_append_left _ (mem_of_get h1))
    exact ⟨(upd_ne na).trans q1, CellAt.mono (upd_keep hG) (List.prefix_refl _) (upd_ne na) q2⟩
  · obtain ⟨q1, xs, q2, q3⟩ := w.lc i a ds h1 h2
    have na := ne (List.mem_append_right _ (mem_of_get h1))
    exact ⟨(upd_ne na).trans q1, xs, (upd_ne na).trans q2, RpA.mono (upd_keep hG) q3⟩
  · rw [upd_ne (ne ha)]
    exact w.tr a ha
  · by_cases z : a = p
    · subst z
      exact hp
    · rw [upd_ne z] at e
      exact e
  · by_cases z : a = p
    · subst z
      exact .inr (.inl hp)
    · have e' : upd B.G p o a = some u := e
      rw [upd_ne z] at e'
      exact .inl e'
theorem nodup_snoc {α : Type} {l : List α} {a : α} (h : l.Nodup) (n : a ∉ l) : (l ++ [a]).Nodup := by
  rw [List.nodup_append]
  refine ⟨h, by simp, fun x hx y hy => ?_⟩
  rw [List.mem_singleton] at hy
  subst hy
  intro z
  subst z
  exact n hx
/-- a new list of the frame's own -/
theorem Wd.newL (w : Wd K B M H) {p : Addr} (hp : H p = none) {xs : List V} {ds : List PyData} (h : RpA K B.G xs ds) :
    Wd K { B with l := B.l ++ [p] } { M with L := M.L ++ [some ds] } (upd H p (.lst xs)) ∧ Ext B H { B with l := B.l ++ [p] } (upd H p (.lst xs)) := by
  obtain ⟨hG, hr, hl⟩ := w.fresh hp
  have ne : ∀ {a : Addr}, a ∈ B.r ++ B.l → a ≠ p := fun {a} h z => by
    subst z
    exact w.tr _ h hp
  refine ⟨⟨fun a u e => upd_keep hp a u (w.le a u e), w.rlen, by simp [w.llen], ?_, fun i a c h1 h2 => ?_, fun i a es h1 h2 => ?_, fun a ha => ?_⟩, ⟨fun a u e => e, List.prefix_refl _, List.prefix_append _ _, fun a u e _ _ => upd_keep hp a u e, fun a e => ?_, fun a e => .inl e, fun a e => ?_, fun a u e => .inl e⟩⟩
  · show (B.r ++ (B.l ++ [p])).Nodup
    rw [← List.append_assoc]
    exact nodup_snoc w.nd fun z => ne z rfl
  · obtain ⟨q1, q2⟩ := w.dc i a c h1 h2
    have na := ne (List.mem_append_left _ (mem_of_get h1))
    exact ⟨q1, CellAt.mono (fun _ _ e => e) (List.prefix_refl _) (upd_ne na) q2⟩
  · have h1' : (B.l ++ [p])[i]? = some a := h1
    have h2' : (M.L ++ [some ds])[i]? = some (some es) := h2
    rcases Nat.lt_or_ge i B.l.length with z | z
    · rw [List.getElem?_append_left z] at h1'
      rw [List.getElem?_append_left (by rw [← w.llen]; exact z)] at h2'
      obtain ⟨q1, ys, q2, q3⟩ := w.lc i a es h1' h2'
      exact ⟨q1, ys, (upd_ne (ne (List.mem_append_right _ (mem_of_get h1')))).trans q2, q3⟩
    · rw [List.getElem?_append_right z] at h1'
      rw [List.getElem?_append_right (by rw [← w.llen]; exact z), ← w.llen] at h2'
      cases j : i - B.l.length with
      | succ k => rw [j] at h1'; simp at h1'
      | zero =>
        rw [j] at h1' h2'
        simp only [List.getElem?_cons_zero, Option.some.injEq] at h1' h2'
        subst h1'
        subst h2'
        exact ⟨hG, xs, upd_same, h⟩
  · have ha' : a ∈ B.r ++ (B.l ++ [p]) := ha
    rw [← List.append_assoc] at ha'
    rcases List.mem_append.mp ha' with z | z
    · rw [upd_ne (ne z)]
      exact w.tr a z
    · rw [List.mem_singleton] at z
      subst z
      rw [upd_same]
      exact fun q => nomatch q
  · by_cases z : a = p
    · subst z
      exact hp
    · rw [upd_ne z] at e
      exact e
  · rcases List.mem_append.mp e with z | z
    · exact .inl z
    · rw [List.mem_singleton] at z
      subst z
      exact .inr hp
theorem nodup_get {α : Type} : ∀ {l : List α} {i j : Nat} {a : α}, l.Nodup → l[i]? = some a → l[j]? = some a → i = j
  | [], _, _, _, _, e, _ => by simp at e
  | x :: l, 0, 0, _, _, _, _ => rfl
  | x :: l, 0, j + 1, a, n, e, f => by
    rw [List.getElem?_cons_zero] at e
    cases e
    rw [List.getElem?_cons_succ] at f
    exact absurd (mem_of_get f) (List.nodup_cons.mp n).1
  | x :: l, i + 1, 0, a, n, e, f => by
    rw [List.getElem?_cons_zero] at f
    cases f
    rw [List.getElem?_cons_succ] at e
    exact absurd (mem_of_get e) (List.nodup_cons.mp n).1
  | x :: l, i + 1, j + 1, a, n, e, f => by
    rw [List.getElem?_cons_succ] at e f
    rw [nodup_get (List.nodup_cons.mp n).2 e f]
theorem Wd.rl (w : Wd K B M H) {a : Addr} (h1 : a ∈ B.r) (h2 : a ∈ B.l) : False := (List.nodup_append.mp w.nd).2.2 a h1 a h2 rfl
/-- one of the frame's own lists is written -/
theorem Wd.setL (w : Wd K B M H) {i : Nat} {p : Addr} (hp : B.l[i]? = some p) {ds0 : List PyData} (h0 : M.L[i]? = some (some ds0)) {xs : List V} {ds : List PyData} (h : RpA K B.G xs ds) :
    Wd K B { M with L := M.L.set i (some ds) } (upd H p (.lst xs)) ∧ Ext B H B (upd H p (.lst xs)) := by
  obtain ⟨hG, _⟩ := w.lc i p ds0 hp h0
  have pl := mem_of_get hp
  refine ⟨⟨fun a u e => ?_, w.rlen, by simp [w.llen], w.nd, fun j a c h1 h2 => ?_, fun j a es h1 h2 => ?_, fun a ha => ?_⟩, ⟨fun a u e => e, List.prefix_refl _, List.prefix_refl _, fun a u e _ n => ?_, fun a e => ?_, fun a e => .inl e, fun a e => .inl e, fun a u e => .inl e⟩⟩
  · rw [upd_ne (ne_of_none e hG)]
    exact w.le a u e
  · obtain ⟨q1, q2⟩ := w.dc j a c h1 h2
    have na : a ≠ p := fun z => by
      subst z
      exact w.rl (mem_of_get h1) pl
    exact ⟨q1, CellAt.mono (fun _ _ e => e) (List.prefix_refl _) (upd_ne na) q2⟩
  · by_cases z : i = j
    · subst z
      rw [hp] at h1
      cases h1
      have lt : i < M.L.length := by
        rcases Nat.lt_or_ge i M.L.length with q | q
        · exact q
        · rw [List.getElem?_eq_none q] at h0; cases h0
      have h2' : (M.L.set i (some ds))[i]? = some (some es) := h2
      rw [List.getElem?_set_self lt] at h2'
      cases h2'
      exact ⟨hG, xs, upd_same, h⟩
    · have h2' : (M.L.set i (some ds))[j]? = some (some es) := h2
      rw [List.getElem?_set_ne z] at h2'
      obtain ⟨q1, ys, q2, q3⟩ := w.lc j a es h1 h2'
      refine ⟨q1, ys, (upd_ne fun y => z ?_).trans q2, q3⟩
      subst y
      exact nodup_get (List.nodup_append.mp w.nd).2.1 hp h1
  · by_cases z : a = p
    · subst z
      rw [upd_same]
      exact fun q => nomatch q
    · rw [upd_ne z]
      exact w.tr a ha
  · rw [upd_ne fun z => n (by subst z; exact pl)]
    exact e
  · by_cases z : a = p
    · subst z
      rw [upd_same] at e
      cases e
    · rw [upd_ne z] at e
      exact e
/-- one of the frame's own lists never changes any more -/
theorem Wd.freeze (w : Wd K B M H) {i : Nat} {p : Addr} (hp : B.l[i]? = some p) {ds : List PyData} (h0 : M.L[i]? = some (some ds)) :
    ∃ B', Wd K B' { M with L := M.L.set i none } H ∧ Ext B H B' H ∧ Rp K B'.G (.ref p) (.list ds) := by
  obtain ⟨hG, xs, e0, h⟩ := w.lc i p ds hp h0
  have pl := mem_of_get hp
  refine ⟨{ B with G := upd B.G p (.lst xs) }, ⟨fun a u e => ?_, w.rlen, by simp [w.llen], w.nd, fun j a c h1 h2 => ?_, fun j a es h1 h2 => ?_, w.tr⟩, ⟨upd_keep hG, List.prefix_refl _, List.prefix_refl _, fun a u e _ n => e, fun a e => e, fun a e => .inl e, fun a e => .inl e, fun a u e => ?_⟩, .lst upd_same (RpA.mono (upd_keep hG) h)⟩
  · by_cases z : a = p
    · subst z
      rw [show ({ B with G := upd B.G a (.lst xs) } : Bk).G = upd B.G a (.lst xs) from rfl, upd_same] at e
      rw [e0]
      exact e
    · have e' : upd B.G p (.lst xs) a = some u := e
      rw [upd_ne z] at e'
      exact w.le a u e'
  · obtain ⟨q1, q2⟩ := w.dc j a c h1 h2
    have na : a ≠ p := fun z => by
      subst z
      exact w.rl (mem_of_get h1) pl
    exact ⟨(upd_ne na).trans q1, CellAt.mono (upd_keep hG) (List.prefix_refl _) rfl q2⟩
  · by_cases z : i = j
    · subst z
      have lt : i < M.L.length := by
        rcases Nat.lt_or_ge i M.L.length with q | q
        · exact q
        · rw [List.getElem?_eq_none q] at h0; cases h0
      have h2' : (M.L.set i none)[i]? = some (some es) := h2
      rw [List.getElem?_set_self lt] at h2'
      cases h2'
    · have h2' : (M.L.set i none)[j]? = some (some es) := h2
      rw [List.getElem?_set_ne z] at h2'
      obtain ⟨q1, ys, q2, q3⟩ := w.lc j a es h1 h2'
      refine ⟨(upd_ne fun y => z ?_).trans q1, ys, q2, RpA.mono (upd_keep hG) q3⟩
      subst y
      exact nodup_get (List.nodup_append.mp w.nd).2.1 hp h1
  · by_cases z : a = p
    · subst z
      exact .inr (.inr pl)
    · have e' : upd B.G p (.lst xs) a = some u := e
      rw [upd_ne z] at e'
      exact .inl e'
/-- a new object of the deck -/
theorem Wd.newD (w : Wd K B M H) {p : Addr} (hp : H p = none) {o : HO} {c : Cell} (h : ∀ H', H' p = some o → CellAt K { B with r := B.r ++ [p] } H' p c) :
    Wd K { B with r := B.r ++ [p] } { M with D := M.D ++ [c] } (upd H p o) ∧ Ext B H { B with r := B.r ++ [p] } (upd H p o) := by
  obtain ⟨hG, hr, hl⟩ := w.fresh hp
  have ne : ∀ {a : Addr}, a ∈ B.r ++ B.l → a ≠ p := fun {a} ha z => by
    rw [z] at ha
    exact w.tr _ ha hp
  refine ⟨⟨fun a u e => upd_keep hp a u (w.le a u e), by simp [w.rlen], w.llen, ?_, fun i a c' h1 h2 => ?_, fun i a es h1 h2 => ?_, fun a ha => ?_⟩, ⟨fun a u e => e, List.prefix_append _ _, List.prefix_refl _, fun a u e _ _ => upd_keep hp a u e, fun a e => ?_, fun a e => ?_, fun a e => .inl e, fun a u e => .inl e⟩⟩
  · show ((B.r ++ [p]) ++ B.l).Nodup
    rw [List.nodup_append]
    obtain ⟨n1, n2, n3⟩ := List.nodup_append.mp w.nd
    refine ⟨nodup_snoc n1 hr, n2, fun x hx y hy z => ?_⟩
    rcases List.mem_append.mp hx with q | q
    · exact n3 x q y hy z
    · rw [List.mem_singleton] at q
      subst z
      subst q
      exact hl hy
  · have h1' : (B.r ++ [p])[i]? = some a := h1
    have h2' : (M.D ++ [c])[i]? = some c' := h2
    rcases Nat.lt_or_ge i B.r.length with z | z
    · rw [List.getElem?_append_left z] at h1'
      rw [List.getElem?_append_left (by rw [← w.rlen]; exact z)] at h2'
      obtain ⟨q1, q2⟩ := w.dc i a c' h1' h2'
      exact ⟨q1, CellAt.mono (B := B) (B' := { B with r := B.r ++ [p] }) (fun _ _ e => e) (List.prefix_append _ _) (upd_ne (ne (List.mem_append_left _ (mem_of_get h1')))) q2⟩
    · rw [List.getElem?_append_right z] at h1'
      rw [List.getElem?_append_right (by rw [← w.rlen]; exact z), ← w.rlen] at h2'
      cases j : i - B.r.length with
      | succ k => rw [j] at h1'; simp at h1'
      | zero =>
        rw [j] at h1' h2'
        simp only [List.getElem?_cons_zero, Option.some.injEq] at h1' h2'
        subst h1'
        subst h2'
        exact ⟨hG, h _ upd_same⟩
  · obtain ⟨q1, ys, q2, q3⟩ := w.lc i a es h1 h2
    exact ⟨q1, ys, (upd_ne (ne (List.mem_append_right _ (mem_of_get h1)))).trans q2, q3⟩
  · have ha' : a ∈ (B.r ++ [p]) ++ B.l := ha
    rcases List.mem_append.mp ha' with z | z
    · rcases List.mem_append.mp z with z | z
      · rw [upd_ne (ne (List.mem_append_left _ z))]
        exact w.tr a (List.mem_append_left _ z)
      · rw [List.mem_singleton] at z
        subst z
        rw [upd_same]
        exact fun q => nomatch q
    · rw [upd_ne (ne (List.mem_append_right _ z))]
      exact w.tr a (List.mem_append_right _ z)
  · by_cases z : a = p
    · subst z
      exact hp
    · rw [upd_ne z] at e
      exact e
  · rcases List.mem_append.mp e with z | z
    · exact .inl z
    · rw [List.mem_singleton] at z
      subst z
      exact .inr hp
/-- an object of the deck is written -/
theorem Wd.setD (w : Wd K B M H) {i : Nat} {p : Addr} (hp : B.r[i]? = some p) {c0 : Cell} (h0 : M.D[i]? = some c0) {o : HO} {c : Cell} (h : ∀ H', H' p = some o → CellAt K B H' p c) :
    Wd K B { M with D := M.D.set i c } (upd H p o) ∧ Ext B H B (upd H p o) := by
  obtain ⟨hG, _⟩ := w.dc i p c0 hp h0
  have pl := mem_of_get hp
  refine ⟨⟨fun a u e => ?_, by simp [w.rlen], w.llen, w.nd, fun j a c' h1 h2 => ?_, fun j a es h1 h2 => ?_, fun a ha => ?_⟩, ⟨fun a u e => e, List.prefix_refl _, List.prefix_refl _, fun a u e n _ => ?_, fun a e => ?_, fun a e => .inl e, fun a e => .inl e, fun a u e => .inl e⟩⟩
  · rw [upd_ne (ne_of_none e hG)]
    exact w.le a u e
  · by_cases z : i = j
    · subst z
      rw [hp] at h1
      cases h1
      have lt : i < M.D.length := by
        rcases Nat.lt_or_ge i M.D.length with q | q
        · exact q
        · rw [List.getElem?_eq_none q] at h0; cases h0
      have h2' : (M.D.set i c)[i]? = some c' := h2
      rw [List.getElem?_set_self lt] at h2'
      cases h2'
      exact ⟨hG, h _ upd_same⟩
    · have h2' : (M.D.set i c)[j]? = some c' := h2
      rw [List.getElem?_set_ne z] at h2'
      obtain ⟨q1, q2⟩ := w.dc j a c' h1 h2'
      refine ⟨q1, CellAt.mono (fun _ _ e => e) (List.prefix_refl _) (upd_ne fun y => z ?_) q2⟩
      subst y
      exact nodup_get (List.nodup_append.mp w.nd).1 hp h1
  · obtain ⟨q1, ys, q2, q3⟩ := w.lc j a es h1 h2
    refine ⟨q1, ys, (upd_ne fun z => ?_).trans q2, q3⟩
    subst z
    exact w.rl pl (mem_of_get h1)
  · by_cases z : a = p
    · subst z
      rw [upd_same]
      exact fun q => nomatch q
    · rw [upd_ne z]
      exact w.tr a ha
  · rw [upd_ne fun z => n (by subst z; exact pl)]
    exact e
  · by_cases z : a = p
    · subst z
      rw [upd_same] at e
      cases e
    · rw [upd_ne z] at e
      exact e
end
end L3
set_option Elab.async false
set_option linter.all false
set_option maxRecDepth 100000
namespace L3
open PySem PySem.Spec L2 PyProof.Rows
def nuT (us : List Value) : Obj := { cls := .type "tuple", data := .seq us.toArray }
theorem okC {P : Program} {w : World} {H : Hp} {h : Heap} {a : Addr} {us : List Value} {xs : List V} (z : xs.length ≤ sizeLine) (r : Vals xs us) (e : h.get? a = some (nuT us)) : ObjOk P w H h a (.frz (nuT us) (.tup xs)) := by
  unfold L2.ObjOk
  refine ⟨e, ?_⟩
  unfold L2.ObjOk
  exact ⟨z, us, r, _, e, rfl, 0, rfl⟩
section
variable {X : Cx} {es : List Expr} {t : TA} {pos : Pos}
def tTupC (t : TA) : TE := fun σ H Q => t σ H fun xs H1 => xs.length ≤ sizeLine ∧ ∀ (p : Addr) (o : Obj), H1 p = none → o.dict = none → Q (.ref p) (upd H1 p (.frz o (.tup xs)))
theorem pe_tupC {x1 : Nat} (h : PA X es t) : PE X (.Tuple es x1 pos) (tTupC t) := ⟨fun pins s σ H Q I hq => by
  refine wpAny_Tuple_spliced (thn (h.run pos pins s σ H (fun xs H1 => xs.length ≤ sizeLine ∧ ∀ (p : Addr) (o : Obj), H1 p = none → o.dict = none → Q (.ref p) (upd H1 p (.frz o (.tup xs)))) I hq) fun us s1 ⟨xs, H1, I1, r, z, q⟩ => ?_)
  refine ⟨by rw [← r.length]; exact z, ?_⟩
  exact ⟨.ref s1.heap.objs.size, upd H1 s1.heap.objs.size (.frz (nuT us) (.tup xs)), I1.laid (fun b u e => Heap.get?_push_of_some _ e) (Nat.le_refl _) (okC z r (Heap.get?_push_size _ rfl)), rfl, q _ _ (I1.hok.fresh (Nat.le_refl _)) rfl⟩⟩
def rCatC (K : PySem.W.Frag) : R2 := fun x y H Q => ∃ a b xs ys, x = .ref a ∧ y = .ref b ∧ SqT K H a xs ∧ SqT K H b ys ∧ xs.length + ys.length ≤ sizeLine ∧ (xs = [] → Q (.ref b) H) ∧ (xs ≠ [] → ys = [] → Q (.ref a) H) ∧
  (xs ≠ [] → ys ≠ [] → ∀ (p : Addr) (o : Obj), H p = none → o.dict = none → Q (.ref p) (upd H p (.frz o (.tup (xs ++ ys)))))
theorem op_catC : OpR X (binaryOp .Add) (rCatC X.K) := by
  intro pins s σ H x y v u Q I rx ry h
  obtain ⟨a, b, xs, ys, rfl, rfl, ha, hb, hz, q0, q1, q2⟩ := h
  by_cases hx : xs = []
  · exact op_catA pins s σ H (.ref a) (.ref b) v u Q I rx ry ⟨a, b, xs, ys, rfl, rfl, ha, hb, hz, q0, q1, fun z => absurd hx z⟩
  · cases rx
    cases ry
    obtain ⟨us, r1, p1, _⟩ := I.tuple ha
    obtain ⟨vs, r2, p2, _⟩ := I.tuple hb
    refine HT.cat_tup p1 p2 (fun z => hx ?_) (fun z => ?_) (fun z => ?_) (by rw [← r1.length, ← r2.length]; exact hz)
    · subst z
      cases r1
      rfl
    · subst z
      cases r2
      exact ⟨.ref a, H, I, rfl, q1 hx rfl⟩
    · have hy : ys ≠ [] := fun e => by
        subst e
        cases r2
        exact z rfl
      exact ⟨.ref s.heap.objs.size, upd H s.heap.objs.size (.frz (nuT (us ++ vs)) (.tup (xs ++ ys))), I.laid (fun b u e => Heap.get?_push_of_some _ e) (Nat.le_refl _) (okC (by rw [List.length_append]; exact hz) (Vals.append r1 r2) (Heap.get?_push_size _ rfl)), rfl, q2 hx hy _ _ (I.hok.fresh (Nat.le_refl _)) rfl⟩
def rSlC (K : PySem.W.Frag) : V → Option Int → Option Int → Hp → VK → Prop := fun x lo hi H Q => ∃ a xs, x = .ref a ∧ SqT K H a xs ∧ (HT.sIx xs.length 0 lo = 0 ∧ HT.sIx xs.length xs.length hi = xs.length → Q (.ref a) H) ∧
  (¬(HT.sIx xs.length 0 lo = 0 ∧ HT.sIx xs.length xs.length hi = xs.length) → ∀ (p : Addr) (o : Obj), H p = none → o.dict = none → Q (.ref p) (upd H p (.frz o (.tup (cutV xs lo hi)))))
theorem sl_tupC : SlR X (rSlC X.K) := by
  intro pins s σ H x v vl vu lo hi sl Q I rx hs pl pu h
  obtain ⟨a, xs, rfl, ha, q1, q2⟩ := h
  by_cases hw : HT.sIx xs.length 0 lo = 0 ∧ HT.sIx xs.length xs.length hi = xs.length
  · exact sl_tupA pins s σ H (.ref a) v vl vu lo hi sl Q I rx hs pl pu ⟨a, xs, rfl, ha, q1, fun z => absurd hw z⟩
  · cases rx
    obtain ⟨us, r1, p1, hz⟩ := I.tuple ha
    have e : us.toArray.size = xs.length := by rw [r1.length]; simp
    have p2 := p1
    obtain ⟨o, ho, hc, _⟩ := p2
    refine ⟨"tuple", "tuple.__getitem__", slot_tuple_getitem.lookup, ⟨o, ho, hc⟩, HT.getItem_tuple_cut p1 hs pl pu (by rw [e]; exact hw) ?_ (by rw [e]; exact hz)⟩
    rw [e]
    have r3 : Vals (cutV xs lo hi) (List.take (HT.sIx xs.length xs.length hi - HT.sIx xs.length 0 lo) (List.drop (HT.sIx xs.length 0 lo) us)) := Vals.take _ (Vals.drop _ r1)
    exact ⟨.ref s.heap.objs.size, upd H s.heap.objs.size (.frz (nuT _) (.tup (cutV xs lo hi))), I.laid (fun b u e => Heap.get?_push_of_some _ e) (Nat.le_refl _) (okC (by
      unfold cutV
      rw [List.length_take, List.length_drop]
      omega) r3 (Heap.get?_push_size _ rfl)), rfl, q2 hw _ _ (I.hok.fresh (Nat.le_refl _)) rfl⟩
theorem call_tupleC : CallR X (.type "tuple") fun xs H Q => ∃ p ys, xs = [V.ref p] ∧ ((SqL X.K H p ys ∧ ∀ (l : Addr) (o : Obj), H l = none → o.dict = none → Q (.ref l) (upd H l (.frz o (.tup ys)))) ∨ (SqT X.K H p ys ∧ Q (.ref p) H)) := by
  intro pins s σ H xs us Q I r h
  obtain ⟨p, ys, rfl, h⟩ := h
  rcases h with ⟨hl, q⟩ | h
  · rw [Vals.ref1 r]
    obtain ⟨its, rv, pl, hz⟩ := I.list hl
    obtain ⟨o, n, h1, h2⟩ := pl
    refine call_tuple_list (items := its.toArray) ⟨o, h1, h2.1, n, h2.2.2⟩ (fun h' hk => ?_) (by simpa [← rv.length] using hz)
    have I2 := I.kept (t' := s.toks) hk
    exact ⟨.ref h'.objs.size, upd H h'.objs.size (.frz (nuT its) (.tup ys)), I2.laid (fun b u e => Heap.get?_push_of_some _ e) (Nat.le_refl _) (okC hz rv (Heap.get?_push_size _ rfl)), rfl, q _ _ (I2.hok.fresh (Nat.le_refl _)) rfl⟩
  · exact call_tuple_of pins s σ H _ us Q I r ⟨p, ys, rfl, .inr h⟩
/-- t * n, n from 2 on -/
def rRepC (K : PySem.W.Frag) : R2 := fun x y H Q => ∃ l k xs, x = .ref l ∧ y = .int k ∧ SqT K H l xs ∧ xs ≠ [] ∧ 2 ≤ k ∧ k ≤ 1000 ∧ xs.length ≤ 1000 ∧ ∀ (p : Addr) (o : Obj), H p = none → o.dict = none → Q (.ref p) (upd H p (.frz o (.tup (List.replicate k.toNat xs).flatten)))
theorem vals_rep {xs : List V} {us : List Value} (r : Vals xs us) : ∀ n : Nat, Vals (List.replicate n xs).flatten (List.replicate n us).flatten
  | 0 => .nil
  | n + 1 => by
    rw [List.replicate_succ, List.replicate_succ, List.flatten_cons, List.flatten_cons]
    exact Vals.append r (vals_rep r n)
theorem foldl_rep (us : List Value) : ∀ (n : Nat) (a : Array Value), (List.replicate n us.toArray).foldl (fun x1 x2 => x1 ++ x2) a = a ++ (List.replicate n us).flatten.toArray
  | 0, a => by simp
  | n + 1, a => by
    rw [List.replicate_succ, List.foldl_cons, foldl_rep us n, List.replicate_succ, List.flatten_cons]
    simp
theorem op_repC : OpR X (binaryOp .Mult) (rRepC X.K) := by
  intro pins s σ H x y v u Q I rx ry h
  obtain ⟨l, k, xs, rfl, rfl, hT, hne, k2, k3, hl, q⟩ := h
  cases rx
  obtain ⟨t, rfl⟩ := ry
  obtain ⟨its, r, ⟨⟨cls, dd, data, sl⟩, ho, hc, n, hd⟩, hs⟩ := I.tuple hT
  simp only at hc hd
  subst hc hd
  have hlen := r.length
  have hi : its.toArray.isEmpty = false := by
    cases r with
    | nil => exact absurd rfl hne
    | cons _ _ => rfl
  have hsz : its.toArray.size = xs.length := by rw [hlen]; simp
  have hm : (xs.length : Int) * k ≤ 1000 * 1000 := Int.mul_le_mul (by omega) k3 (by omega) (by omega)
  have hm0 : 0 ≤ (xs.length : Int) * k := Int.mul_nonneg (by omega) (by omega)
  have hf : ((List.replicate k.toNat xs).flatten).length ≤ sizeLine := by
    rw [List.length_flatten, List.map_replicate, List.sum_replicate_nat]
    have : k.toNat * xs.length ≤ 1000 * 1000 := Nat.mul_le_mul (by omega) hl
    exact Nat.le_trans this (by decide)
  have r3 := vals_rep r k.toNat
  have e3 : (List.foldl (fun x1 x2 => x1 ++ x2) #[] (List.replicate k.toNat its.toArray)) = ((List.replicate k.toNat its).flatten).toArray := by
    rw [foldl_rep]
    simp
  refine wpAny_binaryOp_repeat_ref (T := "tuple") (U := "int") (by decide) ⟨_, ho, rfl⟩ (fun s' => typeIs_int s' k t) noFill_tuple_mul F.fills_int_mul F.slot_int_rmul repeat_tuple F.slot_int_index.lookup
    (call_meets F.slot_int_rmul (typeIs_int s k t) F.entry_int_rmul (F.args_int_rmul_2 _ _) (int_rmul_tuple k t l its.toArray n dd sl)
      ⟨ho, rfl, ⟨_, ho, rfl⟩, call_meets F.slot_tuple_mul ⟨_, ho, rfl⟩ F.entry_tuple_mul (F.args_tuple_mul_2 _ _) (tuple_mulW l its.toArray n dd sl k t (by simp; omega) (by rw [hi]; simp; omega) (by rw [hi]; simp; omega) (by rw [hsz]; omega) ?_ ?_) ⟨ho, ?_⟩⟩)
  · unfold Builtin.Tuple.tupleTooMany
    rw [hsz]
    refine decide_eq_false ?_
    have : (sizeLine : Int) ≥ 1000 * 1000 := by decide
    omega
  · rw [e3]
    have := r3.length
    simp only [List.size_toArray]
    omega
  · rw [e3]
    exact ⟨.ref s.heap.objs.size, upd H s.heap.objs.size (.frz (nuT _) (.tup (List.replicate k.toNat xs).flatten)), I.laid (fun b u e => Heap.get?_push_of_some _ e) (Nat.le_refl _) (okC hf r3 (Heap.get?_push_size _ rfl)), rfl, q _ _ (I.hok.fresh (Nat.le_refl _)) rfl⟩
end
end L3
set_option Elab.async false
set_option linter.all false
set_option maxRecDepth 100000
namespace L3
open PySem PySem.Spec L2
theorem OpR.or {X : Cx} {f : Value → Value → Sem Value} {r q : R2} (h : OpR X f r) (k : OpR X f q) : OpR X f (fun x y H Q => r x y H Q ∨ q x y H Q) := by
  intro pn sh sg hp a b va vb W iv ra rb z
  exact z.elim (h pn sh sg hp a b va vb W iv ra rb) (k pn sh sg hp a b va vb W iv ra rb)
theorem CallR.or {X : Cx} {f : Value} {r q : List V → Hp → VK → Prop} (h : CallR X f r) (k : CallR X f q) : CallR X f (fun x H Q => r x H Q ∨ q x H Q) := by
  intro pn sh sg hp a va W iv ra z
  exact z.elim (h pn sh sg hp a va W iv ra) (k pn sh sg hp a va W iv ra)
/-- what a value is now, as a tree -/
def now (t : T) (M : Mem) : Option PyData := match t with
  | .d x => some x
  | .lr i => match M.L[i]? with
    | some (some ds) => some (.list ds)
    | _ => none
  | .mr i => match M.D[i]? with
    | some (.lst ts) => (datas ts).map .list
    | _ => none
  | .scr ns => some (.list (ns.map .int))
  | .wt _ => none
  | .exo .. => none
  | .q _ => none
section
variable {K : PySem.W.Frag} {B : Bk} {M : Mem} {H : Hp}
theorem Wd.dpNow (w : Wd K B M H) {v : V} {t : T} {x : PyData} (r : Rt K B v t) (e : now t M = some x) : Dp K H v x := by
  cases t with
  | d y => cases e; exact Rp.dp (w.rp r)
  | lr i =>
    obtain ⟨a, rfl, ha⟩ := r
    unfold now at e
    cases h : M.L[i]? with
    | none => simp [h] at e
    | some o =>
      cases o with
      | none => simp [h] at e
      | some ds =>
        simp only [h] at e
        cases e
        obtain ⟨_, xs, h1, h2⟩ := w.lc i a ds ha h
        exact .lst (.inl (.inl h1)) (RpA.dp (w.rpa h2))
  | mr i =>
    obtain ⟨a, rfl, ha⟩ := r
    unfold now at e
    cases h : M.D[i]? with
    | none => simp [h] at e
    | some o =>
      cases o with
      | dct _ => simp [h] at e
      | dnk _ => simp [h] at e
      | held _ => simp [h] at e
      | exc _ _ => simp [h] at e
      | ins _ _ => simp [h] at e
      | tup _ => simp [h] at e
      | dnd _ => simp [h] at e
      | lst ts =>
        simp only [h] at e
        cases q : datas ts with
        | none => rw [q] at e; cases e
        | some ds =>
          rw [q] at e
          cases e
          obtain ⟨_, xs, h1, h2⟩ := w.dc i a _ ha h
          exact .lst (.inl (.inl h1)) (RpA.dp (w.rpa (datas_rpa (B := { B with l := [] }) h2 q)))
  | scr ns =>
    obtain ⟨a, rfl, ha⟩ := r
    cases e
    refine .lst (SqL.mono w.le ha) ?_
    exact RpA.dp (G := H) (RpA.of_ints ns)
  | wt xs => cases e
  | exo a c d e' => cases e
  | q x => cases e
end
def oI (C : Int → Int → Prop) (g : Int → Int → PyData) : F2 := fun x y M Q => match x, y with
  | .d (.int i), .d (.int j) => C i j ∧ Q (.d (g i j)) M
  | _, _ => False
theorem opl_I {K : PySem.W.Frag} {C : Int → Int → Prop} {gV : Int → Int → V} {g : Int → Int → PyData} (hg : ∀ i j G, Rp K G (gV i j) (g i j)) : OpL K (rI C gV) (oI C g) := by
  intro x y t u M B H Q Q' h w rx ry k
  unfold oI at h
  split at h
  · cases rx
    cases ry
    obtain ⟨c, q⟩ := h
    exact ⟨_, _, rfl, rfl, c, k _ _ M B H q w (.refl _ _) (hg _ _ _)⟩
  · exact h.elim
theorem opl_I0 {K : PySem.W.Frag} {gV : Int → Int → V} {g : Int → Int → PyData} (hg : ∀ i j G, Rp K G (gV i j) (g i j)) : OpL K (rI0 gV) (oI (fun _ _ => True) g) := by
  intro x y t u M B H Q Q' h w rx ry k
  obtain ⟨i, j, e1, e2, _, q⟩ := opl_I (C := fun _ _ => True) hg x y t u M B H Q Q' h w rx ry k
  exact ⟨i, j, e1, e2, q⟩
def oAdd : F2 := fun x y M Q => match x, y with
  | .d (.int i), .d (.int j) => Q (.int (i + j)) M
  | .d (.str a), .d (.str b) => a.length + b.length ≤ sizeLine ∧ Q (.str (a ++ b)) M
  | .d (.list a), .d (.list b) => a.length + b.length ≤ sizeLine ∧ Q (.lst (a ++ b)) M
  | .d (.tuple a), .d (.tuple b) => a.length + b.length ≤ sizeLine ∧ Q (.tup (a ++ b)) M
  | _, _ => False
def rAdd (K : PySem.W.Frag) : R2 := fun x y H Q => rI0 (fun i j => .int (i + j)) x y H Q ∨ ((∃ i j, x = .str i ∧ y = .str j ∧ i.length + j.length ≤ sizeLine ∧ Q (.str (i ++ j)) H) ∨ (rCat x y H Q ∨ rCatC K x y H Q))
theorem opr_add {X : Cx} : OpR X (binaryOp .Add) (rAdd X.K) := op_add.or (op_add_str.or (op_cat.or op_catC))
theorem opl_add {K : PySem.W.Frag} : OpL K (rAdd K) oAdd := by
  intro x y t u M B H Q Q' h w rx ry k
  unfold oAdd at h
  split at h
  · cases rx
    cases ry
    exact .inl ⟨_, _, rfl, rfl, k _ _ M B H h w (.refl _ _) (.int _)⟩
  · cases rx
    cases ry
    exact .inr (.inl ⟨_, _, rfl, rfl, h.1, k _ _ M B H h.2 w (.refl _ _) (.str _)⟩)
  · cases rx with
    | lst e1 q1 =>
      cases ry with
      | lst e2 q2 =>
        refine .inr (.inr (.inl ⟨_, _, _, _, rfl, rfl, w.le _ _ e1, w.le _ _ e2, ?_, fun p hp => ?_⟩))
        · rw [RpA.length q1, RpA.length q2]
          exact h.1
        · obtain ⟨w', x'⟩ := w.alloc hp (.lst (_ ++ _))
          exact k _ _ M _ _ h.2 w' x' (.lst upd_same (RpA.mono x'.g (RpA.append q1 q2)))
  · cases rx with
    | tup e1 q1 =>
      cases ry with
      | tup e2 q2 =>
        obtain ⟨hl, q⟩ := h
        refine .inr (.inr (.inr ⟨_, _, _, _, rfl, rfl, SqT.mono w.le e1, SqT.mono w.le e2, ?_, fun z => ?_, fun _ z => ?_, fun _ z p o hp ho => ?_⟩))
        · rw [RpA.length q1, RpA.length q2]
          exact hl
        · subst z
          cases q1
          exact k _ _ M B H q w (.refl _ _) (.tup e2 q2)
        · subst z
          cases q2
          rw [List.append_nil] at q
          exact k _ _ M B H q w (.refl _ _) (.tup e1 q1)
        · obtain ⟨w', x'⟩ := w.alloc hp (.frz o (.tup (_ ++ _)))
          exact k _ _ M _ _ q w' x' (.tup (.inl ⟨o, upd_same, ho⟩) (RpA.mono x'.g (RpA.append q1 q2)))
  · exact h.elim
def oMul : F2 := fun x y M Q => match x, y with
  | .d (.int i), .d (.int j) => CMul i j ∧ Q (.int (i * j)) M
  | .d (.list a), .d (.int j) => (-(2 ^ 63) ≤ j ∧ j < 2 ^ 63 ∧ a.length * j.toNat ≤ sizeLine) ∧ Q (.lst (List.replicate j.toNat a).flatten) M
  | _, _ => False
def rMul : R2 := fun x y H Q => rI CMul (fun i j => .int (i * j)) x y H Q ∨ rRep x y H Q
theorem opr_mul {X : Cx} : OpR X (binaryOp .Mult) rMul := op_mul.or op_rep
theorem opl_mul {K : PySem.W.Frag} : OpL K rMul oMul := by
  intro x y t u M B H Q Q' h w rx ry k
  unfold oMul at h
  split at h
  · cases rx
    cases ry
    exact .inl ⟨_, _, rfl, rfl, h.1, k _ _ M B H h.2 w (.refl _ _) (.int _)⟩
  · cases rx with
    | lst e1 q1 =>
      cases ry
      obtain ⟨⟨h1, h2, h3⟩, q⟩ := h
      refine .inr ⟨_, _, _, rfl, rfl, w.le _ _ e1, h1, h2, ?_, fun p hp => ?_⟩
      · rw [RpA.length q1]
        exact h3
      · obtain ⟨w', x'⟩ := w.alloc hp (.lst _)
        exact k _ _ M _ _ q w' x' (.lst upd_same (RpA.mono x'.g (RpA.rep q1 _)))
  · exact h.elim
/-- ==, != -/
def oEq (n : Bool) : F2 := fun x y M Q => match x, y with
  | .d (.str a), .d (.str b) => Q (.bl (if n then !decide (a = b) else decide (a = b))) M
  | _, _ => match now x M, now y M with
    | some a, some b => (SeqAt.shaped a = true ∧ SeqAt.shaped b = true) ∧ Q (.bl (if n then !PyData.eqv a b else PyData.eqv a b)) M
    | _, _ => False
def rEqs (K : PySem.W.Frag) : R2 := fun x y H Q => rEq x y H Q ∨ rEqD K x y H Q
def rNes (K : PySem.W.Frag) : R2 := fun x y H Q => rNe x y H Q ∨ rNeD K x y H Q
theorem dec_str {a b : Str} : decide (V.str a = V.str b) = decide (a = b) := by
  by_cases h : a = b
  · rw [h, decide_eq_true rfl, decide_eq_true rfl]
  · rw [decide_eq_false h, decide_eq_false fun z => h (V.str.inj z)]
theorem opl_eq {K : PySem.W.Frag} : OpL K (rEqs K) (oEq false) := by
  intro x y t u M B H Q Q' h w rx ry k
  unfold oEq at h
  split at h
  · cases rx
    cases ry
    exact .inl ⟨rfl, by rw [dec_str]; exact k _ _ M B H h w (.refl _ _) (.bl _)⟩
  · split at h
    · rename_i a b e1 e2
      exact .inr ⟨a, b, w.dpNow rx e1, w.dpNow ry e2, h.1.1, h.1.2, k _ _ M B H h.2 w (.refl _ _) (.bl _)⟩
    · exact h.elim
theorem opl_ne {K : PySem.W.Frag} : OpL K (rNes K) (oEq true) := by
  intro x y t u M B H Q Q' h w rx ry k
  unfold oEq at h
  split at h
  · cases rx
    cases ry
    exact .inl ⟨rfl, by rw [dec_str]; exact k _ _ M B H h w (.refl _ _) (.bl _)⟩
  · split at h
    · rename_i a b e1 e2
      exact .inr ⟨a, b, w.dpNow rx e1, w.dpNow ry e2, h.1.1, h.1.2, k _ _ M B H h.2 w (.refl _ _) (.bl _)⟩
    · exact h.elim
theorem opr_eq {X : Cx} (hu : X.A.units + 64 < cLine) : OpR X (compareOp .Eq) (rEqs X.K) := op_eq.or (op_eqD hu)
theorem opr_ne {X : Cx} (hu : X.A.units + 64 < cLine) : OpR X (compareOp .NotEq) (rNes X.K) := op_ne.or (op_neD hu)
abbrev F1 := T → Mem → Kt → Prop
def mUn (f : F1) (m : Me) : Me := fun τ M Q => m τ M fun x M1 => f x M1 Q
def oNeg : F1 := fun x M Q => match x with
  | .d (.int i) => Q (.int (-i)) M
  | _ => False
section
variable {X : Cx} {a b c e : Expr} {es : List Expr} {ma mb mc m : Me} {pos : Pos}
theorem me_neg (ha : ME X a ma) : ME X (.UnaryOp .USub a pos) (mUn oNeg ma) := PE.of (pe_un un_neg ha) fun σ H Q' ⟨τ, M, B, Q, h, w, s, k⟩ => by
  refine ⟨τ, M, B, _, h, w, s, fun v t M1 B1 H1 h1 w1 e1 r1 => ?_⟩
  unfold oNeg at h1
  split at h1
  · cases r1
    exact ⟨_, rfl, k _ _ M1 B1 H1 h1 w1 e1 (.int _)⟩
  · exact h1.elim
theorem mb_val (h : ME X e m) (he : ∀ whole, isTrue e X.env whole = (do let v ← whole; standAt e.pos; holding [v] (truthy v)) := by intro _; rfl) : MB X e (mTest m) := PT.of (pt_val h he) fun σ H Q' ⟨τ, M, B, Q, h, w, s, k⟩ => by
  refine ⟨τ, M, B, _, h, w, s, fun v t M1 B1 H1 h1 w1 e1 r1 => ?_⟩
  obtain ⟨b, rfl, q⟩ := h1
  cases r1
  exact ⟨b, rfl, k b M1 B1 H1 q w1 e1⟩
abbrev MW (X : Cx) (e : Expr) (m : Mb) : Prop := PW X e (rB X.K m)
def bAnd (t u : Mb) : Mb := fun τ M Q => t τ M fun b M1 => if b = true then u τ M1 Q else Q false M1
def bOr (t u : Mb) : Mb := fun τ M Q => t τ M fun b M1 => if b = true then Q true M1 else u τ M1 Q
def bNot (t : Mb) : Mb := fun τ M Q => t τ M fun b M1 => Q (!b) M1
variable {ta tb tc : Mb}
theorem MW.toB (h : MW X e ta) : MB X e ta := PW.pt h
theorem mw_and1 (h : MB X a ta) : MW X (.BoolOp .And [a] pos) ta := pw_and1 h
theorem mw_or1 (h : MB X a ta) : MW X (.BoolOp .Or [a] pos) ta := pw_or1 h
theorem mw_and {rest : List Expr} (h : MB X a ta) (g : MW X (.BoolOp .And (b :: rest) pos) tb) : MW X (.BoolOp .And (a :: b :: rest) pos) (bAnd ta tb) := PW.of (pw_and h g) fun σ H Q' ⟨τ, M, B, Q, h, w, s, k⟩ => by
  refine ⟨τ, M, B, _, h, w, s, fun v M1 B1 H1 h1 w1 e1 => ?_⟩
  cases v with
  | true => exact ⟨τ, M1, B1, Q, h1, w1, s.mono e1, fun v M2 B2 H2 h2 w2 e2 => k v M2 B2 H2 h2 w2 (e1.trans e2)⟩
  | false => exact k _ M1 B1 H1 h1 w1 e1
theorem mw_or {rest : List Expr} (h : MB X a ta) (g : MW X (.BoolOp .Or (b :: rest) pos) tb) : MW X (.BoolOp .Or (a :: b :: rest) pos) (bOr ta tb) := PW.of (pw_or h g) fun σ H Q' ⟨τ, M, B, Q, h, w, s, k⟩ => by
  refine ⟨τ, M, B, _, h, w, s, fun v M1 B1 H1 h1 w1 e1 => ?_⟩
  cases v with
  | false => exact ⟨τ, M1, B1, Q, h1, w1, s.mono e1, fun v M2 B2 H2 h2 w2 e2 => k v M2 B2 H2 h2 w2 (e1.trans e2)⟩
  | true => exact k _ M1 B1 H1 h1 w1 e1
theorem mb_not (h : MB X a ta) : MB X (.UnaryOp .Not a pos) (bNot ta) := PT.of (pt_not h) fun σ H Q' ⟨τ, M, B, Q, h, w, s, k⟩ => by
  exact ⟨τ, M, B, _, h, w, s, fun v M1 B1 H1 h1 w1 e1 => k _ M1 B1 H1 h1 w1 e1⟩
/-- and, or, not as values (of bools) -/
def mAnd (x y : Me) : Me := fun τ M Q => x τ M fun t M1 => match t with
  | .d (.bool true) => y τ M1 Q
  | .d (.bool false) => Q (.bl false) M1
  | _ => False
def mOr (x y : Me) : Me := fun τ M Q => x τ M fun t M1 => match t with
  | .d (.bool true) => Q (.bl true) M1
  | .d (.bool false) => y τ M1 Q
  | _ => False
def mNot (x : Me) : Me := fun τ M Q => x τ M fun t M1 => match t with
  | .d (.bool b) => Q (.bl (!b)) M1
  | _ => False
theorem me_one {op : PySem.BoolOp} (h : ME X a ma) : ME X (.BoolOp op [a] pos) ma := pe_one h
theorem me_and {rest : List Expr} (h : ME X a ma) (g : ME X (.BoolOp .And (b :: rest) pos) mb) : ME X (.BoolOp .And (a :: b :: rest) pos) (mAnd ma mb) := PE.of (pe_and h g) fun σ H Q' ⟨τ, M, B, Q, h, w, s, k⟩ => by
  refine ⟨τ, M, B, _, h, w, s, fun v t M1 B1 H1 h1 w1 e1 r1 => ?_⟩
  split at h1
  · cases r1
    exact ⟨true, rfl, ⟨τ, M1, B1, Q, h1, w1, s.mono e1, fun v t M2 B2 H2 h2 w2 e2 => k v t M2 B2 H2 h2 w2 (e1.trans e2)⟩⟩
  · cases r1
    exact ⟨false, rfl, k _ _ M1 B1 H1 h1 w1 e1 (.bl _)⟩
  · exact h1.elim
theorem me_not (h : ME X a ma) : ME X (.UnaryOp .Not a pos) (mNot ma) := PE.of (pe_not h) fun σ H Q' ⟨τ, M, B, Q, h, w, s, k⟩ => by
  refine ⟨τ, M, B, _, h, w, s, fun v t M1 B1 H1 h1 w1 e1 r1 => ?_⟩
  split at h1
  · cases r1
    exact ⟨_, rfl, k _ _ M1 B1 H1 h1 w1 e1 (.bl _)⟩
  · exact h1.elim
def mIte (c : Mb) (x y : Me) : Me := fun τ M Q => c τ M fun b M1 => if b = true then x τ M1 Q else y τ M1 Q
theorem me_ite (hc : MB X c ta) (ha : ME X a ma) (hb : ME X b mb) : ME X (.IfExp c a b pos) (mIte ta ma mb) := PE.of (pe_ifExp hc ha hb) fun σ H Q' ⟨τ, M, B, Q, h, w, s, k⟩ => by
  refine ⟨τ, M, B, _, h, w, s, fun v M1 B1 H1 h1 w1 e1 => ?_⟩
  cases v with
  | true => exact ⟨τ, M1, B1, Q, h1, w1, s.mono e1, fun v t M2 B2 H2 h2 w2 e2 => k v t M2 B2 H2 h2 w2 (e1.trans e2)⟩
  | false => exact ⟨τ, M1, B1, Q, h1, w1, s.mono e1, fun v t M2 B2 H2 h2 w2 e2 => k v t M2 B2 H2 h2 w2 (e1.trans e2)⟩
/-- a op b op' c -/
def mChain (f g : F2) (x y z : Me) : Me := fun τ M Q => x τ M fun a M1 => y τ M1 fun b M2 => f a b M2 fun t M3 => match t with
  | .d (.bool true) => z τ M3 fun c M4 => g b c M4 Q
  | .d (.bool false) => Q (.bl false) M3
  | _ => False
theorem chain_of {K : PySem.W.Frag} {r q : R2} {f g : F2} (h1 : OpL K r f) (h2 : OpL K q g) {σ : L2.St} {H : Hp} {Q' : VK} (h : rE K (mChain f g ma mb mc) σ H Q') : tChain r q (rE K ma) (rE K mb) (rE K mc) σ H Q' := by
  obtain ⟨τ, M, B, Q, h, w, s, k⟩ := h
  refine ⟨τ, M, B, _, h, w, s, fun x t M1 B1 H1 z1 w1 e1 r1 => ⟨τ, M1, B1, _, z1, w1, s.mono e1, fun y u M2 B2 H2 z2 w2 e2 r2 => ?_⟩⟩
  refine h1 x y t u M2 B2 H2 _ _ z2 w2 (Rt.mono e2 r1) r2 fun v t' M3 B3 H3 z3 w3 e3 r3 => ?_
  split at z3
  · cases r3
    refine ⟨true, rfl, ?_⟩
    refine ⟨τ, M3, B3, _, z3, w3, ((s.mono e1).mono e2).mono e3, fun y' u' M4 B4 H4 z4 w4 e4 r4 => ?_⟩
    exact h2 y y' u u' M4 B4 H4 Q Q' z4 w4 (Rt.mono e4 (Rt.mono e3 r2)) r4 fun v t M5 B5 H5 z5 w5 e5 => k v t M5 B5 H5 z5 w5 (((e1.trans e2).trans e3).trans (e4.trans e5))
  · cases r3
    exact ⟨false, rfl, k _ _ M3 B3 H3 z3 w3 ((e1.trans e2).trans e3) (.bl _)⟩
  · exact z3.elim
theorem me_chain {op op' : CmpOp} {r q : R2} {f g : F2} (ho : OpR X (compareOp op) r) (hl : OpL X.K r f) (ho' : OpR X (compareOp op') q) (hl' : OpL X.K q g) (ha : ME X a ma) (hb : ME X b mb) (hc : ME X c mc)
    (hm : lastMarks [op, op'] [b, c] = false := by with_unfolding_all rfl) : ME X (.Compare a [op, op'] [b, c] pos) (mChain f g ma mb mc) := PE.of (pe_chain ho ho' ha hb hc hm) fun _ _ _ h => chain_of hl hl' h
def aNil : Ma := fun _ M Q => Q [] M
def aCons (m : Me) (r : Ma) : Ma := fun τ M Q => m τ M fun x M1 => r τ M1 fun xs M2 => Q (x :: xs) M2
variable {mr : Ma}
theorem ma_nil : MA X [] aNil := PA.of pa_nil fun σ H Q' ⟨τ, M, B, Q, h, w, s, k⟩ => k _ _ M B H h w (.refl _ _) .nil
theorem ma_cons (ha : ME X e m) (hr : MA X es mr) (hs : starEach (e :: es) X.env = (false, eval e X.env) :: starEach es X.env := by rfl) : MA X (e :: es) (aCons m mr) := PA.of (pa_cons ha hr hs) fun σ H Q' ⟨τ, M, B, Q, h, w, s, k⟩ => by
  refine ⟨τ, M, B, _, h, w, s, fun v t M1 B1 H1 h1 w1 e1 r1 => ⟨τ, M1, B1, _, h1, w1, s.mono e1, fun v2 t2 M2 B2 H2 h2 w2 e2 r2 => ?_⟩⟩
  exact k _ _ M2 B2 H2 h2 w2 (e1.trans e2) (.cons (Rt.mono e2 r1) r2)
def mTup (r : Ma) : Me := fun τ M Q => r τ M fun ts M1 => match datas ts with
  | some ds => ds.length ≤ sizeLine ∧ Q (.tup ds) M1
  | none => False
def mLst (r : Ma) : Me := fun τ M Q => r τ M fun ts M1 => match datas ts with
  | some ds => ds.length ≤ sizeLine ∧ Q (.lst ds) M1
  | none => False
/-- a list display that the frame changes itself -/
def mNewL (r : Ma) : Me := fun τ M Q => r τ M fun ts M1 => match datas ts with
  | some ds => ds.length ≤ sizeLine ∧ Q (.lr M1.L.length) { M1 with L := M1.L ++ [some ds] }
  | none => False
theorem me_tup {x1 : Nat} (h : MA X es mr) : ME X (.Tuple es x1 pos) (mTup mr) := PE.of (pe_tupC h) fun σ H Q' ⟨τ, M, B, Q, h, w, s, k⟩ => by
  refine ⟨τ, M, B, _, h, w, s, fun v t M1 B1 H1 h1 w1 e1 r1 => ?_⟩
  split at h1
  · rename_i ds hd
    have q := datas_rpa r1 hd
    refine ⟨by rw [RpA.length q]; exact h1.1, fun p o hp ho => ?_⟩
    obtain ⟨w2, e2⟩ := w1.alloc hp (.frz o (.tup v))
    exact k _ _ M1 _ _ h1.2 w2 (e1.trans e2) (.tup (.inl ⟨o, upd_same, ho⟩) (RpA.mono e2.g q))
  · exact h1.elim
theorem me_lst (h : MA X es mr) : ME X (.List es pos) (mLst mr) := PE.of (pe_lst h) fun σ H Q' ⟨τ, M, B, Q, h, w, s, k⟩ => by
  refine ⟨τ, M, B, _, h, w, s, fun v t M1 B1 H1 h1 w1 e1 r1 => ?_⟩
  split at h1
  · rename_i ds hd
    have q := datas_rpa r1 hd
    refine ⟨by rw [RpA.length q]; exact h1.1, fun p hp => ?_⟩
    obtain ⟨w2, e2⟩ := w1.alloc hp (.lst v)
    exact k _ _ M1 _ _ h1.2 w2 (e1.trans e2) (.lst upd_same (RpA.mono e2.g q))
  · exact h1.elim
theorem get_snoc {α : Type} {l : List α} {a : α} : (l ++ [a])[l.length]? = some a := by
  rw [List.getElem?_append_right (Nat.le_refl _), Nat.sub_self]
  rfl
theorem me_newL (h : MA X es mr) : ME X (.List es pos) (mNewL mr) := PE.of (pe_lst h) fun σ H Q' ⟨τ, M, B, Q, h, w, s, k⟩ => by
  refine ⟨τ, M, B, _, h, w, s, fun v t M1 B1 H1 h1 w1 e1 r1 => ?_⟩
  split at h1
  · rename_i ds hd
    have q := datas_rpa r1 hd
    refine ⟨by rw [RpA.length q]; exact h1.1, fun p hp => ?_⟩
    obtain ⟨w2, e2⟩ := w1.newL hp q
    exact k _ _ _ _ _ h1.2 w2 (e1.trans e2) ⟨p, rfl, by rw [← w1.llen]; exact get_snoc⟩
  · exact h1.elim
/-- a list that is the frame's own, from a list that never changes again (list(..), [.. for ..]): no -/
def mFrz (m : Me) : Me := fun τ M Q => m τ M fun t M1 => match t with
  | .lr i => (match M1.L[i]? with
    | some (some ds) => Q (.lst ds) { M1 with L := M1.L.set i none }
    | _ => False)
  | t => Q t M1
theorem me_frz (h : ME X e m) : ME X e (mFrz m) := PE.of h fun σ H Q' ⟨τ, M, B, Q, h, w, s, k⟩ => by
  refine ⟨τ, M, B, _, h, w, s, fun v t M1 B1 H1 h1 w1 e1 r1 => ?_⟩
  split at h1
  · split at h1
    · rename_i hL
      obtain ⟨a, rfl, ha⟩ := r1
      obtain ⟨B2, w2, e2, r2⟩ := w1.freeze ha hL
      exact k _ _ _ _ _ h1 w2 (e1.trans e2) r2
    · exact h1.elim
  · exact k _ _ M1 B1 H1 h1 w1 e1 r1
end
end L3
set_option Elab.async false
set_option linter.all false
set_option maxRecDepth 100000
namespace L3
open PySem PySem.Spec L2
theorem atI_of {α β : Type} {xs : List α} {ys : List β} {i : Int} {y : β} (hl : xs.length = ys.length) (e : atI ys i = some y) : ∃ j, ixN xs.length i = some j ∧ ixN ys.length i = some j ∧ ys[j]? = some y := by
  unfold atI at e
  cases h : ixN ys.length i with
  | none => rw [h] at e; cases e
  | some j =>
    rw [h] at e
    exact ⟨j, by rw [hl]; exact h, rfl, e⟩
theorem RpA.atI {K : PySem.W.Frag} {G : Hp} {xs : List V} {ds : List PyData} {i : Int} {d : PyData} (r : RpA K G xs ds) (e : L2.atI ds i = some d) : ∃ u, L2.atI xs i = some u ∧ Rp K G u d := by
  obtain ⟨j, h1, _, h3⟩ := atI_of (RpA.length r) e
  obtain ⟨u, h4, h5⟩ := RpA.get r h3
  exact ⟨u, by unfold L2.atI; rw [h1]; exact h4, h5⟩
theorem paired_len {α β : Type} {F : α → β → Prop} {l : List α} {m : List β} (h : Paired F l m) : l.length = m.length := by
  induction h with
  | nil => rfl
  | cons _ _ ih => rw [List.length_cons, List.length_cons, ih]
theorem paired_get {α β : Type} {F : α → β → Prop} {l : List α} {m : List β} (h : Paired F l m) : ∀ {i : Nat} {y : β}, m[i]? = some y → ∃ x, l[i]? = some x ∧ F x y := by
  induction h with
  | nil => intro i y e; simp at e
  | cons p _ ih =>
    intro i y e
    cases i with
    | zero => simp at e; subst e; exact ⟨_, rfl, p⟩
    | succ i => exact ih e
theorem paired_atI {α β : Type} {F : α → β → Prop} {l : List α} {m : List β} {i : Int} {y : β} (h : Paired F l m) (e : L2.atI m i = some y) : ∃ u, L2.atI l i = some u ∧ F u y := by
  obtain ⟨j, h1, _, h3⟩ := atI_of (paired_len h) e
  obtain ⟨u, h4, h5⟩ := paired_get h h3
  exact ⟨u, by unfold L2.atI; rw [h1]; exact h4, h5⟩
def oIx : F2 := fun x y M Q => match x, y with
  | .d (.list xs), .d (.int j) => ∃ t, atI xs j = some t ∧ Q (.d t) M
  | .d (.tuple xs), .d (.int j) => ∃ t, atI xs j = some t ∧ Q (.d t) M
  | .lr i, .d (.int j) => (match M.L[i]? with
    | some (some xs) => ∃ t, atI xs j = some t ∧ Q (.d t) M
    | _ => False)
  | .mr i, .d (.int j) => (match M.D[i]? with
    | some (.lst ts) => ∃ t, atI ts j = some t ∧ Q t M
    | _ => False)
  | _, _ => False
def rIx2 (K : PySem.W.Frag) : R2 := fun x y H Q => rIxL K x y H Q ∨ rIxT K x y H Q
theorem ixr {X : Cx} : IxR X (rIx2 X.K) := ix_list.or ix_tup
theorem opl_ix {K : PySem.W.Frag} : OpL K (rIx2 K) oIx := by
  intro x y t u M B H Q Q' h w rx ry k
  unfold oIx at h
  split at h
  · cases ry
    cases rx with
    | lst e q =>
      obtain ⟨d, h1, h2⟩ := h
      obtain ⟨v, h3, h4⟩ := RpA.atI q h1
      exact .inl ⟨_, _, _, v, rfl, rfl, .of (w.le _ _ e), h3, k _ _ M B H h2 w (.refl _ _) h4⟩
  · cases ry
    cases rx with
    | tup e q =>
      obtain ⟨d, h1, h2⟩ := h
      obtain ⟨v, h3, h4⟩ := RpA.atI q h1
      exact .inr ⟨_, _, _, v, rfl, rfl, SqT.mono w.le e, h3, k _ _ M B H h2 w (.refl _ _) h4⟩
  · split at h
    · rename_i hL
      cases ry
      obtain ⟨a, rfl, ha⟩ := rx
      obtain ⟨_, vs, e, q⟩ := w.lc _ _ _ ha hL
      obtain ⟨d, h1, h2⟩ := h
      obtain ⟨v, h3, h4⟩ := RpA.atI q h1
      exact .inl ⟨_, _, _, v, rfl, rfl, .of e, h3, k _ _ M B H h2 w (.refl _ _) h4⟩
    · exact h.elim
  · split at h
    · rename_i hD
      cases ry
      obtain ⟨a, rfl, ha⟩ := rx
      obtain ⟨_, vs, e, q⟩ := w.dc _ _ _ ha hD
      obtain ⟨d, h1, h2⟩ := h
      obtain ⟨v, h3, h4⟩ := paired_atI q h1
      refine .inl ⟨_, _, _, v, rfl, rfl, .of e, h3, k _ _ M B H h2 w (.refl _ _) ?_⟩
      exact Rt.mono' (B := { B with l := [] }) (B' := B) (fun _ _ e => e) (List.prefix_refl _) (List.nil_prefix) h4
    · exact h.elim
  · exact h.elim
section
variable {X : Cx} {a b c e : Expr} {es : List Expr} {ma mb mc m : Me} {pos : Pos} {mr : Ma}
theorem me_ix (ha : ME X a ma) (hb : ME X b mb) (hs : PlainIx b) : ME X (.Subscript a b pos) (mOp oIx ma mb) := PE.of (pe_ix ixr ha hb hs) fun _ _ _ h => two opl_ix h
def cutT {α : Type} (xs : List α) (lo hi : Option Int) : List α := (xs.drop (HT.sIx xs.length 0 lo)).take (HT.sIx xs.length xs.length hi - HT.sIx xs.length 0 lo)
theorem RpA.cut {K : PySem.W.Frag} {G : Hp} {xs : List V} {ds : List PyData} {lo hi : Option Int} (r : RpA K G xs ds) : RpA K G (cutV xs lo hi) (cutT ds lo hi) := by
  unfold cutV cutT
  rw [RpA.length r]
  exact RpA.take _ (RpA.drop _ r)
theorem cut_map {α β : Type} (f : α → β) (xs : List α) (lo hi : Option Int) : cutT (xs.map f) lo hi = (cutT xs lo hi).map f := by
  unfold cutT
  rw [List.length_map, List.map_take, List.map_drop]
theorem cutT_all {α : Type} {xs : List α} {lo hi : Option Int} (h : HT.sIx xs.length 0 lo = 0 ∧ HT.sIx xs.length xs.length hi = xs.length) : cutT xs lo hi = xs := by
  unfold cutT
  rw [h.1, h.2, List.drop_zero, Nat.sub_zero, List.take_length]
abbrev Mo := En → Mem → (Option Int → Mem → Prop) → Prop
def rO (K : PySem.W.Frag) (m : Mo) : TO := fun σ H Q' => ∃ τ M B Q, m τ M Q ∧ Wd K B M H ∧ Sl K B σ τ ∧ ∀ b M' B' H', Q b M' → Wd K B' M' H' → Ext B H B' H' → Q' b H'
theorem PO.of {e : Option Expr} {t t' : TO} (h : PO X e t) (w : ∀ σ H Q, t' σ H Q → t σ H Q) : PO X e t' := ⟨fun _ _ _ _ _ iv q => h.run _ _ _ _ _ iv (w _ _ _ q)⟩
def oNone : Mo := fun _ M Q => Q none M
def oPart (m : Me) : Mo := fun τ M Q => m τ M fun t M1 => match t with
  | .d (.int i) => Q (some i) M1
  | _ => False
theorem mo_none : PO X none (rO X.K oNone) := PO.of po_none fun σ H Q' ⟨τ, M, B, Q, h, w, s, k⟩ => k _ M B H h w (.refl _ _)
theorem mo_some (h : ME X e m) : PO X (some e) (rO X.K (oPart m)) := PO.of (po_some h) fun σ H Q' ⟨τ, M, B, Q, h, w, s, k⟩ => by
  refine ⟨τ, M, B, _, h, w, s, fun v t M1 B1 H1 h1 w1 e1 r1 => ?_⟩
  split at h1
  · cases r1
    exact ⟨_, rfl, k _ M1 B1 H1 h1 w1 e1⟩
  · exact h1.elim
def oSl (x : T) (lo hi : Option Int) (M : Mem) (Q : Kt) : Prop := match x with
  | .d (.list xs) => Q (.lst (cutT xs lo hi)) M
  | .d (.tuple xs) => Q (.tup (cutT xs lo hi)) M
  | .scr ns => Q (.lst ((cutT ns lo hi).map .int)) M
  | .lr i => (match M.L[i]? with
    | some (some xs) => Q (.lst (cutT xs lo hi)) M
    | _ => False)
  | _ => False
def mSl (m : Me) (lo hi : Mo) : Me := fun τ M Q => m τ M fun x M1 => lo τ M1 fun l M2 => hi τ M2 fun u M3 => oSl x l u M3 Q
theorem me_slice {lo hi : Option Expr} {ml mh : Mo} {p2 : Pos} (he : ME X e m) (hl : PO X lo (rO X.K ml)) (hu : PO X hi (rO X.K mh)) : ME X (.Subscript e (.Slice lo hi none p2) pos) (mSl m ml mh) := by
  refine PE.of (pe_slice (sl_list.or sl_tupC) he hl hu) fun σ H Q' ⟨τ, M, B, Q, h, w, s, k⟩ => ?_
  refine ⟨τ, M, B, _, h, w, s, fun v t M1 B1 H1 h1 w1 e1 r1 => ⟨τ, M1, B1, _, h1, w1, s.mono e1, fun l M2 B2 H2 h2 w2 e2 => ⟨τ, M2, B2, _, h2, w2, (s.mono e1).mono e2, fun u M3 B3 H3 h3 w3 e3 => ?_⟩⟩⟩
  have e123 := e1.trans (e2.trans e3)
  have r3 := Rt.mono e3 (Rt.mono e2 r1)
  unfold oSl at h3
  split at h3
  · cases r3 with
    | lst e q =>
      refine .inl ⟨_, _, rfl, .of (w3.le _ _ e), fun p hp => ?_⟩
      obtain ⟨w4, e4⟩ := w3.alloc hp (.lst _)
      exact k _ _ M3 _ _ h3 w4 (e123.trans e4) (.lst upd_same (RpA.mono e4.g (RpA.cut q)))
  · cases r3 with
    | tup e q =>
      refine .inr ⟨_, _, rfl, SqT.mono w3.le e, fun z => ?_, fun _ p o hp ho => ?_⟩
      · have z' := z
        rw [RpA.length q] at z'
        rw [cutT_all z'] at h3
        exact k _ _ M3 B3 H3 h3 w3 e123 (.tup e q)
      · obtain ⟨w4, e4⟩ := w3.alloc hp (.frz o (.tup _))
        exact k _ _ M3 _ _ h3 w4 (e123.trans e4) (.tup (.inl ⟨o, upd_same, ho⟩) (RpA.mono e4.g (RpA.cut q)))
  · obtain ⟨a, rfl, e⟩ := r3
    refine .inl ⟨_, _, rfl, SqL.mono w3.le e, fun p hp => ?_⟩
    obtain ⟨w4, e4⟩ := w3.alloc hp (.lst _)
    refine k _ _ M3 _ _ h3 w4 (e123.trans e4) (.lst upd_same ?_)
    rw [← cut_map]
    exact RpA.cut (RpA.of_ints _)
  · split at h3
    · rename_i hL
      obtain ⟨a, rfl, ha⟩ := r3
      obtain ⟨_, vs, e, q⟩ := w3.lc _ _ _ ha hL
      refine .inl ⟨_, _, rfl, .of e, fun p hp => ?_⟩
      obtain ⟨w4, e4⟩ := w3.alloc hp (.lst _)
      exact k _ _ M3 _ _ h3 w4 (e123.trans e4) (.lst upd_same (RpA.mono e4.g (RpA.cut q)))
    · exact h3.elim
  · exact h3.elim
abbrev FA := List T → Mem → Kt → Prop
def CaL (K : PySem.W.Frag) (r : List V → Hp → VK → Prop) (f : FA) : Prop := ∀ xs ts M B H Q Q', f ts M Q → Wd K B M H → Paired (Rt K B) xs ts →
  (∀ v t' M' B' H', Q t' M' → Wd K B' M' H' → Ext B H B' H' → Rt K B' v t' → Q' v H') → r xs H Q'
def mCall (f : FA) (r : Ma) : Me := fun τ M Q => r τ M fun ts M1 => f ts M1 Q
theorem call_of {K : PySem.W.Frag} {r : List V → Hp → VK → Prop} {f : FA} (hl : CaL K r f) {σ : L2.St} {H : Hp} {Q' : VK} (h : rE K (mCall f mr) σ H Q') : tCB r (rA K mr) σ H Q' := by
  obtain ⟨τ, M, B, Q, h, w, s, k⟩ := h
  exact ⟨τ, M, B, _, h, w, s, fun v t M1 B1 H1 h1 w1 e1 r1 => hl v t M1 B1 H1 Q Q' h1 w1 r1 fun v t M2 B2 H2 h2 w2 e2 => k v t M2 B2 H2 h2 w2 (e1.trans e2)⟩
theorem me_callB {x : Str} {p : Pos} {id : String} {r : List V → Hp → VK → Prop} {f : FA} (hc : CallR X (.builtin id) r) (hl : CaL X.K r f) (hg : Gl X x) (hm : X.mg x = none) (hv : bootBuiltins x = some (.builtin id)) (ha : MA X (e :: es) mr) (hn : x ≠ "__name__" := by decide) (hdb : (x == ("__debug__" : Str)) = false := by decide)
    (he : starEach (e :: es) X.env = (false, eval e X.env) :: starEach es X.env := by rfl) (hpl : (backTo pos (starEach es X.env)).any (·.1) = false := by rfl) : ME X (.Call (.Name x p) (e :: es) [] pos) (mCall f mr) := PE.of (pe_callB hc hg hm hv ha hn hdb he hpl) fun _ _ _ h => call_of hl h
theorem me_callTy {x : Str} {p : Pos} {id : String} {r : List V → Hp → VK → Prop} {f : FA} (hc : CallR X (.type id) r) (hl : CaL X.K r f) (hg : Gl X x) (hm : X.mg x = none) (hv : bootBuiltins x = some (.type id)) (ha : MA X (e :: es) mr) (hn : x ≠ "__name__" := by decide) (hdb : (x == ("__debug__" : Str)) = false := by decide)
    (he : starEach (e :: es) X.env = (false, eval e X.env) :: starEach es X.env := by rfl) (hpl : (backTo pos (starEach es X.env)).any (·.1) = false := by rfl) : ME X (.Call (.Name x p) (e :: es) [] pos) (mCall f mr) := PE.of (pe_callTy hc hg hm hv ha hn hdb he hpl) fun _ _ _ h => call_of hl h
end
section
variable {K : PySem.W.Frag}
theorem paired_one {F : V → T → Prop} {xs : List V} {t : T} (h : Paired F xs [t]) : ∃ v, xs = [v] ∧ F v t := by
  cases h with
  | cons p q =>
    cases q
    exact ⟨_, rfl, p⟩
theorem paired_two {F : V → T → Prop} {xs : List V} {t u : T} (h : Paired F xs [t, u]) : ∃ v w, xs = [v, w] ∧ F v t ∧ F w u := by
  cases h with
  | cons p q =>
    obtain ⟨w, rfl, r⟩ := paired_one q
    exact ⟨_, _, rfl, p, r⟩
theorem now_flat {t : T} {M : Mem} {x : PyData} (e : now t M = some x) : t = .d x ∨ ∃ xs, x = .list xs := by
  cases t with
  | d y => cases e; exact .inl rfl
  | lr i =>
    have e' : (match M.L[i]? with | some (some ds) => some (PyData.list ds) | _ => none) = some x := e
    split at e'
    · cases e'; exact .inr ⟨_, rfl⟩
    · cases e'
  | mr i =>
    have e' : (match M.D[i]? with | some (.lst ts) => (datas ts).map PyData.list | _ => none) = some x := e
    split at e'
    · rename_i ts _
      cases q : datas ts with
      | none => rw [q] at e'; cases e'
      | some ds => rw [q] at e'; cases e'; exact .inr ⟨_, rfl⟩
    · cases e'
  | scr ns => cases e; exact .inr ⟨_, rfl⟩
  | wt xs => cases e
  | exo a c d e' => cases e
  | q x => cases e
/-- the list or the tuple that a value is now -/
theorem Wd.seq {B : Bk} {M : Mem} {H : Hp} (w : Wd K B M H) {v : V} {t : T} (r : Rt K B v t) :
    (∀ xs, now t M = some (.list xs) → ∃ p ys, v = .ref p ∧ SqL K H p ys ∧ RpA K B.G ys xs) ∧ (∀ xs, now t M = some (.tuple xs) → ∃ p ys, v = .ref p ∧ SqT K H p ys ∧ RpA K B.G ys xs) := by
  refine ⟨fun xs e => ?_, fun xs e => ?_⟩
  · cases t with
    | d y =>
      cases e
      cases r with
      | lst e q => exact ⟨_, _, rfl, .of (w.le _ _ e), q⟩
    | lr i =>
      obtain ⟨a, rfl, ha⟩ := r
      unfold now at e
      cases h : M.L[i]? with
      | none => simp [h] at e
      | some o =>
        cases o with
        | none => simp [h] at e
        | some ds =>
          simp only [h] at e
          cases e
          obtain ⟨_, vs, h1, h2⟩ := w.lc i a _ ha h
          exact ⟨_, _, rfl, .of h1, h2⟩
    | mr i =>
      obtain ⟨a, rfl, ha⟩ := r
      unfold now at e
      cases h : M.D[i]? with
      | none => simp [h] at e
      | some o =>
        cases o with
        | dct _ => simp [h] at e
        | dnk _ => simp [h] at e
        | held _ => simp [h] at e
        | exc _ _ => simp [h] at e
        | ins _ _ => simp [h] at e
        | tup _ => simp [h] at e
        | dnd _ => simp [h] at e
        | lst ts =>
          simp only [h] at e
          cases q : datas ts with
          | none => rw [q] at e; cases e
          | some ds =>
            rw [q] at e
            cases e
            obtain ⟨_, vs, h1, h2⟩ := w.dc i a _ ha h
            exact ⟨_, _, rfl, .of h1, datas_rpa (B := { B with l := [] }) h2 q⟩
    | scr ns =>
      obtain ⟨a, rfl, ha⟩ := r
      cases e
      exact ⟨_, _, rfl, SqL.mono w.le ha, RpA.of_ints ns⟩
    | wt xs => cases e
    | exo a c d e' => cases e
    | q x => cases e
  · rcases now_flat e with z | ⟨ys, z⟩
    · subst z
      cases r with
      | tup e q => exact ⟨_, _, rfl, SqT.mono w.le e, q⟩
    · cases z
/-- len -/
def fLen : FA := fun ts M Q => match ts with
  | [t] => (match now t M with
    | some (.list xs) => Q (.int xs.length) M
    | some (.tuple xs) => Q (.int xs.length) M
    | some (.str z) => z.length ≤ sizeLine ∧ Q (.int z.length) M
    | _ => False)
  | _ => False
def rLen (K : PySem.W.Frag) : List V → Hp → VK → Prop := fun xs H Q => (∃ p ys, xs = [.ref p] ∧ (SqL K H p ys ∨ SqT K H p ys) ∧ Q (.int ys.length) H) ∨ (∃ z, xs = [.str z] ∧ z.length ≤ sizeLine ∧ Q (.int z.length) H)
theorem cr_len {X : Cx} : CallR X (.builtin "len") (rLen X.K) := call_len_seq.or call_len_str
theorem cal_len : CaL K (rLen K) fLen := by
  intro xs ts M B H Q Q' h w r k
  unfold fLen at h
  split at h
  · obtain ⟨v, rfl, r1⟩ := paired_one r
    split at h
    · rename_i e
      obtain ⟨p, ys, rfl, h1, h2⟩ := (w.seq r1).1 _ e
      refine .inl ⟨p, ys, rfl, .inl h1, ?_⟩
      rw [RpA.length h2]
      exact k _ _ M B H h w (.refl _ _) (.int _)
    · rename_i e
      obtain ⟨p, ys, rfl, h1, h2⟩ := (w.seq r1).2 _ e
      refine .inl ⟨p, ys, rfl, .inr h1, ?_⟩
      rw [RpA.length h2]
      exact k _ _ M B H h w (.refl _ _) (.int _)
    · rename_i z e
      rcases now_flat e with y | ⟨ys, y⟩
      · subst y
        cases r1
        exact .inr ⟨_, rfl, h.1, k _ _ M B H h.2 w (.refl _ _) (.int _)⟩
      · cases y
    · exact h.elim
  · exact h.elim
/-- tuple(..) -/
def fTuple : FA := fun ts M Q => match ts with
  | [t] => (match now t M with
    | some (.list xs) => Q (.tup xs) M
    | some (.tuple xs) => Q (.tup xs) M
    | _ => False)
  | _ => False
def rTuple (K : PySem.W.Frag) : List V → Hp → VK → Prop := fun xs H Q => ∃ p ys, xs = [.ref p] ∧ ((SqL K H p ys ∧ ∀ (l : Addr) (o : Obj), H l = none → o.dict = none → Q (.ref l) (upd H l (.frz o (.tup ys)))) ∨ (SqT K H p ys ∧ Q (.ref p) H))
theorem now_tup {t : T} {M : Mem} {xs : List PyData} (e : now t M = some (.tuple xs)) : t = .d (.tuple xs) := by
  rcases now_flat e with z | ⟨ys, z⟩
  · exact z
  · cases z
theorem cal_tuple : CaL K (rTuple K) fTuple := by
  intro xs ts M B H Q Q' h w r k
  unfold fTuple at h
  split at h
  · obtain ⟨v, rfl, r1⟩ := paired_one r
    split at h
    · rename_i e
      obtain ⟨p, ys, rfl, h1, h2⟩ := (w.seq r1).1 _ e
      refine ⟨p, ys, rfl, .inl ⟨h1, fun l o hl ho => ?_⟩⟩
      obtain ⟨w4, e4⟩ := w.alloc hl (.frz o (.tup ys))
      exact k _ _ M _ _ h w4 e4 (.tup (.inl ⟨o, upd_same, ho⟩) (RpA.mono e4.g h2))
    · rename_i e
      have e0 := now_tup e
      subst e0
      obtain ⟨p, ys, rfl, h1, h2⟩ := (w.seq r1).2 _ e
      exact ⟨p, ys, rfl, .inr ⟨h1, k _ _ M B H h w (.refl _ _) r1⟩⟩
    · exact h.elim
  · exact h.elim
def fListL : FA := fun ts M Q => match ts with
  | [t] => (match now t M with
    | some (.list xs) => Q (.lr M.L.length) { M with L := M.L ++ [some xs] }
    | some (.tuple xs) => Q (.lr M.L.length) { M with L := M.L ++ [some xs] }
    | _ => False)
  | _ => False
def rList (K : PySem.W.Frag) : List V → Hp → VK → Prop := fun xs H Q => ∃ p ys, xs = [.ref p] ∧ (SqL K H p ys ∨ SqT K H p ys) ∧ ∀ l, H l = none → Q (.ref l) (upd H l (.lst ys))
theorem cal_listL : CaL K (rList K) fListL := by
  intro xs ts M B H Q Q' h w r k
  unfold fListL at h
  split at h
  · obtain ⟨v, rfl, r1⟩ := paired_one r
    split at h
    · rename_i e
      obtain ⟨p, ys, rfl, h1, h2⟩ := (w.seq r1).1 _ e
      refine ⟨p, ys, rfl, .inl h1, fun l hl => ?_⟩
      obtain ⟨w4, e4⟩ := w.newL hl h2
      exact k _ _ _ _ _ h w4 e4 ⟨l, rfl, by rw [← w.llen]; exact get_snoc⟩
    · rename_i e
      obtain ⟨p, ys, rfl, h1, h2⟩ := (w.seq r1).2 _ e
      refine ⟨p, ys, rfl, .inr h1, fun l hl => ?_⟩
      obtain ⟨w4, e4⟩ := w.newL hl h2
      exact k _ _ _ _ _ h w4 e4 ⟨l, rfl, by rw [← w.llen]; exact get_snoc⟩
    · exact h.elim
  · exact h.elim
/-- all ints -/
def intsOf : List PyData → Option (List Int)
  | [] => some []
  | .int i :: r => (intsOf r).map (i :: ·)
  | _ :: _ => none
theorem intsOf_eq : ∀ {ds : List PyData} {ns : List Int}, intsOf ds = some ns → ds = ns.map .int
  | [], _, e => by cases e; rfl
  | .int i :: r, ns, e => by
    unfold intsOf at e
    cases h : intsOf r with
    | none => rw [h] at e; cases e
    | some l =>
      rw [h] at e
      cases e
      rw [intsOf_eq h]
      rfl
  | .none :: _, _, e => by cases e
  | .bool _ :: _, _, e => by cases e
  | .str _ :: _, _, e => by cases e
  | .list _ :: _, _, e => by cases e
  | .tuple _ :: _, _, e => by cases e
  | .dict _ :: _, _, e => by cases e
/-- the ints of a list now -/
def nowI (t : T) (M : Mem) : Option (List Int) := match now t M with
  | some (.list xs) => intsOf xs
  | _ => none
theorem Wd.nowIs {B : Bk} {M : Mem} {H : Hp} (w : Wd K B M H) {v : V} {t : T} (r : Rt K B v t) {ns : List Int} (e : nowI t M = some ns) : ∃ p, v = .ref p ∧ SqL K H p (ns.map V.int) := by
  unfold nowI at e
  split at e
  · rename_i xs hx
    obtain ⟨p, ys, rfl, h1, h2⟩ := (w.seq r).1 _ hx
    rw [intsOf_eq e] at h2
    rw [RpA.ints h2] at h1
    exact ⟨p, rfl, h1⟩
  · cases e
def fMax : FA := fun ts M Q => match ts with
  | [.d (.int i), .d (.int j)] => Q (.int (if j > i then j else i)) M
  | [t] => (match nowI t M with
    | some ns => 0 < ns.length ∧ ∀ m, m ∈ ns → (∀ y, y ∈ ns → y ≤ m) → Q (.int m) M
    | none => False)
  | _ => False
def fMin : FA := fun ts M Q => match ts with
  | [.d (.int i), .d (.int j)] => Q (.int (if j < i then j else i)) M
  | [t] => (match nowI t M with
    | some ns => 0 < ns.length ∧ ∀ m, m ∈ ns → (∀ y, y ∈ ns → m ≤ y) → Q (.int m) M
    | none => False)
  | _ => False
def rMax2 (K : PySem.W.Frag) : List V → Hp → VK → Prop := fun xs H Q => (∃ i j, xs = [.int i, .int j] ∧ Q (.int (if j > i then j else i)) H) ∨ rMax K xs H Q
def rMin2 (K : PySem.W.Frag) : List V → Hp → VK → Prop := fun xs H Q => (∃ i j, xs = [.int i, .int j] ∧ Q (.int (if j < i then j else i)) H) ∨ rMin K xs H Q
theorem crl_max {X : Cx} (hc : X.calm = true) : CallR X (.builtin "max") (rMax2 X.K) := (call_max2 hc).or (cr_max hc)
theorem crl_min {X : Cx} (hc : X.calm = true) : CallR X (.builtin "min") (rMin2 X.K) := (call_min2 hc).or (cr_min hc)
theorem cal_max : CaL K (rMax2 K) fMax := by
  intro xs ts M B H Q Q' h w r k
  unfold fMax at h
  split at h
  · obtain ⟨v, u, rfl, r1, r2⟩ := paired_two r
    cases r1
    cases r2
    exact .inl ⟨_, _, rfl, k _ _ M B H h w (.refl _ _) (.int _)⟩
  · obtain ⟨v, rfl, r1⟩ := paired_one r
    split at h
    · rename_i ns e
      obtain ⟨p, rfl, h1⟩ := w.nowIs r1 e
      exact .inr ⟨p, ns, rfl, h1, h.1, fun m m1 m2 => k _ _ M B H (h.2 m m1 m2) w (.refl _ _) (.int _)⟩
    · exact h.elim
  · exact h.elim
theorem cal_min : CaL K (rMin2 K) fMin := by
  intro xs ts M B H Q Q' h w r k
  unfold fMin at h
  split at h
  · obtain ⟨v, u, rfl, r1, r2⟩ := paired_two r
    cases r1
    cases r2
    exact .inl ⟨_, _, rfl, k _ _ M B H h w (.refl _ _) (.int _)⟩
  · obtain ⟨v, rfl, r1⟩ := paired_one r
    split at h
    · rename_i ns e
      obtain ⟨p, rfl, h1⟩ := w.nowIs r1 e
      exact .inr ⟨p, ns, rfl, h1, h.1, fun m m1 m2 => k _ _ M B H (h.2 m m1 m2) w (.refl _ _) (.int _)⟩
    · exact h.elim
  · exact h.elim
def fInt : FA := fun ts M Q => match ts with
  | [.d (.int i)] => Q (.int i) M
  | [.d (.bool b)] => Q (.int (if b then 1 else 0)) M
  | _ => False
theorem cal_int : CaL K (fun xs H Q => (∃ i, xs = [V.int i] ∧ Q (.int i) H) ∨ ∃ k, xs = [V.bl k] ∧ Q (.int (if k then 1 else 0)) H) fInt := by
  intro xs ts M B H Q Q' h w r k
  unfold fInt at h
  split at h
  · obtain ⟨v, rfl, r1⟩ := paired_one r
    cases r1
    exact .inl ⟨_, rfl, k _ _ M B H h w (.refl _ _) (.int _)⟩
  · obtain ⟨v, rfl, r1⟩ := paired_one r
    cases r1
    exact .inr ⟨_, rfl, k _ _ M B H h w (.refl _ _) (.int _)⟩
  · exact h.elim
def fAbs : FA := fun ts M Q => match ts with
  | [.d (.int i)] => Q (.int (if i < 0 then -i else i)) M
  | _ => False
end
end L3
set_option Elab.async false
set_option linter.all false
set_option maxRecDepth 100000
namespace L3
open PySem PySem.Spec L2
def noL : T → Bool
  | .lr _ => false
  | _ => true
def isL (t : T) (M : Mem) : Prop := match t with
  | .lr i => ∃ ds, M.L[i]? = some (some ds)
  | .mr i => ∃ ts, M.D[i]? = some (.lst ts)
  | .d (.list _) => True
  | _ => False
theorem Rt.deck {K : PySem.W.Frag} {B : Bk} {v : V} {t : T} (n : noL t = true) (r : Rt K B v t) : Rt K { B with l := [] } v t := by
  cases t with
  | lr i => cases n
  | d x => exact r
  | mr i => exact r
  | scr ns => exact r
  | wt xs => exact r
  | exo a c d e => exact r
  | q x => exact r
theorem Rt.undeck {K : PySem.W.Frag} {B : Bk} {v : V} {t : T} (r : Rt K { B with l := [] } v t) : Rt K B v t := Rt.mono' (B := { B with l := [] }) (B' := B) (fun _ _ e => e) (List.prefix_refl _) (List.nil_prefix) r
theorem Wd.isL {K : PySem.W.Frag} {B : Bk} {M : Mem} {H : Hp} (w : Wd K B M H) {v : V} {t : T} (r : Rt K B v t) (h : L3.isL t M) : ∃ p xs, v = .ref p ∧ SqL K H p xs := by
  unfold L3.isL at h
  split at h
  · obtain ⟨ds, e⟩ := h
    obtain ⟨a, rfl, ha⟩ := r
    obtain ⟨_, xs, h1, _⟩ := w.lc _ _ _ ha e
    exact ⟨a, xs, rfl, .of h1⟩
  · obtain ⟨ts, e⟩ := h
    obtain ⟨a, rfl, ha⟩ := r
    obtain ⟨_, xs, h1, _⟩ := w.dc _ _ _ ha e
    exact ⟨a, xs, rfl, .of h1⟩
  · cases r with
    | lst e q => exact ⟨_, _, rfl, .of (w.le _ _ e)⟩
  · exact h.elim
def MeL (K : PySem.W.Frag) (r : V → List V → Hp → VK → Prop) (f : T → FA) : Prop := ∀ x xs t ts M B H Q Q', f t ts M Q → Wd K B M H → Rt K B x t → Paired (Rt K B) xs ts →
  (∀ v t' M' B' H', Q t' M' → Wd K B' M' H' → Ext B H B' H' → Rt K B' v t' → Q' v H') → r x xs H Q'
def mMeth (f : T → FA) (o : Me) (r : Ma) : Me := fun τ M Q => o τ M fun x M1 => isL x M1 ∧ r τ M1 fun ts M2 => f x ts M2 Q
def mMeth0 (f : T → FA) (o : Me) : Me := fun τ M Q => o τ M fun x M1 => isL x M1 ∧ f x [] M1 Q
section
variable {X : Cx} {o e : Expr} {es : List Expr} {mo m : Me} {mr : Ma} {name : Str} {id : String} {apos cpos : Pos} {r : V → List V → Hp → VK → Prop} {f : T → FA}
theorem me_lm (pa : PlainAttrs "list") (slot : Slot "list" name id) (hty : typeOf (.builtin id) = pure (.type "method_descriptor")) (hm : MtR X id r) (hl : MeL X.K r f) (ho : ME X o mo) (ha : MA X (e :: es) mr)
    (hbase : attributeBase o name X.env (eval o X.env) = eval o X.env := by rfl)
    (hfew : ((backTo cpos (starEach (e :: es) X.env)).all (fun x => !x.1) && (backToKw cpos (keywordEach [] X.env)).all (fun x => x.1.isSome) && decide ((e :: es).length + ([] : List Keyword).length + (if ([] : List Keyword).isEmpty then 0 else 1) < 30)) = true := by rfl)
    (hline : (apos.endLine == cpos.line) = true := by rfl) (hs : starEach (e :: es) X.env = (false, eval e X.env) :: starEach es X.env := by rfl) (hplain : (backTo cpos (starEach es X.env)).any (·.1) = false := by rfl) :
    ME X (.Call (.Attribute o name apos) (e :: es) [] cpos) (mMeth f mo mr) := by
  refine PE.of (pe_bm pa slot hty hm ho ha hbase hfew hline hs hplain) fun σ H Q' ⟨τ, M, B, Q, h, w, s, k⟩ => ?_
  refine ⟨τ, M, B, _, h, w, s, fun v t M1 B1 H1 h1 w1 e1 r1 => ?_⟩
  obtain ⟨p, xs, rfl, hq⟩ := w1.isL r1 h1.1
  refine ⟨.inl ⟨rfl, xs, hq⟩, τ, M1, B1, _, h1.2, w1, s.mono e1, fun vs ts M2 B2 H2 h2 w2 e2 r2 => ?_⟩
  exact hl _ vs t ts M2 B2 H2 Q Q' h2 w2 (Rt.mono e2 r1) r2 fun v t M3 B3 H3 h3 w3 e3 => k v t M3 B3 H3 h3 w3 (e1.trans (e2.trans e3))
theorem me_lm0 (pa : PlainAttrs "list") (slot : Slot "list" name id) (hty : typeOf (.builtin id) = pure (.type "method_descriptor")) (hm : MtR X id r) (hl : MeL X.K r f) (ho : ME X o mo)
    (hbase : attributeBase o name X.env (eval o X.env) = eval o X.env := by rfl) (hline : (apos.endLine == cpos.line) = true := by rfl) :
    ME X (.Call (.Attribute o name apos) [] [] cpos) (mMeth0 f mo) := by
  refine PE.of (pe_bm0 pa slot hty hm ho hbase hline) fun σ H Q' ⟨τ, M, B, Q, h, w, s, k⟩ => ?_
  refine ⟨τ, M, B, _, h, w, s, fun v t M1 B1 H1 h1 w1 e1 r1 => ?_⟩
  obtain ⟨p, xs, rfl, hq⟩ := w1.isL r1 h1.1
  refine ⟨.inl ⟨rfl, xs, hq⟩, ?_⟩
  exact hl _ [] t [] M1 B1 H1 Q Q' h1.2 w1 r1 .nil fun v t M3 B3 H3 h3 w3 e3 => k v t M3 B3 H3 h3 w3 (e1.trans e3)
end
def fApp (x : T) : FA := fun ts M Q => match x, ts with
  | .lr i, [.d z] => (match M.L[i]? with
    | some (some ds) => ds.length < sizeLine ∧ Q .non { M with L := M.L.set i (some (ds ++ [z])) }
    | _ => False)
  | .mr i, [t] => (match M.D[i]? with
    | some (.lst us) => noL t = true ∧ us.length < sizeLine ∧ Q .non { M with D := M.D.set i (.lst (us ++ [t])) }
    | _ => False)
  | _, _ => False
theorem paired_snoc {F : V → T → Prop} {xs : List V} {ts : List T} (h : Paired F xs ts) {x : V} {t : T} (q : F x t) : Paired F (xs ++ [x]) (ts ++ [t]) := PySem.Paired.snoc h q
theorem mel_app {K : PySem.W.Frag} : MeL K rAppend fApp := by
  intro x xs t ts M B H Q Q' h w rx rs k
  unfold fApp at h
  split at h
  · rename_i i z
    split at h
    · rename_i ds hL
      obtain ⟨v, rfl, r1⟩ := paired_one rs
      obtain ⟨a, rfl, ha⟩ := rx
      obtain ⟨_, vs, e, q⟩ := w.lc _ _ _ ha hL
      refine ⟨a, vs, v, rfl, rfl, e, by rw [RpA.length q]; exact h.1, ?_⟩
      obtain ⟨w2, e2⟩ := w.setL ha hL (RpA.append q (.cons r1 .nil))
      exact k _ _ _ _ _ h.2 w2 e2 .non
    · exact h.elim
  · rename_i i z
    split at h
    · rename_i us hD
      obtain ⟨v, rfl, r1⟩ := paired_one rs
      obtain ⟨a, rfl, ha⟩ := rx
      obtain ⟨_, vs, e, q⟩ := w.dc _ _ _ ha hD
      refine ⟨a, vs, v, rfl, rfl, e, by rw [paired_len q]; exact h.2.1, ?_⟩
      obtain ⟨w2, e2⟩ := w.setD ha hD (o := .lst (vs ++ [v])) (c := .lst (us ++ [z])) fun H' eH => ⟨_, eH, paired_snoc q (r1.deck h.1)⟩
      exact k _ _ _ _ _ h.2.2 w2 e2 .non
    · exact h.elim
  · exact h.elim
theorem paired_dropLast {F : V → T → Prop} : ∀ {xs : List V} {ts : List T}, Paired F xs ts → Paired F xs.dropLast ts.dropLast
  | _, _, .nil => .nil
  | _, _, .cons (l₁ := xs) p q => by
    cases q with
    | nil => exact .nil
    | cons p2 q2 => exact .cons p (paired_dropLast (.cons p2 q2))
def fPop (x : T) : FA := fun ts M Q => match x, ts with
  | .lr i, [] => (match M.L[i]? with
    | some (some ds) => ∃ z, ds[ds.length - 1]? = some z ∧ Q (.d z) { M with L := M.L.set i (some ds.dropLast) }
    | _ => False)
  | .mr i, [] => (match M.D[i]? with
    | some (.lst us) => ∃ t, us[us.length - 1]? = some t ∧ Q t { M with D := M.D.set i (.lst us.dropLast) }
    | _ => False)
  | _, _ => False
theorem mel_pop {K : PySem.W.Frag} : MeL K rPop fPop := by
  intro x xs t ts M B H Q Q' h w rx rs k
  unfold fPop at h
  split at h
  · rename_i i
    cases rs
    split at h
    · rename_i ds hL
      obtain ⟨a, rfl, ha⟩ := rx
      obtain ⟨_, vs, e, q⟩ := w.lc _ _ _ ha hL
      obtain ⟨z, hz, hQ⟩ := h
      obtain ⟨u, h1, h2⟩ := RpA.get q hz
      refine ⟨a, vs, u, rfl, rfl, e, by rw [RpA.length q]; exact h1, ?_⟩
      obtain ⟨w2, e2⟩ := w.setL ha hL (RpA.dropLast q)
      exact k _ _ _ _ _ hQ w2 e2 h2
    · exact h.elim
  · rename_i i
    cases rs
    split at h
    · rename_i us hD
      obtain ⟨a, rfl, ha⟩ := rx
      obtain ⟨_, vs, e, q⟩ := w.dc _ _ _ ha hD
      obtain ⟨z, hz, hQ⟩ := h
      obtain ⟨u, h1, h2⟩ := paired_get q hz
      refine ⟨a, vs, u, rfl, rfl, e, by rw [paired_len q]; exact h1, ?_⟩
      obtain ⟨w2, e2⟩ := w.setD ha hD (o := .lst vs.dropLast) (c := .lst us.dropLast) fun H' eH => ⟨_, eH, paired_dropLast q⟩
      exact k _ _ _ _ _ hQ w2 e2 h2.undeck
    · exact h.elim
  · exact h.elim
def lookT (kvs : List (Key × T)) (k : Key) : Option T := (kvs.find? fun kv => decide (kv.1 = k)).map (·.2)
def putT (kvs : List (Key × T)) (k : Key) (t : T) : List (Key × T) :=
  if (kvs.any fun kv => decide (kv.1 = k)) = true then kvs.map (fun kv => if kv.1 = k then (kv.1, t) else kv) else kvs ++ [(k, t)]
abbrev KT (K : PySem.W.Frag) (B : Bk) : List (Key × V) → List (Key × T) → Prop := Paired (fun (p : Key × V) (q : Key × T) => p.1 = q.1 ∧ Rt K { B with l := [] } p.2 q.2)
theorem KT.look {K : PySem.W.Frag} {B : Bk} {vs : List (Key × V)} {ts : List (Key × T)} {k : Key} (h : KT K B vs ts) : ∀ {t : T}, lookT ts k = some t → ∃ v, valV vs k = some v ∧ Rt K { B with l := [] } v t := by
  induction h with
  | nil => intro t e; cases e
  | @cons p q ps qs f _ ih =>
    intro t e
    by_cases z : q.1 = k
    · have e' : lookT (q :: qs) k = some q.2 := by simp [lookT, List.find?_cons, z]
      rw [e'] at e
      cases e
      exact ⟨p.2, valV_pos (f.1.trans z), f.2⟩
    · have e' : lookT (q :: qs) k = lookT qs k := by simp [lookT, List.find?_cons, z]
      rw [e'] at e
      obtain ⟨v, h1, h2⟩ := ih e
      exact ⟨v, (valV_neg fun y => z (f.1.symm.trans y)).trans h1, h2⟩
theorem KT.any {K : PySem.W.Frag} {B : Bk} {vs : List (Key × V)} {ts : List (Key × T)} {k : Key} (h : KT K B vs ts) : (vs.any fun kv => decide (kv.1 = k)) = (ts.any fun kv => decide (kv.1 = k)) := by
  induction h with
  | nil => rfl
  | cons f _ ih => rw [List.any_cons, List.any_cons, ih, f.1]
theorem KT.put {K : PySem.W.Frag} {B : Bk} {vs : List (Key × V)} {ts : List (Key × T)} {k : Key} {v : V} {t : T} (h : KT K B vs ts) (r : Rt K { B with l := [] } v t) : KT K B (putK vs k v) (putT ts k t) := by
  unfold putK putT
  rw [h.any]
  split
  · have m : ∀ {vs : List (Key × V)} {ts : List (Key × T)}, KT K B vs ts → KT K B (vs.map fun kv => if kv.1 = k then (kv.1, v) else kv) (ts.map fun kv => if kv.1 = k then (kv.1, t) else kv) := by
      intro vs ts h
      induction h with
      | nil => exact .nil
      | @cons p q ps qs f _ ih =>
        refine .cons ?_ ih
        by_cases z : q.1 = k
        · have e1 : (fun kv : Key × V => if kv.1 = k then (kv.1, v) else kv) p = (p.1, v) := if_pos (f.1.trans z)
          have e2 : (fun kv : Key × T => if kv.1 = k then (kv.1, t) else kv) q = (q.1, t) := if_pos z
          rw [e1, e2]
          exact ⟨f.1, r⟩
        · have e1 : (fun kv : Key × V => if kv.1 = k then (kv.1, v) else kv) p = p := if_neg fun y => z (f.1.symm.trans y)
          have e2 : (fun kv : Key × T => if kv.1 = k then (kv.1, t) else kv) q = q := if_neg z
          rw [e1, e2]
          exact f
    exact m h
  · exact PySem.Paired.snoc h ⟨rfl, r⟩
def keyOf : T → Option Key
  | .d (.str s) => some (.inr s)
  | .d (.int i) => some (.inl i)
  | _ => none
theorem keyOf_kV {K : PySem.W.Frag} {B : Bk} {v : V} {t : T} {k : Key} (r : Rt K B v t) (e : keyOf t = some k) : v = kV k := by
  unfold keyOf at e
  split at e
  · cases e
    cases r
    rfl
  · cases e
    cases r
    rfl
  · cases e
def oDGet : F2 := fun x y M Q => match x, keyOf y with
  | .mr i, some k => (match M.D[i]? with
    | some (.dct kvs) => ∃ t, lookT kvs k = some t ∧ Q t M
    | _ => False)
  | _, _ => False
theorem opl_dget {K : PySem.W.Frag} : OpL K (fun x y H Q => ∃ a v, x = .ref a ∧ DGet H a y (some v) ∧ Q v H) oDGet := by
  intro x y t u M B H Q Q' h w rx ry k
  unfold oDGet at h
  split at h
  · rename_i kk hk
    split at h
    · rename_i kvs hD
      obtain ⟨a, rfl, ha⟩ := rx
      obtain ⟨_, vs, e, q⟩ := w.dc _ _ _ ha hD
      obtain ⟨t', h1, hQ⟩ := h
      obtain ⟨v, h2, h3⟩ := KT.look q h1
      refine ⟨a, v, rfl, ?_, k _ _ M B H hQ w (.refl _ _) h3.undeck⟩
      rw [keyOf_kV ry hk, ← h2]
      exact .k e
    · exact h.elim
  · exact h.elim
section
variable {X : Cx} {o i e value : Expr} {es : List Expr} {mo mi mv m : Me} {pos pos' : Pos}
theorem me_dget (hu : X.A.units + 1 < cLine) (ho : ME X o mo) (hi : ME X i mi) (hs : NoSl i) : ME X (.Subscript o i pos) (mOp oDGet mo mi) := PE.of (pe_dget hu ho hi hs) fun _ _ _ h => two opl_dget h
def mDPut (d k v : Me) : Ms := fun E τ M => v τ M fun t M1 => d τ M1 fun x M2 => k τ M2 fun y M3 => match x, keyOf y with
  | .mr i, some kk => (match M3.D[i]? with
    | some (.dct kvs) => noL t = true ∧ kvs.length < sizeLine ∧ E.nx τ { M3 with D := M3.D.set i (.dct (putT kvs kk t)) }
    | _ => False)
  | _, _ => False
theorem ms_dput (hu : X.A.units + 1 < cLine) (ho : ME X o mo) (hi : ME X i mi) (hv : ME X value mv) (hs : swapsWith value (some (.Subscript o i pos')) pos.line X.env = pure false) :
    MS X (.Assign [.Subscript o i pos'] value pos) (mDPut mo mi mv) := PS.of (ps_dput hu ho hi hv hs) fun D σ H ⟨E, τ, M, B, h, w, s, g⟩ => by
  refine ⟨τ, M, B, _, h, w, s, fun v t M1 B1 H1 h1 w1 e1 r1 => ⟨τ, M1, B1, _, h1, w1, s.mono e1, fun x tx M2 B2 H2 h2 w2 e2 r2 => ⟨τ, M2, B2, _, h2, w2, (s.mono e1).mono e2, fun y ty M3 B3 H3 h3 w3 e3 r3 => ?_⟩⟩⟩
  split at h3
  · rename_i kk hk
    split at h3
    · rename_i kvs hD
      obtain ⟨a, rfl, ha⟩ := Rt.mono e3 r2
      obtain ⟨_, vs, e, q⟩ := w3.dc _ _ _ ha hD
      have rv := Rt.deck h3.1 (Rt.mono e3 (Rt.mono e2 r1))
      have hz : vs.length < sizeLine := by
        rw [paired_len q]
        exact h3.2.1
      refine ⟨a, _, rfl, by rw [keyOf_kV r3 hk]; exact DPut.k e hz, ?_⟩
      obtain ⟨w4, e4⟩ := w3.setD ha hD (o := .dK (putK vs kk v)) (c := .dct (putT kvs kk t)) fun H' eH => ⟨_, eH, KT.put q rv⟩
      have e14 := e1.trans (e2.trans (e3.trans e4))
      exact g.nx _ _ _ _ _ h3.2.2 w4 e14 (s.mono e14)
    · exact h3.elim
  · exact h3.elim
/-- o[i] = v, a list -/
def mLPut (d k v : Me) : Ms := fun E τ M => v τ M fun t M1 => d τ M1 fun x M2 => k τ M2 fun y M3 => match x, y, t with
  | .lr i, .d (.int j), .d z => (match M3.L[i]? with
    | some (some ds) => ∃ n, ixN ds.length j = some n ∧ E.nx τ { M3 with L := M3.L.set i (some (ds.set n z)) }
    | _ => False)
  | _, _, _ => False
def mLPutD (d k v : Me) : Ms := fun E τ M => v τ M fun t M1 => d τ M1 fun x M2 => k τ M2 fun y M3 => match x, y with
  | .mr i, .d (.int j) => (match M3.D[i]? with
    | some (.lst ds) => noL t = true ∧ ∃ n, ixN ds.length j = some n ∧ E.nx τ { M3 with D := M3.D.set i (.lst (ds.set n t)) }
    | _ => False)
  | _, _ => False
theorem ms_lput (ho : ME X o mo) (hi : ME X i mi) (hv : ME X value mv) (hg : ∀ {to ti : TE}, PE X o to → PE X i ti → PG X (.Subscript o i pos') (gSub to ti rSetL)) (hs : swapsWithSole [.Subscript o i pos'] value pos.line X.env = pure false := by rfl)
    (hw : swappedStores [.Subscript o i pos'] value X.env = pure none := by rfl) (h1 : (assignEach [.Subscript o i pos'] X.env).map (·.2) = [assign (.Subscript o i pos') X.env] := by rfl) :
    MS X (.Assign [.Subscript o i pos'] value pos) (mLPut mo mi mv) := PS.of (ps_asg hv (hg ho hi) hs hw h1) fun D σ H ⟨E, τ, M, B, h, w, s, g⟩ => by
  refine ⟨τ, M, B, _, h, w, s, fun v t M1 B1 H1 h1 w1 e1 r1 => ⟨τ, M1, B1, _, h1, w1, s.mono e1, fun x tx M2 B2 H2 h2 w2 e2 r2 => ⟨τ, M2, B2, _, h2, w2, (s.mono e1).mono e2, fun y ty M3 B3 H3 h3 w3 e3 r3 => ?_⟩⟩⟩
  split at h3
  · split at h3
    · rename_i ds hL
      obtain ⟨a, rfl, ha⟩ := Rt.mono e3 r2
      cases r3
      obtain ⟨_, vs, e, q⟩ := w3.lc _ _ _ ha hL
      obtain ⟨n, hn, hQ⟩ := h3
      refine ⟨a, vs, _, n, rfl, rfl, e, by rw [RpA.length q]; exact hn, ?_⟩
      obtain ⟨w4, e4⟩ := w3.setL ha hL (RpA.set (Rt.mono e3 (Rt.mono e2 r1)) n q)
      have e14 := e1.trans (e2.trans (e3.trans e4))
      exact g.nx _ _ _ _ _ hQ w4 e14 (s.mono e14)
    · exact h3.elim
  · exact h3.elim
end
def goD : List (Str × Me) → En → Mem → (List (Key × T) → Mem → Prop) → Prop
  | [], _, M, Q => Q [] M
  | (s, m) :: r, τ, M, Q => m τ M fun t M1 => noL t = true ∧ goD r τ M1 fun kts M2 => Q ((.inr s, t) :: kts) M2
def mDisp (ps : List (Str × Me)) : Me := fun τ M Q => goD ps τ M fun kts M1 => ((kts.map (·.1)).Nodup ∧ kts.length ≤ 15) ∧ Q (.mr M1.D.length) { M1 with D := M1.D ++ [.dct kts] }
abbrev trsOf (K : PySem.W.Frag) (ps : List (Str × Me)) : List (TE × TE) := ps.map fun p => (tC (.str p.1), rE K p.2)
theorem pairs_of {K : PySem.W.Frag} : ∀ (ps : List (Str × Me)) {σ : L2.St} {τ : En} {M : Mem} {B : Bk} {H : Hp} {Q : List (Key × T) → Mem → Prop} {Q' : List (V × V) → Hp → Prop}, goD ps τ M Q → Wd K B M H → Sl K B σ τ →
    (∀ kvs kts M' B' H', Q kts M' → Wd K B' M' H' → Ext B H B' H' → KT K B' kvs kts → Q' (kvs.map fun kv => (kV kv.1, kv.2)) H') → tPairs (trsOf K ps) σ H Q'
  | [], σ, τ, M, B, H, Q, Q', h, w, s, k => k [] [] M B H h w (.refl _ _) .nil
  | (x, m) :: r, σ, τ, M, B, H, Q, Q', h, w, s, k => by
    refine ⟨τ, M, B, _, h, w, s, fun v t M1 B1 H1 h1 w1 e1 r1 => ?_⟩
    refine pairs_of r h1.2 w1 (s.mono e1) fun kvs kts M2 B2 H2 h2 w2 e2 r2 => ?_
    exact k ((.inr x, v) :: kvs) ((.inr x, t) :: kts) M2 B2 H2 h2 w2 (e1.trans e2) (.cons ⟨rfl, Rt.deck h1.1 (Rt.mono e2 r1)⟩ r2)
theorem KT.keys {K : PySem.W.Frag} {B : Bk} {vs : List (Key × V)} {ts : List (Key × T)} (h : KT K B vs ts) : vs.map (·.1) = ts.map (·.1) := by
  induction h with
  | nil => rfl
  | cons f _ ih => rw [List.map_cons, List.map_cons, ih, f.1]
theorem merge_nil : ∀ (more acc : List (Key × V)), ((acc ++ more).map (·.1)).Nodup → mergeK acc more = acc ++ more
  | [], acc, _ => (List.append_nil _).symm
  | p :: r, acc, h => by
    show mergeK (putK acc p.1 p.2) r = _
    have n : (acc.any fun kv => decide (kv.1 = p.1)) = false := by
      rw [List.map_append, List.map_cons, List.nodup_append] at h
      rw [List.any_eq_false]
      intro q hq z
      exact h.2.2 q.1 (List.mem_map_of_mem hq) p.1 (by simp) (of_decide_eq_true z)
    have e : putK acc p.1 p.2 = acc ++ [p] := by
      unfold putK
      rw [n]
      rfl
    rw [e, merge_nil r (acc ++ [p]) (by rw [List.append_assoc]; exact h), List.append_assoc]
    rfl
theorem Ext.adoptR {B B2 : Bk} {H H2 : Hp} {p : Addr} {o : HO} (hp : H p = none) (hn : p ∉ B.r) (hm : p ∉ B.l) (x : Ext B H B2 H2) : Ext B H { B2 with r := B2.r ++ [p] } (upd H2 p o) := by
  refine ⟨x.g, x.r.trans (List.prefix_append _ _), x.l, fun a u e h1 h2 => ?_, fun a e => ?_, fun a e => ?_, x.ln, x.gf⟩
  · rw [upd_ne (ne_of_none e hp)]
    exact x.fr a u e h1 h2
  · by_cases z : a = p
    · rw [z]
      exact hp
    · rw [upd_ne z] at e
      exact x.tr a e
  · rcases List.mem_append.mp e with z | z
    · exact x.rn a z
    · rw [List.mem_singleton] at z
      rw [z]
      exact .inr hp
/-- an object that stood beside the world comes into the deck -/
theorem Wd.adoptR {K : PySem.W.Frag} {B : Bk} {M : Mem} {H : Hp} (w : Wd K B M H) {p : Addr} (hG : B.G p = none) (hr : p ∉ B.r) (hl : p ∉ B.l) {o : HO} {c : Cell} (h : ∀ H', H' p = some o → CellAt K { B with r := B.r ++ [p] } H' p c) :
    Wd K { B with r := B.r ++ [p] } { M with D := M.D ++ [c] } (upd H p o) := by
  have ne : ∀ {a : Addr}, a ∈ B.r ++ B.l → a ≠ p := fun {a} ha z => by
    rw [z] at ha
    exact (List.mem_append.mp ha).elim hr hl
  refine ⟨fun a u e => ?_, by simp [w.rlen], w.llen, ?_, fun i a c' h1 h2 => ?_, fun i a es h1 h2 => ?_, fun a ha => ?_⟩
  · rw [upd_ne (ne_of_none e hG)]
    exact w.le a u e
  · show ((B.r ++ [p]) ++ B.l).Nodup
    obtain ⟨n1, n2, n3⟩ := List.nodup_append.mp w.nd
    rw [List.nodup_append]
    refine ⟨nodup_snoc n1 hr, n2, fun x hx y hy z => ?_⟩
    rcases List.mem_append.mp hx with q | q
    · exact n3 x q y hy z
    · rw [List.mem_singleton] at q
      subst z
      subst q
      exact hl hy
  · have h1' : (B.r ++ [p])[i]? = some a := h1
    have h2' : (M.D ++ [c])[i]? = some c' := h2
    rcases Nat.lt_or_ge i B.r.length with z | z
    · rw [List.getElem?_append_left z] at h1'
      rw [List.getElem?_append_left (by rw [← w.rlen]; exact z)] at h2'
      obtain ⟨q1, q2⟩ := w.dc i a c' h1' h2'
      exact ⟨q1, CellAt.mono (B := B) (B' := { B with r := B.r ++ [p] }) (fun _ _ e => e) (List.prefix_append _ _) (upd_ne (ne (List.mem_append_left _ (mem_of_get h1')))) q2⟩
    · rw [List.getElem?_append_right z] at h1'
      rw [List.getElem?_append_right (by rw [← w.rlen]; exact z), ← w.rlen] at h2'
      cases j : i - B.r.length with
      | succ k => rw [j] at h1'; simp at h1'
      | zero =>
        rw [j] at h1' h2'
        simp only [List.getElem?_cons_zero, Option.some.injEq] at h1' h2'
        subst h1'
        subst h2'
        exact ⟨hG, h _ upd_same⟩
  · obtain ⟨q1, ys, q2, q3⟩ := w.lc i a es h1 h2
    exact ⟨q1, ys, (upd_ne (ne (List.mem_append_right _ (mem_of_get h1)))).trans q2, q3⟩
  · have ha' : a ∈ (B.r ++ [p]) ++ B.l := ha
    by_cases z : a = p
    · rw [z, upd_same]
      exact fun q => nomatch q
    · rw [upd_ne z]
      refine w.tr a ?_
      rcases List.mem_append.mp ha' with y | y
      · rcases List.mem_append.mp y with y | y
        · exact List.mem_append_left _ y
        · rw [List.mem_singleton] at y
          exact absurd y z
      · exact List.mem_append_right _ y
/-- an object that stood beside the world never changes again -/
theorem Wd.adoptG {K : PySem.W.Frag} {B : Bk} {M : Mem} {H : Hp} (w : Wd K B M H) {p : Addr} (hG : B.G p = none) (hr : p ∉ B.r) (hl : p ∉ B.l) {o : HO} (hH : H p = some o) : Wd K { B with G := upd B.G p o } M H := by
  refine ⟨fun a u e => ?_, w.rlen, w.llen, w.nd, fun i a c h1 h2 => ?_, fun i a ds h1 h2 => ?_, w.tr⟩
  · have e' : upd B.G p o a = some u := e
    by_cases z : a = p
    · rw [z, upd_same] at e'
      rw [z, hH]
      exact e'
    · rw [upd_ne z] at e'
      exact w.le a u e'
  · obtain ⟨q1, q2⟩ := w.dc i a c h1 h2
    have na : a ≠ p := fun z => hr (by rw [← z]; exact mem_of_get h1)
    exact ⟨(upd_ne na).trans q1, CellAt.mono (B := B) (B' := { B with G := upd B.G p o }) (upd_keep hG) (List.prefix_refl _) rfl q2⟩
  · obtain ⟨q1, xs, q2, q3⟩ := w.lc i a ds h1 h2
    have na : a ≠ p := fun z => hl (by rw [← z]; exact mem_of_get h1)
    exact ⟨(upd_ne na).trans q1, xs, q2, RpA.mono (upd_keep hG) q3⟩
/-- an object beside the world -/
theorem Wd.side {K : PySem.W.Frag} {B : Bk} {M : Mem} {H : Hp} (w : Wd K B M H) {p : Addr} (hp : H p = none) (o : HO) : Wd K B M (upd H p o) := by
  obtain ⟨hG, hr, hl⟩ := w.fresh hp
  refine ⟨fun a u e => ?_, w.rlen, w.llen, w.nd, fun i a c h1 h2 => ?_, fun i a ds h1 h2 => ?_, fun a ha => ?_⟩
  · rw [upd_ne (ne_of_none e hG)]
    exact w.le a u e
  · obtain ⟨q1, q2⟩ := w.dc i a c h1 h2
    exact ⟨q1, CellAt.mono (fun _ _ e => e) (List.prefix_refl _) (upd_ne fun z => hr (by rw [← z]; exact mem_of_get h1)) q2⟩
  · obtain ⟨q1, xs, q2, q3⟩ := w.lc i a ds h1 h2
    exact ⟨q1, xs, (upd_ne fun z => hl (by rw [← z]; exact mem_of_get h1)).trans q2, q3⟩
  · rw [upd_ne fun z => ?_]
    · exact w.tr a ha
    · subst z
      exact w.tr a ha hp
theorem Ext.side {B : Bk} {H : Hp} {p : Addr} (hp : H p = none) (o : HO) : Ext B H B (upd H p o) := by
  refine ⟨fun _ _ e => e, List.prefix_refl _, List.prefix_refl _, fun a u e _ _ => ?_, fun a e => ?_, fun _ e => .inl e, fun _ e => .inl e, fun _ _ e => .inl e⟩
  · rw [upd_ne (ne_of_none e hp)]
    exact e
  · by_cases z : a = p
    · rw [z]
      exact hp
    · rw [upd_ne z] at e
      exact e
theorem me_disp {X : Cx} {pos : Pos} {keys : List (Option Expr)} {values : List Expr} {ps : List (Str × Me)} (h : PPs X pos keys values (trsOf X.K ps)) (hall : keys.all (·.isSome) = true) (hl : keys.length = values.length) (h0 : keys ≠ [])
    (h15 : keys.length ≤ 15) : ME X (.Dict keys values pos) (mDisp ps) := PE.of (pe_disp h hall hl h0 h15) fun σ H Q' ⟨τ, M, B, Q, h, w, s, k⟩ => by
  intro p hp
  obtain ⟨hG, hr, hl⟩ := w.fresh hp
  have x0 : Ext B H B (upd H p (.dK [])) := .side hp _
  refine pairs_of ps h (w.side hp (.dK [])) s fun kvs kts M2 B2 H2 h2 w2 e2 r2 => ?_
  have hH : H2 p = some (.dK []) := e2.fr p _ upd_same hr hl
  obtain ⟨⟨hnd, h15⟩, hQ⟩ := h2
  refine ⟨hH, kvs, rfl, by rw [paired_len r2]; exact h15, ?_⟩
  rw [merge_nil kvs [] (by rw [List.nil_append, KT.keys r2]; exact hnd), List.nil_append]
  have x2 : Ext B H { B2 with r := B2.r ++ [p] } (upd H2 p (.dK kvs)) := .adoptR hp hr hl (x0.trans e2)
  have nr : p ∉ B2.r := fun z => (e2.rn p z).elim hr fun q => by rw [upd_same] at q; cases q
  have nl : p ∉ B2.l := fun z => (e2.ln p z).elim hl fun q => by rw [upd_same] at q; cases q
  have nG : B2.G p = none := by
    cases q : B2.G p with
    | none => rfl
    | some o =>
      rcases e2.gf p o q with z | z | z
      · rw [hG] at z; cases z
      · rw [upd_same] at z; cases z
      · exact absurd z hl
  have w3 := w2.adoptR nG nr nl (o := .dK kvs) (c := .dct kts) fun H' eH => ⟨kvs, eH, Paired.imp (fun _ _ f => ⟨f.1, Rt.mono' (B := { B2 with l := [] }) (B' := { B2 with r := B2.r ++ [p], l := [] }) (fun _ _ e => e) (List.prefix_append _ _) (List.prefix_refl _) f.2⟩) r2⟩
  exact k _ _ _ _ _ hQ w3 x2 ⟨p, rfl, by rw [← w2.rlen]; exact get_snoc⟩
end L3
set_option Elab.async false
set_option linter.all false
set_option maxRecDepth 100000
namespace L3
open PySem PySem.Spec L2
def mNext : Ms := fun E τ M => E.nx τ M
def mSeq (s r : Ms) : Ms := fun E τ M => s { E with nx := r E } τ M
def mDrop (m : Me) : Ms := fun E τ M => m τ M fun _ M1 => E.nx τ M1
def mRet (m : Me) : Ms := fun E τ M => m τ M E.rt
def mIf (c : Mb) (s r : Ms) : Ms := fun E τ M => c τ M fun b M1 => if b = true then s E τ M1 else r E τ M1
def mSet (i : Nat) (m : Me) : Ms := fun E τ M => m τ M fun t M1 => E.nx (τ.set i (some t)) M1
def mAsg (m : Me) (g : Mg) : Ms := fun E τ M => m τ M fun t M1 => g t τ M1 E.nx
def mPar (i j : Nat) (r : Ma) : Ms := fun E τ M => r τ M fun ts M1 => match ts with
  | [t, u] => E.nx ((τ.set i (some t)).set j (some u)) M1
  | _ => False
section
variable {X : Cx} {e c tg : Expr} {m : Me} {mc : Mb} {mr : Ma} {st : Stmt} {sts a b : List Stmt} {s r : Ms} {pos : Pos} {g : Mg}
theorem mss_nil : MSs X [] mNext := PSs.of pss_nil fun D σ H ⟨E, τ, M, B, h, w, sl, g⟩ => g.nx τ M B σ H h w (.refl _ _) sl
theorem mss_cons (h1 : MS X st s) (h2 : MSs X sts r) : MSs X (st :: sts) (mSeq s r) := PSs.of (pss_cons h1 h2) fun D σ H ⟨E, τ, M, B, h, w, sl, g⟩ =>
  ⟨{ E with nx := r E }, τ, M, B, h, w, sl, fun τ' M' B' σ' H' q w' e' s' => ⟨E, τ', M', B', q, w', s', g.ext e'⟩, g.rt, g.bk, g.ct⟩
theorem mss_one (h1 : MS X st s) : MSs X [st] s := pss_one h1
theorem ms_expr (he : ME X e m) (hs : swapsWith e none pos.line X.env = pure false := by rfl) : MS X (.Expr e pos) (mDrop m) := PS.of (ps_expr he hs) fun D σ H ⟨E, τ, M, B, h, w, sl, g⟩ =>
  ⟨τ, M, B, _, h, w, sl, fun v t M1 B1 H1 h1 w1 e1 _ => g.nx τ M1 B1 σ H1 h1 w1 e1 (sl.mono e1)⟩
theorem ms_ret (he : ME X e m) : MS X (.Return (some e) pos) (mRet m) := PS.of (ps_ret he) fun D σ H ⟨E, τ, M, B, h, w, sl, g⟩ =>
  ⟨τ, M, B, _, h, w, sl, g.rt⟩
theorem ms_if (hc : MB X c mc) (ha : MSs X a s) (hb : MSs X b r) : MS X (.If c a b pos) (mIf mc s r) := PS.of (ps_if hc ha hb) fun D σ H ⟨E, τ, M, B, h, w, sl, g⟩ => by
  refine ⟨τ, M, B, _, h, w, sl, fun k M1 B1 H1 h1 w1 e1 => ?_⟩
  cases k with
  | true => exact ⟨E, τ, M1, B1, h1, w1, sl.mono e1, g.ext e1⟩
  | false => exact ⟨E, τ, M1, B1, h1, w1, sl.mono e1, g.ext e1⟩
theorem ms_set {i : Nat} {x : Str} {pos' : Pos} (hN : X.N.Nodup) (hi : X.N[i]? = some x) (hx : Loc X.env.scope x) (he : ME X e m) (hs : swapsWith e (some (.Name x pos')) pos.line X.env = pure false := by rfl)
    (hf : X.fn x = true ∨ X.env.scope.names.lookup x = some .local := by first | exact .inl rfl | exact .inr rfl | assumption) : MS X (.Assign [.Name x pos'] e pos) (mSet i m) := PS.of (L2.ps_set hN hi hx he hs hf) fun D σ H ⟨E, τ, M, B, h, w, sl, g⟩ =>
  ⟨τ, M, B, _, h, w, sl, fun v t M1 B1 H1 h1 w1 e1 r1 => g.nx _ M1 B1 _ H1 h1 w1 e1 ((sl.mono e1).set i r1)⟩
theorem ms_asg {os : List Nat} (he : ME X e m) (hg : MG X tg os g) (hs : swapsWithSole [tg] e pos.line X.env = pure false := by rfl) (hw : swappedStores [tg] e X.env = pure none := by rfl)
    (h1 : (assignEach [tg] X.env).map (·.2) = [assign tg X.env] := by rfl) : MS X (.Assign [tg] e pos) (mAsg m g) := PS.of (ps_asg he hg hs hw h1) fun D σ H ⟨E, τ, M, B, h, w, sl, g⟩ =>
  ⟨τ, M, B, _, h, w, sl, fun v t M1 B1 H1 h1 w1 e1 r1 => ⟨t, τ, M1, B1, _, h1, w1, sl.mono e1, r1, fun τ2 M2 B2 σ2 H2 h2 w2 e2 s2 _ => g.nx _ M2 B2 _ H2 h2 w2 (e1.trans e2) s2⟩⟩
theorem ms_par {i j : Nat} {x y : Str} {e1 e2 : Expr} {px py pt : Pos} {kt k2 : Nat} {pt2 : Pos} (hc : X.calm = true) (hN : X.N.Nodup) (hi : X.N[i]? = some x) (hj : X.N[j]? = some y) (hij : i ≠ j)
    (hx : X.env.scope.names.lookup x = some .local) (hy : X.env.scope.names.lookup y = some .local) (ha : MA X [e1, e2] mr)
    (hw : swappedStores [.Tuple [.Name x px, .Name y py] kt pt] (.Tuple [e1, e2] k2 pt2) X.env = pure (some [x, y]))
    (hs : swapsWithSole [.Tuple [.Name x px, .Name y py] kt pt] (.Tuple [e1, e2] k2 pt2) pos.line X.env = pure false := by rfl) :
    MS X (.Assign [.Tuple [.Name x px, .Name y py] kt pt] (.Tuple [e1, e2] k2 pt2) pos) (mPar i j mr) := PS.of (ps_par hc hN hi hj hij hx hy ha hw hs) fun D σ H ⟨E, τ, M, B, h, w, sl, g⟩ => by
  refine ⟨τ, M, B, _, h, w, sl, fun v t M1 B1 H1 h1 w1 e1 r1 => ?_⟩
  split at h1
  · obtain ⟨v, u, rfl, r2, r3⟩ := paired_two r1
    exact ⟨v, u, rfl, g.nx _ M1 B1 _ H1 h1 w1 e1 (((sl.mono e1).set i r2).set j r3)⟩
  · exact h1.elim
def gN (i : Nat) : Mg := fun t τ M Q => Q (τ.set i (some t)) M
abbrev Mgs := List PyData → En → Mem → (En → Mem → Prop) → Prop
def gsNil : Mgs := fun xs τ M Q => xs = [] ∧ Q τ M
def gsCons (g : Mg) (r : Mgs) : Mgs := fun xs τ M Q => match xs with
  | x :: ys => g (.d x) τ M fun τ1 M1 => r ys τ1 M1 Q
  | [] => False
def gTu (n : Nat) (r : Mgs) : Mg := fun t τ M Q => match t with
  | .d (.tuple xs) => xs.length = n ∧ r xs τ M Q
  | .wt xs => xs.length = n ∧ r xs τ M Q
  | _ => False
def rGs (K : PySem.W.Frag) (os : List Nat) (m : Mgs) : TGs := fun vs σ H Q' => ∃ ds τ M B Q, m ds τ M Q ∧ Wd K B M H ∧ Sl K B σ τ ∧ RpA K B.G vs ds ∧ ∀ τ' M' B' σ' H', Q τ' M' → Wd K B' M' H' → Ext B H B' H' → Sl K B' σ' τ' → Ag os σ σ' → Q' σ' H'
theorem PGs.of {es : List Expr} {t t' : TGs} (h : PGs X es t) (w : ∀ v σ H Q, t' v σ H Q → t v σ H Q) : PGs X es t' := ⟨fun _ _ _ _ _ _ _ iv rv q => h.run _ _ _ _ _ _ _ iv rv (w _ _ _ _ q)⟩
abbrev MGs (X : Cx) (es : List Expr) (os : List Nat) (m : Mgs) : Prop := PGs X es (rGs X.K os m)
variable {gr : Mgs} {es : List Expr}
theorem mg_name {i : Nat} {x : Str} (hN : X.N.Nodup) (hi : X.N[i]? = some x) (hx : Loc X.env.scope x) (hf : X.fn x = true ∨ X.env.scope.names.lookup x = some .local := by first | exact .inl rfl | exact .inr rfl | assumption) : MG X (.Name x pos) [i] (gN i) :=
  PG.of (pg_name hN hi hx hf) fun v σ H Q' ⟨t, τ, M, B, Q, h, w, s, r, k⟩ => k _ M B _ H h w (.refl _ _) (s.set i r) ⟨List.length_set, fun j n => List.getElem?_set_ne fun z => n (by simp [z])⟩
theorem mgs_nil : MGs X [] [] gsNil := PGs.of pgs_nil fun v σ H Q' ⟨ds, τ, M, B, Q, h, w, s, r, k⟩ => by
  obtain ⟨rfl, q⟩ := h
  cases r
  exact ⟨rfl, k _ M B _ H q w (.refl _ _) s ⟨rfl, fun _ _ => rfl⟩⟩
theorem mgs_cons {o1 o2 : List Nat} (h1 : MG X e o1 g) (h2 : MGs X es o2 gr) (hs : (assignEach (e :: es) X.env).map (·.2) = assign e X.env :: (assignEach es X.env).map (·.2) := by rfl) : MGs X (e :: es) (o1 ++ o2) (gsCons g gr) :=
  PGs.of (pgs_cons h1 h2 hs) fun v σ H Q' ⟨ds, τ, M, B, Q, h, w, s, r, k⟩ => by
  unfold gsCons at h
  split at h
  · cases r with
    | cons p q =>
      refine ⟨_, _, rfl, _, τ, M, B, _, h, w, s, p, fun τ1 M1 B1 σ1 H1 h1 w1 e1 s1 a1 => ?_⟩
      exact ⟨_, τ1, M1, B1, Q, h1, w1, s1, RpA.mono e1.g q, fun τ2 M2 B2 σ2 H2 h2 w2 e2 s2 a2 => k τ2 M2 B2 σ2 H2 h2 w2 (e1.trans e2) s2 (a1.trans a2)⟩
  · exact h.elim
theorem mg_tup {os : List Nat} {k : Nat} {n : Nat} (hc : X.calm = true) (h : MGs X es os gr) (hn : (assignEach es X.env).length = n := by rfl) (hst : (assignEach es X.env).findIdx? (·.1) = none := by rfl) : MG X (.Tuple es k pos) os (gTu n gr) :=
  PG.of (pg_tup hc h hn hst) fun v σ H Q' ⟨t, τ, M, B, Q, h, w, s, r, k⟩ => by
  unfold gTu at h
  split at h
  · cases r with
    | tup e q => exact ⟨_, _, rfl, SqT.mono w.le e, (RpA.length q).trans h.1, _, τ, M, B, Q, h.2, w, s, q, k⟩
  · obtain ⟨a, vs, rfl, e, q⟩ := r
    exact ⟨_, _, rfl, SqT.mono0 w.le e, (RpA.length q).trans h.1, _, τ, M, B, Q, h.2, w, s, q, k⟩
  · exact h.elim
end
abbrev Mi := En → Mem → (List T → Mem → Prop) → Prop
/-- J gives the trees ts, one after another, while what is frozen in G stands -/
def WalkT (K : PySem.W.Frag) (B : Bk) (J : It) (ts : List T) : Prop := Walk J ts.length (fun H => ∀ a o, B.G a = some o → H a = some o) fun i H x H' =>
  (H' = H ∧ ∃ t, ts[i]? = some t ∧ Rt K B x t) ∨ ∃ p vs ds u, x = .ref p ∧ H p = none ∧ H' = upd H p u ∧ RpA K B.G vs ds ∧ (u = .tup vs ∧ ts[i]? = some (.wt ds) ∨ ∃ o : Obj, o.dict = none ∧ u = .frz o (.tup vs) ∧ ts[i]? = some (.d (.tuple ds)))
def rI (K : PySem.W.Frag) (m : Mi) : TI := fun σ H R => ∃ τ M B Q, m τ M Q ∧ Wd K B M H ∧ Sl K B σ τ ∧ ∀ ts M' B' H' J, Q ts M' → Wd K B' M' H' → Ext B H B' H' → WalkT K B' J ts → R J H'
abbrev MI (X : Cx) (tg iter : Expr) (m : Mi) : Prop := PI X tg iter (rI X.K m)
theorem PI.of {X : Cx} {tg iter : Expr} {t t' : TI} (h : PI X tg iter t) (w : ∀ σ H Q, t' σ H Q → t σ H Q) : PI X tg iter t' := ⟨fun _ _ _ _ _ iv q => h.run _ _ _ _ _ iv (w _ _ _ q)⟩
section
variable {X : Cx} {e c tg : Expr} {m : Me} {mr : Ma} {pos : Pos}
/-- a list or a tuple that never changes -/
def iSeq (m : Me) : Mi := fun τ M Q => m τ M fun t M1 => match t with
  | .d (.list xs) => Q (xs.map T.d) M1
  | .d (.tuple xs) => Q (xs.map T.d) M1
  | .scr ns => Q (ns.map T.int) M1
  | _ => False
theorem mapd_get {xs : List PyData} {i : Nat} {x : PyData} (e : xs[i]? = some x) : (xs.map T.d)[i]? = some (.d x) := by
  rw [List.getElem?_map, e]
  rfl
theorem walkT_l {K : PySem.W.Frag} {B : Bk} {a : Addr} {vs : List V} {ds : List PyData} (e : SqL K B.G a vs) (q : RpA K B.G vs ds) : WalkT K B (Itl K a) (ds.map T.d) := by
  unfold WalkT
  rw [List.length_map, ← RpA.length q]
  refine walk_list.mono (fun H g => SqL.mono g e) fun i H x H' hi g y => .inl ⟨y.1, ?_⟩
  have hd : i < ds.length := by rw [← RpA.length q]; exact hi
  obtain ⟨u, h1, h2⟩ := RpA.get q (List.getElem?_eq_getElem hd)
  refine ⟨_, mapd_get (List.getElem?_eq_getElem hd), ?_⟩
  rw [y.2] at h1
  cases h1
  exact h2
theorem walkT_t {K : PySem.W.Frag} {B : Bk} {a : Addr} {vs : List V} {ds : List PyData} (e : SqT K B.G a vs) (q : RpA K B.G vs ds) : WalkT K B (Itt K a) (ds.map T.d) := by
  unfold WalkT
  rw [List.length_map, ← RpA.length q]
  refine walk_tup.mono (fun H g => SqT.mono0 g e) fun i H x H' hi g y => .inl ⟨y.1, ?_⟩
  have hd : i < ds.length := by rw [← RpA.length q]; exact hi
  obtain ⟨u, h1, h2⟩ := RpA.get q (List.getElem?_eq_getElem hd)
  refine ⟨_, mapd_get (List.getElem?_eq_getElem hd), ?_⟩
  rw [y.2] at h1
  cases h1
  exact h2
/-- a list's, a tuple's iterator has come -/
theorem pie_l {pn : List (Addr × Obj)} {sg : L2.St} {hp : Hp} {sh : Shared} {a : Addr} {vs : List V} {R : It → Hp → Prop} (iv : Inv X pn sg hp sh) (hq : SqL X.K hp a vs) (hR : R (Itl X.K a) hp) :
    wpAny (model X.prog X.w) X.A (pyIter (.ref a)) (PIE X pn sg tg R) X.xe sh := by
  obtain ⟨its, _, pl, _⟩ := iv.list hq
  refine wpAny_pyIter_list pl.isList ?_
  refine ⟨sh.heap.objs.size, [sh.heap.objs.size], _, _, hp, rfl, ?_, turn_list a _, ?_, fun b mb => ?_, hR⟩
  · exact iv.kept (t' := sh.toks) fun _ _ z => Heap.get?_push_of_some _ z
  · exact ⟨_, Heap.get?_push_size _ rfl, rfl, rfl⟩
  · obtain rfl : b = sh.heap.objs.size := List.mem_singleton.mp mb
    exact iv.fpOk (Nat.le_refl _) (iv.hok.fresh (Nat.le_refl _))
theorem pie_t {pn : List (Addr × Obj)} {sg : L2.St} {hp : Hp} {sh : Shared} {a : Addr} {vs : List V} {R : It → Hp → Prop} (iv : Inv X pn sg hp sh) (hq : SqT X.K hp a vs) (hR : R (Itt X.K a) hp) :
    wpAny (model X.prog X.w) X.A (pyIter (.ref a)) (PIE X pn sg tg R) X.xe sh := by
  obtain ⟨its, _, pl, _⟩ := iv.tuple hq
  refine wpAny_pyIter_tuple (items := its.toArray) pl ?_
  refine ⟨sh.heap.objs.size, [sh.heap.objs.size], _, _, hp, rfl, ?_, turn_tuple a _, ?_, fun b mb => ?_, hR⟩
  · exact iv.kept (t' := sh.toks) fun _ _ z => Heap.get?_push_of_some _ z
  · exact ⟨_, Heap.get?_push_size _ rfl, rfl, rfl⟩
  · obtain rfl : b = sh.heap.objs.size := List.mem_singleton.mp mb
    exact iv.fpOk (Nat.le_refl _) (iv.hok.fresh (Nat.le_refl _))
theorem mi_seq (he : ME X e m) : MI X tg e (iSeq m) := by
  refine ⟨fun pn sh sg hp R iv ⟨τ, M, B, Q, h, w, s, k⟩ => ?_⟩
  let P := fun (x : V) (H1 : Hp) => ∃ t M1 B1, (match t with | .d (.list xs) => Q (xs.map T.d) M1 | .d (.tuple xs) => Q (xs.map T.d) M1 | .scr ns => Q (ns.map T.int) M1 | _ => False) ∧ Wd X.K B1 M1 H1 ∧ Ext B hp B1 H1 ∧ Rt X.K B1 x t
  refine thn (he.run pn sh sg hp P iv ⟨τ, M, B, _, h, w, s, fun v t M1 B1 H1 h1 w1 e1 r1 => ⟨t, M1, B1, h1, w1, e1, r1⟩⟩) fun v s1 ⟨x, H1, i1, rx, t, M1, B1, h1, w1, e1, r1⟩ => ?_
  split at h1
  · cases r1 with
    | lst e q =>
      cases rx
      exact pie_l i1 (.of (w1.le _ _ e)) (k _ M1 B1 H1 _ h1 w1 e1 (walkT_l (.of e) q))
  · cases r1 with
    | tup e q =>
      cases rx
      exact pie_t i1 (SqT.mono w1.le e) (k _ M1 B1 H1 _ h1 w1 e1 (walkT_t e.t q))
  · obtain ⟨a, rfl, e⟩ := r1
    cases rx
    refine pie_l i1 (SqL.mono w1.le e) (k _ M1 B1 H1 _ h1 w1 e1 ?_)
    have := walkT_l (K := X.K) (B := B1) e (RpA.of_ints _)
    rw [List.map_map] at this
    exact this
  · exact h1.elim
/-- range(n) -/
def rangeT (n : Nat) : List T := (List.range n).map fun (i : Nat) => T.int (i : Int)
def iRange (r : Ma) : Mi := fun τ M Q => r τ M fun ts M1 => match ts with
  | [.d (.int j)] => (-(2 ^ 62) ≤ j ∧ j < 2 ^ 62) ∧ Q (rangeT j.toNat) M1
  | _ => False
theorem mi_range {a : Expr} {p : Pos} (hg : Gl X "range") (hm : X.mg "range" = none) (ha : MA X [a] mr) (hs : starEach [a] X.env = [(false, eval a X.env)] := by rfl) : MI X tg (.Call (.Name "range" p) [a] [] pos) (iRange mr) := PI.of (pi_range1 hg hm ha hs) fun σ H R ⟨τ, M, B, Q, h, w, s, k⟩ => by
  refine ⟨τ, M, B, _, h, w, s, fun v t M1 B1 H1 h1 w1 e1 r1 => ?_⟩
  split at h1
  · obtain ⟨v, rfl, r⟩ := paired_one r1
    cases r
    rename_i j
    refine ⟨j, rfl, h1.1.1, h1.1.2, k _ M1 B1 H1 _ h1.2 w1 e1 ?_⟩
    unfold WalkT rangeT
    rw [List.length_map, List.length_range]
    refine walk_range.mono (fun _ _ => trivial) fun i H x H' hi _ y => .inl ⟨y.1, T.int (i : Int), ?_, ?_⟩
    · rw [List.getElem?_map, List.getElem?_range hi]
      rfl
    · rw [y.2]
      show Rt X.K B1 (.int (0 + (i : Int))) (T.int (i : Int))
      rw [Int.zero_add]
      exact .int _
  · exact h1.elim
def goFor (g : Mg) (b : Ms) (E : Es) : List T → En → Mem → Prop
  | [], τ, M => E.nx τ M
  | t :: ts, τ, M => g t τ M fun τ1 M1 => b { E with nx := goFor g b E ts, ct := goFor g b E ts, bk := E.nx } τ1 M1
def mFor (i : Mi) (g : Mg) (b : Ms) : Ms := fun E τ M => i τ M fun ts M1 => goFor g b E ts τ M1
theorem drop_at {α : Type} {l : List α} {i : Nat} (h : i < l.length) : l.drop i = l[i] :: l.drop (i + 1) := List.drop_eq_getElem_cons h
/-- what is given at a turn is in the world -/
theorem WalkT.step {K : PySem.W.Frag} {B1 B2 : Bk} {M2 : Mem} {H1 H2 H3 : Hp} {ts : List T} {i : Nat} {x : V} (hi : i < ts.length) (w2 : Wd K B2 M2 H2) (e2 : Ext B1 H1 B2 H2)
    (y : (H3 = H2 ∧ ∃ t, ts[i]? = some t ∧ Rt K B1 x t) ∨ ∃ p vs ds u, x = .ref p ∧ H2 p = none ∧ H3 = upd H2 p u ∧ RpA K B1.G vs ds ∧ (u = .tup vs ∧ ts[i]? = some (.wt ds) ∨ ∃ o : Obj, o.dict = none ∧ u = .frz o (.tup vs) ∧ ts[i]? = some (.d (.tuple ds)))) :
    ∃ B3, Wd K B3 M2 H3 ∧ Ext B2 H2 B3 H3 ∧ Rt K B3 x ts[i] := by
  have hg : ts[i]? = some ts[i] := List.getElem?_eq_getElem hi
  rcases y with ⟨rfl, t, h1, h2⟩ | ⟨p, vs, ds, u, rfl, h1, rfl, h2, ⟨rfl, h3⟩ | ⟨o, ho, rfl, h3⟩⟩
  · rw [hg] at h1
    cases h1
    exact ⟨B2, w2, .refl _ _, Rt.mono e2 h2⟩
  · rw [hg] at h3
    obtain ⟨w3, e3⟩ := w2.alloc h1 (.tup vs)
    refine ⟨_, w3, e3, ?_⟩
    rw [Option.some.inj h3]
    exact ⟨p, vs, rfl, .inl (.inl upd_same), RpA.mono e3.g (RpA.mono e2.g h2)⟩
  · rw [hg] at h3
    obtain ⟨w3, e3⟩ := w2.alloc h1 (.frz o (.tup vs))
    refine ⟨_, w3, e3, ?_⟩
    rw [Option.some.inj h3]
    exact .tup (.inl ⟨o, upd_same, ho⟩) (RpA.mono e3.g (RpA.mono e2.g h2))
theorem ms_for {os : List Nat} {body : List Stmt} {i : Mi} {g : Mg} {b : Ms} (hp : PassesOwn (model X.prog X.w) X.A X.env X.xe) (hc : X.calm = true) (hi : MI X tg e i) (hg : MG X tg os g) (hb : MSs X body b)
    (hs : ∀ x, foldedSetIterable e X.env x = pure x := by intro _; rfl) : MS X (.For tg e body [] pos) (mFor i g b) := PS.of (ps_for hp hc hi hg hb hs) fun D σ H ⟨E, τ, M, B, h, w, sl, go⟩ => by
  refine ⟨τ, M, B, _, h, w, sl, fun ts M1 B1 H1 J h1 w1 e1 W => ?_⟩
  refine for_it W (fun i σ2 H2 => ∃ τ2 M2 B2, goFor g b E (ts.drop i) τ2 M2 ∧ Wd X.K B2 M2 H2 ∧ Sl X.K B2 σ2 τ2 ∧ Ext B1 H1 B2 H2) ⟨τ, M1, B1, h1, w1, sl.mono e1, .refl _ _⟩ ?_ ?_ ?_
  · rintro i σ2 H2 _ ⟨τ2, M2, B2, _, w2, _, e2⟩ a o z
    exact w2.le a o (e2.g a o z)
  · rintro i x σ2 H2 H3 hi ⟨τ2, M2, B2, h2, w2, s2, e2⟩ y
    obtain ⟨B3, w3, e3, r3⟩ := WalkT.step hi w2 e2 y
    rw [drop_at hi] at h2
    refine ⟨ts[i], τ2, M2, B3, _, h2, w3, s2.mono e3, r3, fun τ4 M4 B4 σ4 H4 h4 w4 e4 s4 _ => ?_⟩
    have e14 := e2.trans (e3.trans e4)
    refine ⟨_, τ4, M4, B4, h4, w4, s4, ⟨?_, ?_, ?_, ?_⟩⟩
    · exact fun τ5 M5 B5 σ5 H5 q w5 e5 s5 => ⟨τ5, M5, B5, q, w5, s5, e14.trans e5⟩
    · exact fun v t M5 B5 H5 q w5 e5 r5 => go.rt v t M5 B5 H5 q w5 (e1.trans (e14.trans e5)) r5
    · exact fun τ5 M5 B5 σ5 H5 q w5 e5 s5 => go.nx τ5 M5 B5 σ5 H5 q w5 (e1.trans (e14.trans e5)) s5
    · exact fun τ5 M5 B5 σ5 H5 q w5 e5 s5 => ⟨τ5, M5, B5, q, w5, s5, e14.trans e5⟩
  · rintro σ2 H2 ⟨τ2, M2, B2, h2, w2, s2, e2⟩
    rw [List.drop_length] at h2
    exact go.nx τ2 M2 B2 σ2 H2 h2 w2 (e1.trans e2) s2
def goWh (c : Mb) (b : Ms) (E : Es) : Nat → En → Mem → Prop
  | 0, _, _ => False
  | n + 1, τ, M => c τ M fun k M1 => if k = true then b { E with nx := goWh c b E n, ct := goWh c b E n, bk := E.nx } τ M1 else E.nx τ M1
def mWhile (c : Mb) (b : Ms) : Ms := fun E τ M => ∃ n, goWh c b E n τ M
theorem ms_while {body : List Stmt} {mc : Mb} {b : Ms} (hp : PassesOwn (model X.prog X.w) X.A X.env X.xe) (hc : MB X c mc) (hb : MSs X body b) : MS X (.While c body [] pos) (mWhile mc b) := PS.of (ps_while hp hc hb) fun D σ H ⟨E, τ, M, B, ⟨n, h⟩, w, sl, go⟩ => by
  refine ⟨fun m σ2 H2 => ∃ τ2 M2 B2, goWh mc b E m τ2 M2 ∧ Wd X.K B2 M2 H2 ∧ Sl X.K B2 σ2 τ2 ∧ Ext B H B2 H2, ⟨n, τ, M, B, h, w, sl, .refl _ _⟩, ?_⟩
  rintro m σ2 H2 ⟨τ2, M2, B2, h2, w2, s2, e2⟩
  cases m with
  | zero => exact h2.elim
  | succ m =>
    refine ⟨τ2, M2, B2, _, h2, w2, s2, fun k M3 B3 H3 h3 w3 e3 => ?_⟩
    have e13 := e2.trans e3
    cases k with
    | false => exact go.nx τ2 M3 B3 σ2 H3 h3 w3 e13 (s2.mono e3)
    | true =>
      refine ⟨fun σ' H' => ∃ τ5 M5 B5, goWh mc b E m τ5 M5 ∧ Wd X.K B5 M5 H' ∧ Sl X.K B5 σ' τ5 ∧ Ext B H B5 H', fun σ' H' z => ⟨m, Nat.lt_succ_self m, z⟩, ?_⟩
      refine ⟨_, τ2, M3, B3, h3, w3, s2.mono e3, ⟨?_, ?_, ?_, ?_⟩⟩
      · exact fun τ5 M5 B5 σ5 H5 q w5 e5 s5 => ⟨τ5, M5, B5, q, w5, s5, e13.trans e5⟩
      · exact fun v t M5 B5 H5 q w5 e5 r5 => go.rt v t M5 B5 H5 q w5 (e13.trans e5) r5
      · exact fun τ5 M5 B5 σ5 H5 q w5 e5 s5 => go.nx τ5 M5 B5 σ5 H5 q w5 (e13.trans e5) s5
      · exact fun τ5 M5 B5 σ5 H5 q w5 e5 s5 => ⟨τ5, M5, B5, q, w5, s5, e13.trans e5⟩
def goLc (g : Mg) (c : Mb) (m : Me) (τ0 : En) (Q : List PyData → Mem → Prop) : List T → List PyData → Mem → Prop
  | [], acc, M => Q acc M
  | t :: ts, acc, M => g t τ0 M fun τ1 M1 => c τ1 M1 fun k M2 => if k = true then m τ1 M2 fun y M3 => (match y with
      | .d z => acc.length < sizeLine ∧ goLc g c m τ0 Q ts (acc ++ [z]) M3
      | _ => False) else goLc g c m τ0 Q ts acc M2
def mLc (i : Mi) (g : Mg) (c : Mb) (m : Me) (vs : List Nat) : Me := fun τ M Q => i τ M fun ts M1 => goLc g c m (wipeT τ vs) (fun acc M2 => Q (.lst acc) M2) ts [] M1
def bYes : Mb := fun _ M Q => Q true M
abbrev MTs (X : Cx) (ifs : List Expr) (c : Mb) : Prop := PTs X ifs (rB X.K c)
theorem PTs.of {ifs : List Expr} {t t' : TT} (h : PTs X ifs t) (w : ∀ σ H Q, t' σ H Q → t σ H Q) : PTs X ifs t' := ⟨fun _ _ _ _ _ iv q => h.run _ _ _ _ _ iv (w _ _ _ q)⟩
theorem mts_nil : MTs X [] bYes := PTs.of pts_nil fun σ H Q' ⟨τ, M, B, Q, h, w, s, k⟩ => k _ M B H h w (.refl _ _)
theorem mts_one {mc : Mb} (h : MB X c mc) : MTs X [c] mc := pts_one h
theorem Ext.adoptG {B B2 : Bk} {H H2 : Hp} {p : Addr} {o : HO} (hp : H p = none) (x : Ext B H B2 H2) : Ext B H { B2 with G := upd B2.G p o } H2 ∨ B2.G p ≠ none := by
  by_cases z : B2.G p = none
  · refine .inl ⟨fun a u e => ?_, x.r, x.l, x.fr, x.tr, x.rn, x.ln, fun a u e => ?_⟩
    · exact upd_keep z a u (x.g a u e)
    · have e' : upd B2.G p o a = some u := e
      by_cases y : a = p
      · rw [y]
        exact .inr (.inl hp)
      · rw [upd_ne y] at e'
        exact x.gf a u e'
  · exact .inr z
theorem lc_gen {K : PySem.W.Frag} {i : Mi} {g : Mg} {os : List Nat} {mc : Mb} {vs0 : List Nat} {σ : L2.St} {H : Hp} {Q' : VK} {τ : En} {M : Mem} {B : Bk} {Qf : List PyData → Mem → Prop} (sub : ∀ j ∈ os, j ∈ vs0)
    (h : i τ M fun ts M1 => goLc g mc m (wipeT τ vs0) Qf ts [] M1) (w : Wd K B M H) (sl : Sl K B σ τ)
    (k : ∀ (D : Addr) (acc : List PyData) (vs : List V) (M2 : Mem) (B2 : Bk) (H2 : Hp), Qf acc M2 → H D = none → Wd K B2 M2 H2 → Ext B H B2 H2 → H2 D = some (.lst vs) → RpA K B2.G vs acc → B2.G D = none → D ∉ B2.r → D ∉ B2.l → Q' (.ref D) H2) :
    tLc (rI K i) (rG K os g) (rB K mc) (rE K m) vs0 σ H Q' := by
  refine ⟨τ, M, B, _, h, w, sl, fun ts M1 B1 H1 J h1 w1 e1 W D hD => ?_⟩
  obtain ⟨dG, dr, dl⟩ := w1.fresh hD
  have sw := (sl.mono e1).wipe vs0
  refine lc_it W (fun i H2 => ∃ acc vs M2 B2, goLc g mc m (wipeT τ vs0) Qf (ts.drop i) acc M2 ∧ Wd K B2 M2 H2 ∧ Ext B1 H1 B2 H2 ∧ H2 D = some (.lst vs) ∧ RpA K B2.G vs acc ∧ B2.G D = none ∧ D ∉ B2.r ∧ D ∉ B2.l) ?_ ?_ ?_ ?_
  · exact ⟨[], [], M1, B1, h1, w1.side hD _, .side hD _, upd_same, .nil, dG, dr, dl⟩
  · rintro i H2 _ ⟨acc, vs, M2, B2, _, w2, e2, _⟩ a o z
    exact w2.le a o (e2.g a o z)
  · rintro i x H2 H3 hlt ⟨acc, vs, M2, B2, h2, w2, e2, d2, r2, g2, n2, l2⟩ y
    obtain ⟨B3, w3, e3, r3⟩ := WalkT.step hlt w2 e2 y
    rw [drop_at hlt, goLc] at h2
    have keepD : ∀ {B4 : Bk} {H4 : Hp}, Ext B2 H2 B4 H4 → H4 D = some (.lst vs) ∧ B4.G D = none ∧ D ∉ B4.r ∧ D ∉ B4.l := fun {B4 H4} e4 => by
      refine ⟨e4.fr D _ d2 n2 l2, ?_, fun z => ?_, fun z => ?_⟩
      · cases q : B4.G D with
        | none => rfl
        | some o =>
          rcases e4.gf D o q with z | z | z
          · rw [g2] at z; cases z
          · rw [d2] at z; cases z
          · exact absurd z l2
      · rcases e4.rn D z with q | q
        · exact n2 q
        · rw [d2] at q; cases q
      · rcases e4.ln D z with q | q
        · exact l2 q
        · rw [d2] at q; cases q
    refine ⟨ts[i], wipeT τ vs0, M2, B3, _, h2, w3, (sw.mono e2).mono e3, r3, fun τ4 M4 B4 σ4 H4 h4 w4 e4 s4 a4 => ⟨a4.wipe sub, ?_⟩⟩
    refine ⟨τ4, M4, B4, _, h4, w4, s4, fun k5 M5 B5 H5 h5 w5 e5 => ?_⟩
    have e25 := e3.trans (e4.trans e5)
    cases k5 with
    | false =>
      obtain ⟨q1, q2, q3, q4⟩ := keepD e25
      exact ⟨acc, vs, M5, B5, h5, w5, e2.trans e25, q1, RpA.mono e25.g r2, q2, q3, q4⟩
    | true =>
      refine ⟨τ4, M5, B5, _, h5, w5, s4.mono e5, fun v t M6 B6 H6 h6 w6 e6 r6 => ?_⟩
      split at h6
      · have e26 := e25.trans e6
        obtain ⟨q1, q2, q3, q4⟩ := keepD e26
        refine ⟨vs, q1, by rw [RpA.length r2]; exact h6.1, acc ++ [_], vs ++ [v], M6, B6, h6.2, ?_, ?_, upd_same, RpA.append (RpA.mono e26.g r2) (.cons r6 .nil), q2, q3, q4⟩
        · -- the world does not know D
          refine ⟨fun a u z => ?_, w6.rlen, w6.llen, w6.nd, fun j a c z1 z2 => ?_, fun j a ds z1 z2 => ?_, fun a ha => ?_⟩
          · rw [upd_ne (ne_of_none z q2)]
            exact w6.le a u z
          · obtain ⟨p1, p2⟩ := w6.dc j a c z1 z2
            exact ⟨p1, CellAt.mono (fun _ _ e => e) (List.prefix_refl _) (upd_ne fun z => q3 (by rw [← z]; exact mem_of_get z1)) p2⟩
          · obtain ⟨p1, xs, p2, p3⟩ := w6.lc j a ds z1 z2
            exact ⟨p1, xs, (upd_ne fun z => q4 (by rw [← z]; exact mem_of_get z1)).trans p2, p3⟩
          · rw [upd_ne fun z => ?_]
            · exact w6.tr a ha
            · rw [z] at ha
              exact (List.mem_append.mp ha).elim q3 q4
        · have x6 := e2.trans e26
          refine ⟨x6.g, x6.r, x6.l, fun a u z n1 n2 => ?_, fun a z => ?_, x6.rn, x6.ln, x6.gf⟩
          · rw [upd_ne (ne_of_none z hD)]
            exact x6.fr a u z n1 n2
          · by_cases q : a = D
            · rw [q]
              exact hD
            · rw [upd_ne q] at z
              exact x6.tr a z
      · exact h6.elim
  · rintro H2 ⟨acc, vs, M2, B2, h2, w2, e2, d2, r2, g2, n2, l2⟩
    rw [List.drop_length] at h2
    exact k D acc vs M2 B2 H2 h2 (e1.tr D hD) w2 (e1.trans e2) d2 r2 g2 n2 l2
theorem lc_of {K : PySem.W.Frag} {i : Mi} {g : Mg} {os : List Nat} {mc : Mb} {vs0 : List Nat} {σ : L2.St} {H : Hp} {Q' : VK} (sub : ∀ j ∈ os, j ∈ vs0) (h : rE K (mLc i g mc m vs0) σ H Q') : tLc (rI K i) (rG K os g) (rB K mc) (rE K m) vs0 σ H Q' := by
  obtain ⟨τ, M, B, Q, h, w, sl, k⟩ := h
  refine lc_gen sub h w sl fun D acc vs M2 B2 H2 h2 hD w2 e2 d2 r2 g2 n2 l2 => ?_
  rcases Ext.adoptG (o := .lst vs) hD e2 with x | x
  · exact k _ _ M2 _ H2 h2 (w2.adoptG g2 n2 l2 d2) x (.lst upd_same (RpA.mono (upd_keep g2) r2))
  · exact absurd g2 x
section
variable {elt : Expr} {ifs : List Expr} {scope : Scope} {own : List (Str × Nat)} {i : Mi} {g : Mg} {os : List Nat} {mc : Mb}
theorem me_lc (hc : X.calm = true) (hN : X.N.Nodup) (hi : MI X tg e i) (ok : BlkOk X.N X.env.scope scope own)
    (hg : ∀ (s : Shared) (H : Hp) (C : Addr) (cl : List (Str × Addr)) (fp : List Addr), MG (X.blk s H scope (compEnvC scope cl C X.env) fp) tg os g) (ht : ∀ (s : Shared) (H : Hp) (C : Addr) (cl : List (Str × Addr)) (fp : List Addr), MTs (X.blk s H scope (compEnvC scope cl C X.env) fp) ifs mc)
    (he : ∀ (s : Shared) (H : Hp) (C : Addr) (cl : List (Str × Addr)) (fp : List Addr), ME (X.blk s H scope (compEnvC scope cl C X.env) fp) elt m) (sub : ∀ j ∈ os, j ∈ own.map (·.2)) (hs : ∀ x, foldedSetIterable e X.env x = pure x := by intro _; rfl) :
    ME X (.ListComp elt [⟨tg, e, ifs, 0⟩] scope pos) (mLc i g mc m (own.map (·.2))) := PE.of (pe_lc (te := rE X.K m) (tt := rB X.K mc) (g := rG X.K os g) hc hN hi ok hg ht he hs) fun _ _ _ h => lc_of sub h
variable {n : Nat} {y : Str} {py spos : Pos}
end
end
end L3
set_option Elab.async false
set_option linter.all false
set_option maxRecDepth 100000
namespace L3
open PySem PySem.Spec L2
def Gd (A : Around) : Prop := A.guards = some []
structure FnG (P : Program) (w : World) (K : PySem.W.Frag) (mg : Str → Option Value) (base : Heap) (k : Nat) (f : Addr) (fd : FuncData) (ps : List Str) (sp : Sp) : Prop where
  len : ∀ vs H Q E, sp vs H Q E → vs.length = ps.length
  run : ∀ (A : Around) (outer : List Env) (sh : Shared) (H : Hp) (args : Args) (us : List Value) (vs : List V) (Q : VK) (E : XK), Gd A → Room k A → Env0 P w K mg base A outer sh H → BindsTo sh fd args (ps.zip us) → Vals vs us → sp vs H Q E →
    codeAny (model P w) A (.call (.ref f) args) (CR CX0 outer P w H sh Q E) sh
theorem FnG.mono {P : Program} {w : World} {K : PySem.W.Frag} {mg : Str → Option Value} {base : Heap} {j k : Nat} {f : Addr} {fd : FuncData} {ps : List Str} {sp : Sp} (F : FnG P w K mg base j f fd ps sp) (h : j ≤ k) : FnG P w K mg base k f fd ps sp :=
  ⟨F.len, fun A outer sh H args us vs Q E gd rm => F.run A outer sh H args us vs Q E gd (rm.mono h)⟩
theorem fng_of {P : Program} {w : World} {K : PySem.W.Frag} {mg : Str → Option Value} {base : Heap} {x qual : Str} {st : Stmt} {f : Addr} {fd : FuncData} {N ps : List Str} {k : Nat} {sp : Sp}
    (F : Fun K x qual st f fd) (S : FnScope N ps (defScope st)) (len : ∀ vs H Q E, sp vs H Q E → vs.length = ps.length)
    (body : ∀ (cdv : Value) (A : Around) (outer : List Env) (sh : Shared) (H : Hp) (vs : List V) (Q : VK) (E : XK), Gd (A.deeper (PyProof.Rows.envOfC qual (defScope st) sh.heap.objs.size f cdv)) → Room k (A.deeper (PyProof.Rows.envOfC qual (defScope st) sh.heap.objs.size f cdv)) → sp vs H Q E →
      ∃ t, PSs (cxOf CX0 P w K mg base N qual (defScope st) f cdv A outer sh H E).nox (defBody st) t ∧ t { nx := fun _ H' => Q .non H', rt := Q } (start N vs) H) :
    FnG P w K mg base (k + 1) f fd ps sp := by
  obtain ⟨oc, od, kV, doc, pm, an, cdv, ct, osl, rfl, lk, hcd⟩ := F.ex
  refine ⟨len, fun A outer sh H args us vs Q E gd rm e0 bnd rv q => ?_⟩
  have hlen := len _ _ _ _ q
  have kin : K.In sh.heap := e0.mod.kin.keeps fun b o z => (e0.bs b o z).1
  have nolim : sh.heap.NoLimit := e0.mod.nolimit.keeps fun b o z => (e0.bs b o z).1
  have kinds : ∀ y ∈ ps.zip us, (defScope st).names.lookup y.1 = some .local ∨ ((defScope st).names.lookup y.1 = some .cell ∧ ((cellsFrom (sh.heap.objs.size + 1) (defScope st).names []).lookup y.1).isSome = true) := by
    rintro ⟨nm, vl⟩ hy
    exact (S.par nm (List.of_mem_zip hy).1).elim .inl fun z => .inr ⟨z, PySem.W.cellsFrom_some _ _ _ (.inl z)⟩
  refine codeAny_call_function rm.depth (kin _ _ lk) rfl S.co S.gen rfl (PySem.W.codeRec_of kin hcd) (bnd _ _ _ _ ?_)
  refine wpAny_newFunctionEnv_cells S.kind kinds fun env he sh1 xx => ?_
  subst he
  refine ⟨nolim.keeps xx.toInCall.keep, codeAny_func ?_⟩
  obtain ⟨t, ht, hq⟩ := body cdv A outer sh H vs Q E gd (rm.deeper _) q
  have iv := inv_start (CX := CX0) (E := E) S rm.hd e0 hlen rv xx
  refine wpAny_mono (ht.nox.run [] sh1 (start N vs) H _ iv hq) (fun fl sh' hs => ?_) fun _ _ hs => hs
  cases fl with
  | ret u =>
    obtain ⟨v, σ', H', J, r', q'⟩ := hs
    exact ⟨v, H', J.os, J.bare, J.base, J.hok, r', q'⟩
  | next =>
    obtain ⟨σ', H', J, q'⟩ := hs
    exact ⟨V.non, H', J.os, J.bare, J.base, J.hok, rfl, q'⟩
  | brk => obtain ⟨_, _, _, q'⟩ := hs; exact False.elim q'
  | cont => obtain ⟨_, _, _, q'⟩ := hs; exact False.elim q'
abbrev FD := List T → List Cell → (T → List Cell → Prop) → Prop
def spM (K : PySem.W.Frag) (m : FD) : Sp := fun vs H Q _ => ∃ ts D B Q1, m ts D Q1 ∧ Wd K B ⟨D, []⟩ H ∧ Paired (Rt K B) vs ts ∧ ∀ v t D' B' H', Q1 t D' → Wd K B' ⟨D', []⟩ H' → Ext B H B' H' → Rt K B' v t → Q v H'
/-- a def of n parameters and N names -/
def mDef (n N : Nat) (body : Ms) : FD := fun ts D Q => ts.length = n ∧ body { nx := fun _ M => Q .non M.D, rt := fun t M => noL t = true ∧ Q t M.D } (ts.map some ++ List.replicate (N - n) none) ⟨D, []⟩
theorem start_sl {K : PySem.W.Frag} {B : Bk} {N : List Str} {vs : List V} {ts : List T} (r : Paired (Rt K B) vs ts) : Sl K B (start N vs) (ts.map some ++ List.replicate (N.length - ts.length) none) := by
  have hl := paired_len r
  refine ⟨by simp [L2.start, hl], fun i t e => ?_⟩
  unfold L2.start
  by_cases hi : i < ts.length
  · rw [List.getElem?_append_left (by rw [List.length_map]; exact hi), List.getElem?_map] at e
    cases h : ts[i]? with
    | none => rw [h] at e; cases e
    | some u =>
      rw [h] at e
      cases e
      obtain ⟨v, h1, h2⟩ := paired_get r h
      exact ⟨v, by rw [List.getElem?_append_left (by rw [List.length_map, hl]; exact hi), List.getElem?_map, h1]; rfl, h2⟩
  · rw [List.getElem?_append_right (by rw [List.length_map]; omega), List.getElem?_replicate] at e
    split at e <;> cases e
/-- a frame's end: its own lists are forgotten -/
theorem Wd.leave {K : PySem.W.Frag} {B : Bk} {M : Mem} {H : Hp} (w : Wd K B M H) : Wd K { B with l := [] } ⟨M.D, []⟩ H :=
  ⟨w.le, w.rlen, rfl, by
    show (B.r ++ []).Nodup
    rw [List.append_nil]
    exact (List.nodup_append.mp w.nd).1, w.dc, fun i a ds h1 _ => by
    have h1' : ([] : List Addr)[i]? = some a := h1
    simp at h1', fun a ha => by
    have ha' : a ∈ B.r ++ [] := ha
    rw [List.append_nil] at ha'
    exact w.tr a (List.mem_append_left _ ha')⟩
theorem ok_def {P : Program} {w : World} {K : PySem.W.Frag} {mg : Str → Option Value} {base : Heap} {x qual : Str} {st : Stmt} {f : Addr} {fd : FuncData} {N ps : List Str} {k : Nat} {m : Ms}
    (F : Fun K x qual st f fd) (S : FnScope N ps (defScope st))
    (body : ∀ (cdv : Value) (A : Around) (outer : List Env) (sh : Shared) (H : Hp) (E : XK), Gd (A.deeper (PyProof.Rows.envOfC qual (defScope st) sh.heap.objs.size f cdv)) → Room k (A.deeper (PyProof.Rows.envOfC qual (defScope st) sh.heap.objs.size f cdv)) →
      MSs (cxOf CX0 P w K mg base N qual (defScope st) f cdv A outer sh H E).nox (defBody st) m) :
    FnG P w K mg base (k + 1) f fd ps (spM K (mDef ps.length N.length m)) := by
  refine fng_of F S (fun vs H Q E h => ?_) fun cdv A outer sh H vs Q E gd rm h => ?_
  · obtain ⟨ts, D, B, Q1, ⟨h1, _⟩, _, r, _⟩ := h
    exact (paired_len r).trans h1
  · obtain ⟨ts, D, B, Q1, ⟨h1, h2⟩, wd, r, kk⟩ := h
    refine ⟨_, body cdv A outer sh H E gd rm, ?_⟩
    have lB : B.l = [] := List.length_eq_zero_iff.mp wd.llen
    have s0 := start_sl (N := N) r
    rw [h1] at s0
    refine ⟨_, _, ⟨D, []⟩, B, h2, wd, s0, ⟨fun τ' M' B' σ' H' q w' e' s' => ?_, fun v t M' B' H' q w' e' r' => ?_, fun _ _ _ _ _ q => q.elim, fun _ _ _ _ _ q => q.elim⟩⟩
    · refine kk .non .non M'.D { B' with l := [] } H' q w'.leave ⟨e'.g, e'.r, ?_, e'.fr, e'.tr, e'.rn, fun a z => absurd z (by simp), e'.gf⟩ .non
      rw [lB]
      exact List.nil_prefix
    · refine kk v t M'.D { B' with l := [] } H' q.2 w'.leave ⟨e'.g, e'.r, ?_, e'.fr, e'.tr, e'.rn, fun a z => absurd z (by simp), e'.gf⟩ (r'.deck q.1)
      rw [lB]
      exact List.nil_prefix
def fDef (m : FD) : FA := fun ts M Q => (∀ t ∈ ts, noL t = true) ∧ m ts M.D fun t D' => Q t { M with D := D' }
theorem paired_deck {K : PySem.W.Frag} {B : Bk} : ∀ {vs : List V} {ts : List T}, Paired (Rt K B) vs ts → (∀ t ∈ ts, noL t = true) → Paired (Rt K { B with l := [] }) vs ts
  | _, _, .nil, _ => .nil
  | _, _, .cons p q, h => .cons (p.deck (h _ (List.mem_cons_self ..))) (paired_deck q fun t z => h t (List.mem_cons_of_mem _ z))
theorem sp_of {K : PySem.W.Frag} {m : FD} {vs : List V} {ts : List T} {M : Mem} {B : Bk} {H : Hp} {Q : Kt} {Q' : VK} {E : XK} (h : fDef m ts M Q) (w : Wd K B M H) (r : Paired (Rt K B) vs ts)
    (k : ∀ v t' M' B' H', Q t' M' → Wd K B' M' H' → Ext B H B' H' → Rt K B' v t' → Q' v H') : spM K m vs H Q' E := by
  refine ⟨ts, M.D, { B with l := [] }, _, h.2, w.leave, paired_deck r h.1, fun v t D' B1 H1 q w1 e1 r1 => ?_⟩
  have l1 : B1.l = [] := List.length_eq_zero_iff.mp w1.llen
  have own : ∀ a ∈ B.l, H a ≠ none := fun a z => w.tr a (List.mem_append_right _ z)
  have nr1 : ∀ a ∈ B.l, a ∉ B1.r := fun a z y => by
    rcases e1.rn a y with q | q
    · exact w.rl q z
    · exact own a z q
  have stay : ∀ {a : Addr} {o : HO}, a ∈ B.l → H a = some o → H1 a = some o := fun {a o} z e => e1.fr a o e (fun y => w.rl y z) fun y => by cases y
  have e' : Ext B H { B1 with l := B.l } H1 := ⟨e1.g, e1.r, List.prefix_refl _, fun a o e n1 n2 => e1.fr a o e n1 (by intro y; cases y), e1.tr, e1.rn, fun a z => .inl z, fun a o e => (e1.gf a o e).elim .inl fun z => z.elim (fun z => .inr (.inl z)) (by intro z; cases z)⟩
  refine k v t { M with D := D' } { B1 with l := B.l } H1 q ⟨w1.le, w1.rlen, w.llen, ?_, w1.dc, fun i a ds h1 h2 => ?_, fun a ha => ?_⟩ e' ?_
  · show (B1.r ++ B.l).Nodup
    have n1 := w1.nd
    rw [l1, List.append_nil] at n1
    refine List.nodup_append.mpr ⟨n1, (List.nodup_append.mp w.nd).2.1, fun x hx y hy z => ?_⟩
    subst z
    exact nr1 x hy hx
  · obtain ⟨q1, xs, q2, q3⟩ := w.lc i a ds h1 h2
    have ml := mem_of_get h1
    refine ⟨?_, xs, stay ml q2, RpA.mono e1.g q3⟩
    show B1.G a = none
    cases z : B1.G a with
    | none => rfl
    | some o =>
      rcases e1.gf a o z with y | y | y
      · rw [show B.G a = none from q1] at y; cases y
      · exact absurd y (own a ml)
      · cases y
  · have ha' : a ∈ B1.r ++ B.l := ha
    rcases List.mem_append.mp ha' with z | z
    · exact w1.tr a (List.mem_append_left _ z)
    · exact fun y => own a z (e1.tr a y)
  · cases t with
    | d x => exact r1
    | mr i => exact r1
    | lr i =>
      obtain ⟨a, _, z⟩ := r1
      rw [l1] at z
      simp at z
    | scr ns => exact r1
    | wt xs => exact r1
    | exo a c d e => exact r1
    | q x => exact r1
section
variable {X : Cx} {k : Nat} {f : Addr} {fd : FuncData} {ps ks : List Str} {m : FD} {x : Str} {p pos : Pos} {e : Expr} {es : List Expr} {mr mk : Ma} {kws : List Keyword}
theorem run_g {args : Args} {us : List Value} {vs : List V} {sp : Sp} {pn : List (Addr × Obj)} {sh : Shared} {sg : L2.St} {hp : Hp} {Q : VK} (F : FnG X.prog X.w X.K X.mg X.base k f fd ps sp) (gd : Gd X.A) (rm : Room k X.A)
    (hb : BindsTo sh fd args (ps.zip us)) (iv : Inv X pn sg hp sh) (rv : Vals vs us) (h : sp vs hp Q E0) : wpAny (model X.prog X.w) X.A (call (.ref f) args.pos args.kw) (EP X pn sg Q) X.xe sh := by
  refine wpAny_call (codeAny_mono (F.run X.A X.stack sh hp args us vs Q E0 gd rm iv.env0 hb rv h) fun r sh' hq => ?_)
  cases r with
  | error z => exact False.elim hq
  | ok fl =>
    cases fl with
    | ret u => exact iv.after hq
    | next => exact hq.elim
    | brk => exact hq.elim
    | cont => exact hq.elim
theorem me_call (F : FnG X.prog X.w X.K X.mg X.base k f fd ps (spM X.K m)) (gd : Gd X.A) (rm : Room k X.A) (hg : Gl X x) (hm : X.mg x = some (.ref f)) (hk : PySem.W.keepIn X.K (.ref f) = true) (hb : Binds X.K fd ps [])
    (ha : MA X (e :: es) mr) (hdb : (x == ("__debug__" : Str)) = false := by decide) (he : starEach (e :: es) X.env = (false, eval e X.env) :: starEach es X.env := by rfl) (hpl : (backTo pos (starEach es X.env)).any (·.1) = false := by rfl) :
    ME X (.Call (.Name x p) (e :: es) [] pos) (mCall (fDef m) mr) := by
  refine ⟨fun pn sh sg hp Q' iv ⟨τ, M, B, Q, h, w, s, kk⟩ => wpAny_Call_Name_kw (ld_glob iv hg hm ?_ hdb)⟩
  let P := fun (vs : List V) (H1 : Hp) => spM X.K m vs H1 Q' E0
  refine PySem.W.callWith_K (h₀ := X.base) iv.ok.mod.kin hk (thn (ha.run pos pn sh sg hp P iv ⟨τ, M, B, _, h, w, s, fun vs ts M1 B1 H1 h1 w1 e1 r1 => ?_⟩) fun us s1 ⟨vs, H1, i1, r, q⟩ => ⟨i1.kIn, ?_⟩) he hpl
  · exact sp_of h1 w1 r1 fun v t M2 B2 H2 h2 w2 e2 r2 => kk v t M2 B2 H2 h2 w2 (e1.trans e2) r2
  · have hl : (us ++ []).length = ps.length := by
      rw [List.append_nil, ← r.length]
      exact F.len _ _ _ _ q
    have hbb := hb s1 us i1.kIn hl
    rw [List.append_nil] at hbb
    exact run_g (args := ⟨us, []⟩) F gd rm hbb i1 r q
theorem me_call0 (F : FnG X.prog X.w X.K X.mg X.base k f fd ps (spM X.K m)) (gd : Gd X.A) (rm : Room k X.A) (hg : Gl X x) (hm : X.mg x = some (.ref f)) (hk : PySem.W.keepIn X.K (.ref f) = true) (hb : Binds X.K fd ps [])
    (hdb : (x == ("__debug__" : Str)) = false := by decide) : ME X (.Call (.Name x p) [] [] pos) (mCall (fDef m) aNil) := by
  refine ⟨fun pn sh sg hp Q' iv ⟨τ, M, B, Q, h, w, s, kk⟩ => wpAny_Call_Name_kw (ld_glob iv hg hm ?_ hdb)⟩
  have q : spM X.K m [] hp Q' E0 := sp_of h w .nil kk
  refine PySem.W.callWith_K0 iv.kIn hk ?_
  have hbb := hb sh [] iv.kIn (F.len _ _ _ _ q)
  exact run_g (args := ⟨[], []⟩) (us := []) F gd rm hbb iv .nil q
abbrev MK (X : Cx) (kws : List Keyword) (m : Ma) : Prop := PK X kws (rA X.K m)
theorem PK.of {t t' : TA} (h : PK X kws t) (w : ∀ σ H Q, t' σ H Q → t σ H Q) : PK X kws t' := ⟨fun _ _ _ _ _ _ iv q => h.run _ _ _ _ _ _ iv (w _ _ _ q)⟩
theorem mk_nil : MK X [] aNil := PK.of pk_nil fun σ H Q' ⟨τ, M, B, Q, h, w, s, k⟩ => k _ _ M B H h w (.refl _ _) .nil
theorem mk_cons {nm : Option Str} {kpos : Pos} {me : Me} (ha : ME X e me) (hr : MK X kws mr) : MK X (⟨nm, e, kpos⟩ :: kws) (aCons me mr) := PK.of (pk_cons ha hr) fun σ H Q' ⟨τ, M, B, Q, h, w, s, k⟩ => by
  refine ⟨τ, M, B, _, h, w, s, fun v t M1 B1 H1 h1 w1 e1 r1 => ⟨τ, M1, B1, _, h1, w1, s.mono e1, fun v2 t2 M2 B2 H2 h2 w2 e2 r2 => ?_⟩⟩
  exact k _ _ M2 B2 H2 h2 w2 (e1.trans e2) (.cons (Rt.mono e2 r1) r2)
/-- how keywords alone bind: the values by g in the parameters' order -/
structure KB (K : PySem.W.Frag) (fd : FuncData) (ps ks : List Str) (g : {α : Type} → List α → List α) : Prop where
  to : ∀ (s : Shared) (ws : List Value), K.In s.heap → ws.length = ks.length → BindsTo s fd ⟨[], ks.zip ws⟩ (ps.zip (g ws))
  rel : ∀ {α β : Type} (R : α → β → Prop) {zs : List α} {ws : List β}, zs.length = ks.length → Paired R zs ws → Paired R (g zs) (g ws)
def mCallK (g : {α : Type} → List α → List α) (n : Nat) (f : FA) (r : Ma) : Me := fun τ M Q => r τ M fun ts M1 => ts.length = n ∧ f (g ts) M1 Q
theorem me_callK {g : {α : Type} → List α → List α} (F : FnG X.prog X.w X.K X.mg X.base k f fd ps (spM X.K m)) (gd : Gd X.A) (rm : Room k X.A) (hg : Gl X x) (hm : X.mg x = some (.ref f)) (hk : PySem.W.keepIn X.K (.ref f) = true) (hb : KB X.K fd ps ks g)
    (ha : MK X kws mr) (hall : (backToKw pos (keywordEach kws X.env)).all (·.1.isSome) = true := by rfl) (hks : (backToKw pos (keywordEach kws X.env)).filterMap (·.1) = ks := by rfl) (hdb : (x == ("__debug__" : Str)) = false := by decide)
    (hpl : ((backTo pos (starEach [] X.env)).any (·.1) || (backToKw pos (keywordEach kws X.env)).any (·.1.isNone)) = false := by rfl) :
    ME X (.Call (.Name x p) [] kws pos) (mCallK g ks.length (fDef m) mr) := by
  refine ⟨fun pn sh sg hp Q' iv ⟨τ, M, B, Q, h, w, s, kk⟩ => wpAny_Call_Name_kw (ld_glob iv hg hm ?_ hdb)⟩
  let P := fun (vs : List V) (H1 : Hp) => vs.length = ks.length ∧ spM X.K m (g vs) H1 Q' E0
  refine PySem.W.callWith_KW0 (h₀ := X.base) iv.ok.mod.kin hk hall (thn (ha.run pos pn sh sg hp P iv ⟨τ, M, B, _, h, w, s, fun vs ts M1 B1 H1 h1 w1 e1 r1 => ?_⟩) fun us s1 ⟨vs, H1, i1, r, l, q⟩ => ⟨i1.kIn, ?_⟩) hpl
  · have l1 : vs.length = ks.length := (paired_len r1).trans h1.1
    exact ⟨l1, sp_of h1.2 w1 (hb.rel _ l1 r1) fun v t M2 B2 H2 h2 w2 e2 r2 => kk v t M2 B2 H2 h2 w2 (e1.trans e2) r2⟩
  · rw [hks]
    have l2 : us.length = ks.length := by
      rw [← r.length]
      exact l
    exact run_g (args := ⟨[], ks.zip us⟩) F gd rm (hb.to s1 us i1.kIn l2) i1 (hb.rel _ l r) q
end
end L3
set_option Elab.async false
set_option linter.all false
set_option maxRecDepth 100000
namespace L3
open PySem PySem.Spec L2
structure OkShow (x : PyData) : Prop where
  sh : x.showable = true
  nd : x.hasDict = false
  dp : x.depth ≤ 100
  ln : x.shown.length ≤ sizeLine
def fRepr : FA := fun ts M Q => match ts with
  | [t] => (match now t M with
    | some x => OkShow x ∧ Q (.str x.shown) M
    | none => False)
  | _ => False
theorem head_core {P : Program} {w : World} {K : PySem.W.Frag} {mg mb : Str → Option Value} {k : Nat} {fa a : Addr} {fd : FuncData} {x : Str} {sp : Sp} {s1 : Shared} {vs : List Value} {H : Hp}
    (kin : K.In s1.heap) (ns : s1.heap.Ns mainGlobals mg) (nb : s1.heap.Ns builtinsNs mb) (bb : ∀ x : Str, x ≠ "__name__" → mb x = bootBuiltins x) (lim : s1.heap.NoLimit) (gens : s1.gens = #[])
    (ha : s1.heap.get? a = some { cls := .type "list", data := .seq vs.toArray }) (rm : Room k callerA)
    (F : ∀ base : Heap, K.In base → base.Ns mainGlobals mg → FnG P w K mg base k fa fd [x] sp) (bnd : ∀ (s : Shared) (u : Value), BindsTo s fd ⟨[u], []⟩ [(x, u)])
    (hO : Only H) (hsp : sp [.ref a] H (fun v _ => v = .bl true) fun _ _ _ => False) (hok : HOk P w H s1.heap) (hA : ∀ b, H b ≠ none → b = a) (hK : H a ≠ none → K.lookup a = none) :
    codeAny (model P w) callerA (.call (.ref fa) ⟨[.ref a], []⟩) (fun r s' => r = .ok (.ret (.bool true)) ∧ PySem.OldK s1.heap s'.heap ∧ s'.os = s1.os ∧ PyProof.Rows.AllBare s'.gens) s1 := by
  have untr : ∀ {b : Addr} {o : Obj}, s1.heap.get? b = some o → (∀ u, H b = some u → b = a → False) → (hidT s1.heap H).get? b = some o := fun {b o} e n => by
    refine hidT_get e ?_
    cases z : H b with
    | none => rfl
    | some u => exact (n u z (hA b (by rw [z]; exact fun y => nomatch y))).elim
  have nsK : ∀ {b : Addr} {m : Str → Option Value}, s1.heap.Ns b m → (hidT s1.heap H).Ns b m := by
    rintro b m ⟨o, es, ep, e, d, r⟩
    refine ⟨o, es, ep, untr e fun u _ z => ?_, d, r⟩
    subst z
    rw [ha] at e
    cases e
    exact nomatch (show Data.seq vs.toArray _ = Data.dict es ep from d)
  have kinb : K.In (hidT s1.heap H) := fun b o e => untr (kin b o e) fun u z y => by
    subst y
    rw [hK (by rw [z]; exact fun y => nomatch y)] at e
    cases e
  obtain ⟨mc, l1, l2⟩ := lim
  have md : Mod K mg (hidT s1.heap H) := ⟨kinb, nsK ns, ⟨mb, nsK nb, bb⟩, ⟨mc, nsK l1, l2⟩⟩
  have e0 : Env0 P w K mg (hidT s1.heap H) callerA [] s1 H := by
    refine ⟨rfl, md, fun b o e => of_hidT e, Nat.le_of_eq (hidT_size _ _), trivial, fun b z => ?_, hok, .of_eq gens⟩
    cases (show b ∈ ([] : List Addr) from z)
  refine codeAny_mono ((F _ kinb (nsK ns)).run callerA [] s1 H ⟨[.ref a], []⟩ [.ref a] [.ref a] _ _ rfl rm e0 (bnd s1 (.ref a)) (.cons rfl .nil) hsp) fun r s' h => ?_
  cases r with
  | error e => exact False.elim h
  | ok fl =>
    cases fl with
    | next => exact h.elim
    | brk => exact h.elim
    | cont => exact h.elim
    | ret u =>
      obtain ⟨v, H', os, bare, un, hok', r', q⟩ := h
      obtain rfl : v = .bl true := q
      obtain rfl : u = Value.bool true := r'
      refine ⟨rfl, PySem.OldK.of_keep fun b o e => ?_, os, bare⟩
      cases q : H b with
      | none =>
        refine un.keep b o e q (fun z => ?_) (fun z => ?_)
        · cases (show b ∈ ([] : List Addr) from z)
        · cases z
      | some u =>
        rcases hO b with z | ⟨ob, xs, z⟩
        · rw [q] at z; cases z
        · obtain ⟨e1, _⟩ := hok b _ z
          obtain ⟨e2, _⟩ := hok' b _ (un.frzs b ob _ z)
          rw [e] at e1
          cases e1
          exact e2
theorem head_call {P : Program} {w : World} {K : PySem.W.Frag} {mg mb : Str → Option Value} {k : Nat} {fa a : Addr} {fd : FuncData} {x : Str} {sp : Sp} {s1 : Shared} {vs : List Value} {ns : List Int}
    (kin : K.In s1.heap) (hns : s1.heap.Ns mainGlobals mg) (nb : s1.heap.Ns builtinsNs mb) (bb : ∀ x : Str, x ≠ "__name__" → mb x = bootBuiltins x) (lim : s1.heap.NoLimit) (gens : s1.gens = #[])
    (ha : s1.heap.get? a = some { cls := .type "list", data := .seq vs.toArray }) (hi : PyProof.Rows.IntsAre vs ns) (hl : ns.length ≤ sizeLine) (rm : Room k callerA)
    (F : ∀ base : Heap, K.In base → base.Ns mainGlobals mg → FnG P w K mg base k fa fd [x] sp) (bnd : ∀ (s : Shared) (u : Value), BindsTo s fd ⟨[u], []⟩ [(x, u)])
    (hsp : ∀ H : Hp, Only H → SqL K H a (ns.map V.int) → sp [.ref a] H (fun v _ => v = .bl true) fun _ _ _ => False) :
    codeAny (model P w) callerA (.call (.ref fa) ⟨[.ref a], []⟩) (fun r s' => r = .ok (.ret (.bool true)) ∧ PySem.OldK s1.heap s'.heap ∧ s'.os = s1.os ∧ PyProof.Rows.AllBare s'.gens) s1 := by
  have rv := vals_ints hi
  have hlen := hi.length
  cases hk : K.lookup a with
  | some o =>
    have e := kin a o hk
    rw [ha] at e
    cases e
    have hO : Only (fun _ => none) := fun _ => .inl rfl
    refine head_core kin hns nb bb lim gens ha rm F bnd hO (hsp _ hO (.inr ⟨_, vs.toArray, _, hk, rfl, rfl, rfl, ?_, ?_⟩)) (fun b u z => nomatch z) (fun b z => absurd rfl z) fun z => absurd rfl z
    · rw [List.size_toArray, hlen]
      exact hl
    · simpa using rv
  | none =>
    let H : Hp := fun b => if b = a then some (.frz { cls := .type "list", data := .seq vs.toArray } (.lst (ns.map V.int))) else none
    have hH : ∀ b u, H b = some u → b = a ∧ u = .frz { cls := .type "list", data := .seq vs.toArray } (.lst (ns.map V.int)) := fun b u z => by
      by_cases y : b = a
      · exact ⟨y, (Option.some.inj ((if_pos y).symm.trans z)).symm⟩
      · cases (if_neg y).symm.trans z
    have hO : Only H := fun b => by
      by_cases y : b = a
      · exact .inr ⟨_, _, if_pos y⟩
      · exact .inl (if_neg y)
    refine head_core kin hns nb bb lim gens ha rm F bnd hO (hsp H hO (.inl (.inr ⟨_, if_pos rfl⟩))) (fun b u z => ?_) (fun b z => ?_) fun _ => hk
    · obtain ⟨rfl, rfl⟩ := hH b u z
      exact ⟨ha, by rw [List.length_map]; exact hl, vs, _, rv, ha⟩
    · cases y : H b with
      | none => exact absurd y z
      | some u => exact (hH b u y).1
/-- THE END: the law's promise over trees -/
theorem walkG {l : PySem.W.OpenLaw} {n k : Nat} {q : Program} {loose : List Str} {XP : (Str → Option Value) → Heap → Prop} {YP : World → Heap → Prop} {d : DefRec} {K : Params → PySem.W.Frag} {m : FD} {x : Str}
    (hn : l.most = some n) (hn2 : n ≤ sizeLine) (hdf : d.params.defaults = []) (rm : Room k callerA) (hY : ∀ (w : World) (h : Heap), YP w h → (K w.params).In h)
    (F : ∀ (w : World) (mg : Str → Option Value) (fa : Addr) (h : Heap), (K w.params).In h → h.Ns mainGlobals mg → mg d.name = some (.ref fa) →
      ∃ fd : FuncData, (∀ (s : Shared) (u : Value), BindsTo s fd ⟨[u], []⟩ [(x, u)]) ∧ ∀ base : Heap, (K w.params).In base → base.Ns mainGlobals mg → FnG l.prog w (K w.params) mg base k fa fd [x] (spM (K w.params) m))
    (law : ∀ ns : List Int, ns.length ≤ n → m [.scr ns] [] fun t _ => t = T.bl true) :
    PySem.W.WalkO q loose XP YP l.row.toRowW d [] (fun f vs => PySem.call f vs) := by
  refine Att.attach_call hn hdf fun w s₀ s1 mg mb fa o pm cd doc a vs ns G Y ho hd hcd hmg hobj hints hlen hg => ?_
  obtain ⟨fd, hb, hF⟩ := F w mg fa _ (hY w _ Y) G.T.g hmg
  refine head_call (hY w _ Y) G.T.g G.T.b G.T.builtins G.T.nolimit hg hobj hints (Nat.le_trans hlen hn2) rm hF hb fun H hO hS => ?_
  refine ⟨[.scr ns], [], ⟨H, [], []⟩, _, law ns hlen, ⟨fun _ _ z => z, rfl, rfl, List.nodup_nil, fun i a c z => ?_, fun i a c z => ?_, fun a z => ?_⟩, .cons ⟨a, rfl, hS⟩ .nil, fun v t D' B' H' z w' e' r' => ?_⟩
  · simp at z
  · simp at z
  · cases z
  · subst z
    cases r'
    rfl
end L3
set_option Elab.async false
set_option linter.all false
set_option maxRecDepth 100000
namespace L3
open PySem PySem.Spec L2
def Kn (P : Program) (w : World) (K : PySem.W.Frag) (mg : Str → Option Value) (base : Heap) (k : Nat) (x : Str) (st : Stmt) (ps : List Str) (m : FD) : Prop :=
  ∃ f fd, FnG P w K mg base k f fd ps (spM K m) ∧ mg x = some (.ref f) ∧ Fun K x x st f fd ∧ Binds K fd ps []
section
variable {X : Cx} {j k : Nat} {x : Str} {st : Stmt} {ps ks : List Str} {m : FD} {p pos : Pos} {e : Expr} {es : List Expr} {mr : Ma} {kws : List Keyword}
theorem me_fn (h : Kn X.prog X.w X.K X.mg X.base j x st ps m) (gd : Gd X.A) (rm : Room k X.A) (hj : j ≤ k) (hg : Gl X x) (ha : MA X (e :: es) mr) (hdb : (x == ("__debug__" : Str)) = false := by decide)
    (he : starEach (e :: es) X.env = (false, eval e X.env) :: starEach es X.env := by rfl) (hpl : (backTo pos (starEach es X.env)).any (·.1) = false := by rfl) : ME X (.Call (.Name x p) (e :: es) [] pos) (mCall (fDef m) mr) :=
  let ⟨_, _, F, hm, U, hb⟩ := h
  me_call F gd (rm.mono hj) hg hm U.kp hb ha hdb he hpl
theorem me_fn0 (h : Kn X.prog X.w X.K X.mg X.base j x st ps m) (gd : Gd X.A) (rm : Room k X.A) (hj : j ≤ k) (hg : Gl X x) (hdb : (x == ("__debug__" : Str)) = false := by decide) : ME X (.Call (.Name x p) [] [] pos) (mCall (fDef m) aNil) :=
  let ⟨_, _, F, hm, U, hb⟩ := h
  me_call0 F gd (rm.mono hj) hg hm U.kp hb hdb
theorem me_fnK {g : {α : Type} → List α → List α} (h : Kn X.prog X.w X.K X.mg X.base j x st ps m) (gd : Gd X.A) (rm : Room k X.A) (hj : j ≤ k) (hg : Gl X x) (hb : ∀ f fd, Fun X.K x x st f fd → KB X.K fd ps ks g)
    (ha : MK X kws mr) (hall : (backToKw pos (keywordEach kws X.env)).all (·.1.isSome) = true := by rfl) (hks : (backToKw pos (keywordEach kws X.env)).filterMap (·.1) = ks := by rfl) (hdb : (x == ("__debug__" : Str)) = false := by decide)
    (hpl : ((backTo pos (starEach [] X.env)).any (·.1) || (backToKw pos (keywordEach kws X.env)).any (·.1.isNone)) = false := by rfl) : ME X (.Call (.Name x p) [] kws pos) (mCallK g ks.length (fDef m) mr) :=
  let ⟨_, _, F, hm, U, _⟩ := h
  me_callK F gd (rm.mono hj) hg hm U.kp (hb _ _ U) ha hall hks hdb hpl
end
theorem kb_of {K : PySem.W.Frag} {x qual : Str} {st : Stmt} {f : Addr} {fd : FuncData} {ps ks : List Str} {g : {α : Type} → List α → List α} (F : Fun K x qual st f fd)
    (h : ∀ (kV doc pm : Value) (an : Option Addr) (cdv ct : Value) (ws : List Value), ws.length = ks.length → bindArgs (PySem.W.fnOf x qual (defArgs st) (defBody st) (defScope st) .none kV doc pm an cdv ct) ⟨[], ks.zip ws⟩ = pure (ps.zip (g ws)))
    (rel : ∀ {α β : Type} (R : α → β → Prop) {zs : List α} {ws : List β}, zs.length = ks.length → Paired R zs ws → Paired R (g zs) (g ws)) : KB K fd ps ks g := by
  obtain ⟨oc, od, kV, doc, pm, an, cdv, ct, osl, rfl, lk, hcd⟩ := F.ex
  exact ⟨fun s ws _ hl => .of_eq (h kV doc pm an cdv ct ws hl), rel⟩
def CDv (i j : Int) : Prop := 0 < j ∧ j < 18446744073709551616
theorem CDv.wide {i j : Int} (h : CDv i j) : CDivW i j := by
  refine ⟨h.1, ?_⟩
  have h2 : j.natAbs < 2 ^ 64 := by have := h.2; have := h.1; omega
  have h3 : j.natAbs ≠ 0 := by have := h.1; omega
  have h4 : j.natAbs.log2 < 64 := (Nat.log2_lt h3).mpr h2
  omega
section
variable {X : Cx} {a b c e : Expr} {ma mb m : Me} {pos : Pos}
def oSub : F2 := oI (fun _ _ => True) fun i j => .int (i - j)
def oDiv : F2 := oI CDv fun i j => .int (i / j)
def oMod : F2 := oI (fun _ j => 0 < j) fun i j => .int (i % j)
def oPow : F2 := oI CPow fun i j => .int (i ^ j.toNat)
def oShl : F2 := oI CPow fun i j => .int (i * 2 ^ j.toNat)
def oAnd : F2 := oI (fun _ _ => True) fun i j => .int (Builtin.bitAnd i j)
def oLt : F2 := oI (fun _ _ => True) fun i j => .bool (decide (i < j))
def oLe : F2 := oI (fun _ _ => True) fun i j => .bool (decide (i ≤ j))
def oGt : F2 := oI (fun _ _ => True) fun i j => .bool (decide (j < i))
def oGe : F2 := oI (fun _ _ => True) fun i j => .bool (decide (j ≤ i))
theorem me_add (ha : ME X a ma) (hb : ME X b mb) : ME X (.BinOp a .Add b pos) (mOp oAdd ma mb) := me_op opr_add opl_add ha hb
theorem me_sub (ha : ME X a ma) (hb : ME X b mb) : ME X (.BinOp a .Sub b pos) (mOp oSub ma mb) := me_op op_sub (opl_I0 fun _ _ _ => .int _) ha hb
theorem me_mul (ha : ME X a ma) (hb : ME X b mb) : ME X (.BinOp a .Mult b pos) (mOp oMul ma mb) := me_op opr_mul opl_mul ha hb
theorem opr_div : OpR X (binaryOp .FloorDiv) (L2.rI CDv fun i j => .int (i / j)) := by
  intro pn sh sg hp x y v u Q iv rx ry ⟨i, j, e1, e2, c, q⟩
  exact op_fdivW pn sh sg hp x y v u Q iv rx ry ⟨i, j, e1, e2, c.wide, q⟩
theorem me_div (ha : ME X a ma) (hb : ME X b mb) : ME X (.BinOp a .FloorDiv b pos) (mOp oDiv ma mb) := me_op opr_div (opl_I fun _ _ _ => .int _) ha hb
theorem me_mod (ha : ME X a ma) (hb : ME X b mb) : ME X (.BinOp a .Mod b pos) (mOp oMod ma mb) := me_op op_mod (opl_I fun _ _ _ => .int _) ha hb
theorem me_pow (ha : ME X a ma) (hb : ME X b mb) : ME X (.BinOp a .Pow b pos) (mOp oPow ma mb) := me_op op_pow (opl_I fun _ _ _ => .int _) ha hb
theorem me_eq {k : Nat} (rm : Room k X.A) (ha : ME X a ma) (hb : ME X b mb) : ME X (.Compare a [.Eq] [b] pos) (mOp (oEq false) ma mb) := me_cmp (opr_eq rm.units) opl_eq ha hb (nomark _)
theorem mb_lt (ha : ME X a ma) (hb : ME X b mb) : MB X (.Compare a [.Lt] [b] pos) (mTest (mOp oLt ma mb)) := mb_cmp op_lt (opl_I0 fun _ _ _ => .bl _) ha hb (nomark _)
theorem mb_gt (ha : ME X a ma) (hb : ME X b mb) : MB X (.Compare a [.Gt] [b] pos) (mTest (mOp oGt ma mb)) := mb_cmp op_gt (opl_I0 fun _ _ _ => .bl _) ha hb (nomark _)
theorem mb_ge (ha : ME X a ma) (hb : ME X b mb) : MB X (.Compare a [.GtE] [b] pos) (mTest (mOp oGe ma mb)) := mb_cmp op_ge (opl_I0 fun _ _ _ => .bl _) ha hb (nomark _)
theorem mb_eq {k : Nat} (rm : Room k X.A) (ha : ME X a ma) (hb : ME X b mb) : MB X (.Compare a [.Eq] [b] pos) (mTest (mOp (oEq false) ma mb)) := mb_cmp (opr_eq rm.units) opl_eq ha hb (nomark _)
theorem mb_ne {k : Nat} (rm : Room k X.A) (ha : ME X a ma) (hb : ME X b mb) : MB X (.Compare a [.NotEq] [b] pos) (mTest (mOp (oEq true) ma mb)) := mb_cmp (opr_ne rm.units) opl_ne ha hb (nomark _)
theorem me_append {mo : Me} {mr : Ma} {o x : Expr} {apos cpos : Pos} (ho : ME X o mo) (ha : MA X [x] mr) (hbase : attributeBase o "append" X.env (eval o X.env) = eval o X.env := by rfl)
    (hfew : ((backTo cpos (starEach [x] X.env)).all (fun x => !x.1) && (backToKw cpos (keywordEach [] X.env)).all (fun x => x.1.isSome) && decide (([x] : List Expr).length + ([] : List Keyword).length + (if ([] : List Keyword).isEmpty then 0 else 1) < 30)) = true := by rfl)
    (hline : (apos.endLine == cpos.line) = true := by rfl) (hs : starEach [x] X.env = (false, eval x X.env) :: starEach [] X.env := by rfl) : ME X (.Call (.Attribute o "append" apos) [x] [] cpos) (mMeth fApp mo mr) :=
  me_lm PySem.F.plainAttrs_list PySem.F.slot_list_append PySem.F.type_list_append mt_append mel_app ho ha hbase hfew hline hs rfl
theorem me_pop {mo : Me} {o : Expr} {apos cpos : Pos} (ho : ME X o mo) (hbase : attributeBase o "pop" X.env (eval o X.env) = eval o X.env := by rfl) (hline : (apos.endLine == cpos.line) = true := by rfl) : ME X (.Call (.Attribute o "pop" apos) [] [] cpos) (mMeth0 fPop mo) :=
  me_lm0 PySem.F.plainAttrs_list PySem.F.slot_list_pop PySem.F.type_list_pop mt_pop mel_pop ho hbase hline
end
section
variable {X : Cx} {e : Expr} {es : List Expr} {mr : Ma} {p pos : Pos}
theorem me_len (hg : Gl X "len") (hm : X.mg "len" = none) (ha : MA X (e :: es) mr) (he : starEach (e :: es) X.env = (false, eval e X.env) :: starEach es X.env := by rfl) (hpl : (backTo pos (starEach es X.env)).any (·.1) = false := by rfl) : ME X (.Call (.Name "len" p) (e :: es) [] pos) (mCall fLen mr) := me_callB cr_len cal_len hg hm (by decide +kernel) ha (by decide) (by decide) he hpl
theorem me_max (hc : X.calm = true) (hg : Gl X "max") (hm : X.mg "max" = none) (ha : MA X (e :: es) mr) (he : starEach (e :: es) X.env = (false, eval e X.env) :: starEach es X.env := by rfl) (hpl : (backTo pos (starEach es X.env)).any (·.1) = false := by rfl) : ME X (.Call (.Name "max" p) (e :: es) [] pos) (mCall fMax mr) := me_callB (crl_max hc) cal_max hg hm (by decide +kernel) ha (by decide) (by decide) he hpl
theorem me_min (hc : X.calm = true) (hg : Gl X "min") (hm : X.mg "min" = none) (ha : MA X (e :: es) mr) (he : starEach (e :: es) X.env = (false, eval e X.env) :: starEach es X.env := by rfl) (hpl : (backTo pos (starEach es X.env)).any (·.1) = false := by rfl) : ME X (.Call (.Name "min" p) (e :: es) [] pos) (mCall fMin mr) := me_callB (crl_min hc) cal_min hg hm (by decide +kernel) ha (by decide) (by decide) he hpl
theorem me_tuple (hg : Gl X "tuple") (hm : X.mg "tuple" = none) (ha : MA X (e :: es) mr) (he : starEach (e :: es) X.env = (false, eval e X.env) :: starEach es X.env := by rfl) (hpl : (backTo pos (starEach es X.env)).any (·.1) = false := by rfl) : ME X (.Call (.Name "tuple" p) (e :: es) [] pos) (mCall fTuple mr) := me_callTy call_tupleC cal_tuple hg hm (by decide +kernel) ha (by decide) (by decide) he hpl
theorem me_listL (hg : Gl X "list") (hm : X.mg "list" = none) (ha : MA X (e :: es) mr) (he : starEach (e :: es) X.env = (false, eval e X.env) :: starEach es X.env := by rfl) (hpl : (backTo pos (starEach es X.env)).any (·.1) = false := by rfl) : ME X (.Call (.Name "list" p) (e :: es) [] pos) (mCall fListL mr) := me_callTy call_list_of cal_listL hg hm (by decide +kernel) ha (by decide) (by decide) he hpl
theorem me_inti (hg : Gl X "int") (hm : X.mg "int" = none) (ha : MA X (e :: es) mr) (he : starEach (e :: es) X.env = (false, eval e X.env) :: starEach es X.env := by rfl) (hpl : (backTo pos (starEach es X.env)).any (·.1) = false := by rfl) : ME X (.Call (.Name "int" p) (e :: es) [] pos) (mCall fInt mr) := me_callTy call_int1 cal_int hg hm (by decide +kernel) ha (by decide) (by decide) he hpl
end
end L3
set_option Elab.async false
set_option linter.all false
set_option maxRecDepth 100000
namespace L3
open PySem PySem.Spec L2
theorem upd_id {H : Hp} {p : Addr} {o : HO} (h : H p = some o) : upd H p o = H := by
  funext b
  unfold upd
  by_cases z : b = p
  · rw [if_pos z, z, h]
  · rw [if_neg z]
theorem RpA.paired {K : PySem.W.Frag} {B : Bk} : ∀ {vs : List V} {ds : List PyData}, RpA K B.G vs ds → Paired (Rt K B) vs (ds.map T.d)
  | _, _, .nil => .nil
  | _, _, .cons p q => .cons p (RpA.paired q)
def mLcD (i : Mi) (g : Mg) (c : Mb) (m : Me) (vs : List Nat) : Me := fun τ M Q => i τ M fun ts M1 => goLc g c m (wipeT τ vs) (fun acc M2 => Q (.mr M2.D.length) { M2 with D := M2.D ++ [.lst (acc.map T.d)] }) ts [] M1
section
variable {m : Me}
theorem lc_ofD {K : PySem.W.Frag} {i : Mi} {g : Mg} {os : List Nat} {mc : Mb} {vs0 : List Nat} {σ : L2.St} {H : Hp} {Q' : VK} (sub : ∀ j ∈ os, j ∈ vs0) (h : rE K (mLcD i g mc m vs0) σ H Q') : tLc (rI K i) (rG K os g) (rB K mc) (rE K m) vs0 σ H Q' := by
  obtain ⟨τ, M, B, Q, h, w, sl, k⟩ := h
  refine lc_gen sub h w sl fun D acc vs M2 B2 H2 h2 hD w2 e2 d2 r2 g2 n2 l2 => ?_
  have w3 := w2.adoptR g2 n2 l2 (o := .lst vs) (c := .lst (acc.map T.d)) fun H' eH => ⟨vs, eH, RpA.paired r2⟩
  rw [upd_id d2] at w3
  refine k _ _ _ _ H2 h2 w3 ⟨e2.g, e2.r.trans (List.prefix_append _ _), e2.l, e2.fr, e2.tr, fun a z => ?_, e2.ln, e2.gf⟩ ⟨D, rfl, by rw [← w2.rlen]; exact get_snoc⟩
  rcases List.mem_append.mp z with y | y
  · exact e2.rn a y
  · rw [List.mem_singleton] at y
    rw [y]
    exact .inr hD
end
section
variable {X : Cx} {e tg : Expr} {m : Me} {pos : Pos} {elt : Expr} {ifs : List Expr} {scope : Scope} {own : List (Str × Nat)} {i : Mi} {g : Mg} {os : List Nat} {mc : Mb} {n : Nat} {y : Str} {py spos : Pos}
theorem ms_setLcD (hc : X.calm = true) (hN : X.N.Nodup) (hy : X.N[n]? = some y) (hyl : X.env.scope.names.lookup y = some .local)
    (hsw : swapsWith (.ListComp elt [⟨tg, e, ifs, 0⟩] scope pos) (some (.Name y py)) spos.line X.env = pure true) (hi : MI X tg e i) (ok : BlkOk X.N X.env.scope scope own)
    (hg : ∀ (s : Shared) (H : Hp) (C : Addr) (cl : List (Str × Addr)) (fp : List Addr), MG (X.blk s H scope (compEnvC scope cl C X.env) fp) tg os g) (ht : ∀ (s : Shared) (H : Hp) (C : Addr) (cl : List (Str × Addr)) (fp : List Addr), MTs (X.blk s H scope (compEnvC scope cl C X.env) fp) ifs mc)
    (he : ∀ (s : Shared) (H : Hp) (C : Addr) (cl : List (Str × Addr)) (fp : List Addr), ME (X.blk s H scope (compEnvC scope cl C X.env) fp) elt m) (sub : ∀ j ∈ os, j ∈ own.map (·.2)) (hs : ∀ x, foldedSetIterable e X.env x = pure x := by intro _; rfl) :
    MS X (.Assign [.Name y py] (.ListComp elt [⟨tg, e, ifs, 0⟩] scope pos) spos) (mSet n (mLcD i g mc m (own.map (·.2)))) := PS.of (L2.ps_setLc (te := rE X.K m) (tt := rB X.K mc) (g := rG X.K os g) hc hN hy hyl hsw hi ok hg ht he hs) fun D σ H ⟨E, τ, M, B, h, w, sl, go⟩ =>
  lc_ofD sub ⟨τ, M, B, _, h, w, sl, fun v t M1 B1 H1 h1 w1 e1 r1 => go.nx _ M1 B1 _ H1 h1 w1 e1 ((sl.mono e1).set n r1)⟩
/-- swapsWith of a name = [..] on one line -/
theorem swT {gs : List Comprehension} {l : Nat} (hk : X.env.scope.kind = .function) (hy : X.env.scope.names.lookup y = some .local) (hl : (py.line == pos.line) = true)
    (ha : (scope.names.any fun (n, k) => n == y && (k == .local || k == .cell)) = false) : swapsWith (.ListComp elt gs scope pos) (some (.Name y py)) l X.env = pure true := sw_true hk hy hl ha
/-- a list display of the deck, of whatever stands in the deck -/
def mNewD (r : Ma) : Me := fun τ M Q => r τ M fun ts M1 => ((∀ t ∈ ts, noL t = true) ∧ ts.length ≤ sizeLine) ∧ Q (.mr M1.D.length) { M1 with D := M1.D ++ [.lst ts] }
theorem me_newD {es : List Expr} {mr : Ma} (h : MA X es mr) : ME X (.List es pos) (mNewD mr) := PE.of (pe_lst h) fun σ H Q' ⟨τ, M, B, Q, h, w, s, k⟩ => by
  refine ⟨τ, M, B, _, h, w, s, fun v t M1 B1 H1 h1 w1 e1 r1 => ?_⟩
  obtain ⟨⟨hno, hz⟩, q⟩ := h1
  refine ⟨by rw [paired_len r1]; exact hz, fun p hp => ?_⟩
  obtain ⟨w2, e2⟩ := w1.newD hp (o := .lst v) (c := .lst t) fun H' eH => ⟨v, eH, Paired.imp (fun _ _ q => Rt.mono' (B := { B1 with l := [] }) (B' := { B1 with r := B1.r ++ [p], l := [] }) (fun _ _ e => e) (List.prefix_append _ _) (List.prefix_refl _) q) (paired_deck r1 hno)⟩
  exact k _ _ _ _ _ q w2 (e1.trans e2) ⟨p, rfl, by rw [← w1.rlen]; exact get_snoc⟩
end
end L3
set_option Elab.async false
set_option linter.all false
set_option maxRecDepth 100000
namespace L3
open PySem PySem.Spec L2
section
variable {τ : En} {M : Mem} {Q : Kt} {E : Es} {x y : T} {f g : F2} {m r o : Me} {i j n : Nat} {D : List Cell} {L : List (Option (List PyData))}
@[simp] theorem x_var : mVar i τ M Q = ∃ t, τ[i]? = some (some t) ∧ Q t M := rfl
@[simp] theorem x_c {d : PyData} : mC d τ M Q = Q (.d d) M := rfl
@[simp] theorem x_op : mOp f m r τ M Q = m τ M fun x M1 => r τ M1 fun y M2 => f x y M2 Q := rfl
@[simp] theorem x_un {f : F1} : mUn f m τ M Q = m τ M fun x M1 => f x M1 Q := rfl
@[simp] theorem x_neg {i : Int} : oNeg (.d (.int i)) M Q = Q (.int (-i)) M := rfl
@[simp] theorem x_add {i j : Int} : oAdd (.d (.int i)) (.d (.int j)) M Q = Q (.int (i + j)) M := rfl
@[simp] theorem x_addl {a b : List PyData} : oAdd (.d (.list a)) (.d (.list b)) M Q = (a.length + b.length ≤ sizeLine ∧ Q (.lst (a ++ b)) M) := rfl
@[simp] theorem x_addt {a b : List PyData} : oAdd (.d (.tuple a)) (.d (.tuple b)) M Q = (a.length + b.length ≤ sizeLine ∧ Q (.tup (a ++ b)) M) := rfl
@[simp] theorem x_sub {i j : Int} : oSub (.d (.int i)) (.d (.int j)) M Q = Q (.int (i - j)) M := by simp [oSub, oI]
@[simp] theorem x_mul {i j : Int} : oMul (.d (.int i)) (.d (.int j)) M Q = (CMul i j ∧ Q (.int (i * j)) M) := rfl
@[simp] theorem x_div {i j : Int} : oDiv (.d (.int i)) (.d (.int j)) M Q = (CDv i j ∧ Q (.int (i / j)) M) := rfl
@[simp] theorem x_mod {i j : Int} : oMod (.d (.int i)) (.d (.int j)) M Q = (0 < j ∧ Q (.int (i % j)) M) := rfl
@[simp] theorem x_pow {i j : Int} : oPow (.d (.int i)) (.d (.int j)) M Q = (CPow i j ∧ Q (.int (i ^ j.toNat)) M) := rfl
@[simp] theorem x_shl {i j : Int} : oShl (.d (.int i)) (.d (.int j)) M Q = (CPow i j ∧ Q (.int (i * 2 ^ j.toNat)) M) := rfl
@[simp] theorem x_and {i j : Int} : oAnd (.d (.int i)) (.d (.int j)) M Q = Q (.int (Builtin.bitAnd i j)) M := by simp [oAnd, oI]
@[simp] theorem x_lt {i j : Int} : oLt (.d (.int i)) (.d (.int j)) M Q = Q (.bl (decide (i < j))) M := by simp [oLt, oI]
@[simp] theorem x_le {i j : Int} : oLe (.d (.int i)) (.d (.int j)) M Q = Q (.bl (decide (i ≤ j))) M := by simp [oLe, oI]
@[simp] theorem x_gt {i j : Int} : oGt (.d (.int i)) (.d (.int j)) M Q = Q (.bl (decide (j < i))) M := by simp [oGt, oI]
@[simp] theorem x_ge {i j : Int} : oGe (.d (.int i)) (.d (.int j)) M Q = Q (.bl (decide (j ≤ i))) M := by simp [oGe, oI]
@[simp] theorem x_now {d : PyData} : now (.d d) M = some d := rfl
theorem x_eq {a b : PyData} {n : Bool} (h1 : now x M = some a) (h2 : now y M = some b) (s1 : SeqAt.shaped a = true) (s2 : SeqAt.shaped b = true) (no : ∀ z, a ≠ .str z) : oEq n x y M Q = Q (.bl (if n then !PyData.eqv a b else PyData.eqv a b)) M := by
  unfold oEq
  split
  · cases h1
    exact absurd rfl (no _)
  · rw [h1, h2]
    simp [s1, s2]
@[simp] theorem x_eqi {i j : Int} {n : Bool} : oEq n (.d (.int i)) (.d (.int j)) M Q = Q (.bl (if n then !decide (i = j) else decide (i = j))) M := by
  rw [x_eq (a := .int i) (b := .int j) rfl rfl rfl rfl fun _ z => nomatch z]
  rfl
@[simp] theorem x_eqs {a b : Str} {n : Bool} : oEq n (.d (.str a)) (.d (.str b)) M Q = Q (.bl (if n then !decide (a = b) else decide (a = b))) M := rfl
@[simp] theorem x_test : mTest m τ M Q' = m τ M fun x M1 => ∃ k, x = .d (.bool k) ∧ Q' k M1 := rfl
@[simp] theorem x_band {t u : Mb} {R : Bool → Mem → Prop} : bAnd t u τ M R = t τ M fun b M1 => if b = true then u τ M1 R else R false M1 := rfl
@[simp] theorem x_bor {t u : Mb} {R : Bool → Mem → Prop} : bOr t u τ M R = t τ M fun b M1 => if b = true then R true M1 else u τ M1 R := rfl
@[simp] theorem x_bnot {t : Mb} {R : Bool → Mem → Prop} : bNot t τ M R = t τ M fun b M1 => R (!b) M1 := rfl
@[simp] theorem x_byes {R : Bool → Mem → Prop} : bYes τ M R = R true M := rfl
@[simp] theorem x_ite {c : Mb} : mIte c m r τ M Q = c τ M fun b M1 => if b = true then m τ M1 Q else r τ M1 Q := rfl
@[simp] theorem x_chain {a b c : Me} : mChain f g a b c τ M Q = a τ M fun a M1 => b τ M1 fun b M2 => f a b M2 fun t M3 => match t with
  | .d (.bool true) => c τ M3 fun c M4 => g b c M4 Q
  | .d (.bool false) => Q (.bl false) M3
  | _ => False := rfl
@[simp] theorem x_mand : mAnd m r τ M Q = m τ M fun t M1 => match t with
  | .d (.bool true) => r τ M1 Q
  | .d (.bool false) => Q (.bl false) M1
  | _ => False := rfl
@[simp] theorem x_mor : mOr m r τ M Q = m τ M fun t M1 => match t with
  | .d (.bool true) => Q (.bl true) M1
  | .d (.bool false) => r τ M1 Q
  | _ => False := rfl
@[simp] theorem x_mnot : mNot m τ M Q = m τ M fun t M1 => match t with
  | .d (.bool b) => Q (.bl (!b)) M1
  | _ => False := rfl
variable {R : List T → Mem → Prop} {a : Ma}
@[simp] theorem x_anil : aNil τ M R = R [] M := rfl
@[simp] theorem x_acons : aCons m a τ M R = m τ M fun x M1 => a τ M1 fun xs M2 => R (x :: xs) M2 := rfl
@[simp] theorem x_dat0 : datas [] = some [] := rfl
@[simp] theorem x_dat1 {d : PyData} {l : List T} : datas (.d d :: l) = (datas l).map (d :: ·) := rfl
@[simp] theorem x_tup : mTup a τ M Q = a τ M fun ts M1 => match datas ts with
  | some ds => ds.length ≤ sizeLine ∧ Q (.tup ds) M1
  | none => False := rfl
@[simp] theorem x_lst : mLst a τ M Q = a τ M fun ts M1 => match datas ts with
  | some ds => ds.length ≤ sizeLine ∧ Q (.lst ds) M1
  | none => False := rfl
@[simp] theorem x_newL : mNewL a τ M Q = a τ M fun ts M1 => match datas ts with
  | some ds => ds.length ≤ sizeLine ∧ Q (.lr M1.L.length) { M1 with L := M1.L ++ [some ds] }
  | none => False := rfl
@[simp] theorem x_frz : mFrz m τ M Q = m τ M fun t M1 => match t with
  | .lr i => (match M1.L[i]? with
    | some (some ds) => Q (.lst ds) { M1 with L := M1.L.set i none }
    | _ => False)
  | t => Q t M1 := rfl
@[simp] theorem x_ixl {l : List PyData} {k : Int} : oIx (.d (.list l)) (.d (.int k)) M Q = ∃ t, atI l k = some t ∧ Q (.d t) M := rfl
@[simp] theorem x_ixt {l : List PyData} {k : Int} : oIx (.d (.tuple l)) (.d (.int k)) M Q = ∃ t, atI l k = some t ∧ Q (.d t) M := rfl
@[simp] theorem x_ixL {k : Int} : oIx (.lr i) (.d (.int k)) M Q = (match M.L[i]? with
    | some (some xs) => ∃ t, atI xs k = some t ∧ Q (.d t) M
    | _ => False) := rfl
@[simp] theorem x_ixD {k : Int} : oIx (.mr i) (.d (.int k)) M Q = (match M.D[i]? with
    | some (.lst ts) => ∃ t, atI ts k = some t ∧ Q t M
    | _ => False) := rfl
@[simp] theorem x_dget {s : Str} : oDGet (.mr i) (.d (.str s)) M Q = (match M.D[i]? with
    | some (.dct kvs) => ∃ t, lookT kvs (.inr s) = some t ∧ Q t M
    | _ => False) := rfl
@[simp] theorem x_sl {lo hi : Mo} : mSl m lo hi τ M Q = m τ M fun x M1 => lo τ M1 fun l M2 => hi τ M2 fun u M3 => oSl x l u M3 Q := rfl
@[simp] theorem x_onone {P : Option Int → Mem → Prop} : oNone τ M P = P none M := rfl
@[simp] theorem x_opart {P : Option Int → Mem → Prop} : oPart m τ M P = m τ M fun t M1 => match t with
  | .d (.int i) => P (some i) M1
  | _ => False := rfl
@[simp] theorem x_slscr {ns : List Int} {lo hi : Option Int} : oSl (.scr ns) lo hi M Q = Q (.lst ((cutT ns lo hi).map .int)) M := rfl
@[simp] theorem x_sltup {ns : List PyData} {lo hi : Option Int} : oSl (.d (.tuple ns)) lo hi M Q = Q (.tup (cutT ns lo hi)) M := rfl
@[simp] theorem x_sllst {ns : List PyData} {lo hi : Option Int} : oSl (.d (.list ns)) lo hi M Q = Q (.lst (cutT ns lo hi)) M := rfl
@[simp] theorem x_call {f : FA} : mCall f a τ M Q = a τ M fun ts M1 => f ts M1 Q := rfl
@[simp] theorem x_callk {g : {α : Type} → List α → List α} {f : FA} : mCallK g n f a τ M Q = a τ M fun ts M1 => ts.length = n ∧ f (g ts) M1 Q := rfl
@[simp] theorem x_def {d : FD} {ts : List T} : fDef d ts M Q = ((∀ t ∈ ts, noL t = true) ∧ d ts M.D fun t D' => Q t { M with D := D' }) := rfl
@[simp] theorem x_noL1 {d : PyData} : noL (.d d) = true := rfl
@[simp] theorem x_noL2 : noL (.mr i) = true := rfl
@[simp] theorem x_noL3 {ns : List Int} : noL (.scr ns) = true := rfl
@[simp] theorem x_int {k : Int} : fInt [.d (.int k)] M Q = Q (.int k) M := rfl
@[simp] theorem x_intb {k : Bool} : fInt [.d (.bool k)] M Q = Q (.int (if k then 1 else 0)) M := rfl
@[simp] theorem x_abs {k : Int} : fAbs [.d (.int k)] M Q = Q (.int (if k < 0 then -k else k)) M := rfl
@[simp] theorem x_max2 {k l : Int} : fMax [.d (.int k), .d (.int l)] M Q = Q (.int (if l > k then l else k)) M := rfl
@[simp] theorem x_min2 {k l : Int} : fMin [.d (.int k), .d (.int l)] M Q = Q (.int (if l < k then l else k)) M := rfl
@[simp] theorem x_lenl {l : List PyData} : fLen [.d (.list l)] M Q = Q (.int l.length) M := rfl
@[simp] theorem x_lent {l : List PyData} : fLen [.d (.tuple l)] M Q = Q (.int l.length) M := rfl
@[simp] theorem x_lens {ns : List Int} : fLen [.scr ns] M Q = Q (.int ns.length) M := by
  show Q (.int ((ns.map PyData.int).length : Nat)) M = _
  rw [List.length_map]
@[simp] theorem x_tupl {l : List PyData} : fTuple [.d (.list l)] M Q = Q (.tup l) M := rfl
@[simp] theorem x_tupt {l : List PyData} : fTuple [.d (.tuple l)] M Q = Q (.tup l) M := rfl
@[simp] theorem x_tupL : fTuple [.lr i] { D := D, L := L } Q = (match L[i]? with
    | some (some xs) => Q (.tup xs) { D := D, L := L }
    | _ => False) := by
  unfold fTuple now
  cases h : L[i]? with
  | none => simp [h]
  | some o => cases o <;> simp [h]
@[simp] theorem x_repr {d : PyData} : fRepr [.d d] M Q = (OkShow d ∧ Q (.str d.shown) M) := rfl
@[simp] theorem x_meth {f : T → FA} : mMeth f m a τ M Q = m τ M fun x M1 => isL x M1 ∧ a τ M1 fun ts M2 => f x ts M2 Q := rfl
@[simp] theorem x_meth0 {f : T → FA} : mMeth0 f m τ M Q = m τ M fun x M1 => isL x M1 ∧ f x [] M1 Q := rfl
@[simp] theorem x_isL : isL (.lr i) M = ∃ ds, M.L[i]? = some (some ds) := rfl
@[simp] theorem x_isD : isL (.mr i) M = ∃ ts, M.D[i]? = some (.lst ts) := rfl
@[simp] theorem x_appL {z : PyData} : fApp (.lr i) [.d z] M Q = (match M.L[i]? with
    | some (some ds) => ds.length < sizeLine ∧ Q .non { M with L := M.L.set i (some (ds ++ [z])) }
    | _ => False) := rfl
@[simp] theorem x_appD {t : T} : fApp (.mr i) [t] M Q = (match M.D[i]? with
    | some (.lst us) => noL t = true ∧ us.length < sizeLine ∧ Q .non { M with D := M.D.set i (.lst (us ++ [t])) }
    | _ => False) := rfl
@[simp] theorem x_popD : fPop (.mr i) [] M Q = (match M.D[i]? with
    | some (.lst us) => ∃ t, us[us.length - 1]? = some t ∧ Q t { M with D := M.D.set i (.lst us.dropLast) }
    | _ => False) := rfl
@[simp] theorem x_popL : fPop (.lr i) [] M Q = (match M.L[i]? with
    | some (some ds) => ∃ z, ds[ds.length - 1]? = some z ∧ Q (.d z) { M with L := M.L.set i (some ds.dropLast) }
    | _ => False) := rfl
variable {s t : Ms}
@[simp] theorem x_next : mNext E τ M = E.nx τ M := rfl
@[simp] theorem x_drop : mDrop m E τ M = m τ M fun _ M1 => E.nx τ M1 := rfl
@[simp] theorem x_ret : mRet m E τ M = m τ M E.rt := rfl
@[simp] theorem x_if {c : Mb} : mIf c s t E τ M = c τ M fun b M1 => if b = true then s E τ M1 else t E τ M1 := rfl
@[simp] theorem x_set : mSet i m E τ M = m τ M fun t M1 => E.nx (τ.set i (some t)) M1 := rfl
@[simp] theorem x_asg {g : Mg} : mAsg m g E τ M = m τ M fun t M1 => g t τ M1 E.nx := rfl
@[simp] theorem x_par : mPar i j a E τ M = a τ M fun ts M1 => match ts with
  | [t, u] => E.nx ((τ.set i (some t)).set j (some u)) M1
  | _ => False := rfl
@[simp] theorem x_dput {d k v : Me} : mDPut d k v E τ M = v τ M fun t M1 => d τ M1 fun x M2 => k τ M2 fun y M3 => match x, keyOf y with
  | .mr i, some kk => (match M3.D[i]? with
    | some (.dct kvs) => noL t = true ∧ kvs.length < sizeLine ∧ E.nx τ { M3 with D := M3.D.set i (.dct (putT kvs kk t)) }
    | _ => False)
  | _, _ => False := rfl
@[simp] theorem x_lput {d k v : Me} : mLPut d k v E τ M = v τ M fun t M1 => d τ M1 fun x M2 => k τ M2 fun y M3 => match x, y, t with
  | .lr i, .d (.int j), .d z => (match M3.L[i]? with
    | some (some ds) => ∃ n, ixN ds.length j = some n ∧ E.nx τ { M3 with L := M3.L.set i (some (ds.set n z)) }
    | _ => False)
  | _, _, _ => False := rfl
@[simp] theorem x_key {s : Str} : keyOf (.d (.str s)) = some (.inr s) := rfl
variable {P : En → Mem → Prop} {mi : Mi} {mg : Mg}
@[simp] theorem x_gn {t : T} : gN i t τ M P = P (τ.set i (some t)) M := rfl
@[simp] theorem x_gtu {r : Mgs} {xs : List PyData} : gTu n r (.d (.tuple xs)) τ M P = (xs.length = n ∧ r xs τ M P) := rfl
@[simp] theorem x_gtw {r : Mgs} {xs : List PyData} : gTu n r (.wt xs) τ M P = (xs.length = n ∧ r xs τ M P) := rfl
@[simp] theorem x_gsn {xs : List PyData} : gsNil xs τ M P = (xs = [] ∧ P τ M) := rfl
@[simp] theorem x_gsc {r : Mgs} {d : PyData} {xs : List PyData} : gsCons mg r (d :: xs) τ M P = mg (.d d) τ M fun τ1 M1 => r xs τ1 M1 P := rfl
@[simp] theorem x_iseq {R : List T → Mem → Prop} : iSeq m τ M R = m τ M fun t M1 => match t with
  | .d (.list xs) => R (xs.map T.d) M1
  | .d (.tuple xs) => R (xs.map T.d) M1
  | .scr ns => R (ns.map T.int) M1
  | _ => False := rfl
@[simp] theorem x_irange {R : List T → Mem → Prop} : iRange a τ M R = a τ M fun ts M1 => match ts with
  | [.d (.int j)] => (-(2 ^ 62) ≤ j ∧ j < 2 ^ 62) ∧ R (rangeT j.toNat) M1
  | _ => False := rfl
theorem w_seq (h : s { E with nx := t E } τ M) : mSeq s t E τ M := h
theorem w_for (h : mi τ M fun ts M1 => goFor mg s E ts τ M1) : mFor mi mg s E τ M := h
theorem w_if {c : Mb} (h : c τ M fun b M1 => if b = true then s E τ M1 else t E τ M1) : mIf c s t E τ M := h
theorem x_forn : goFor mg s E [] τ M = E.nx τ M := rfl
theorem x_forc {t : T} {ts : List T} : goFor mg s E (t :: ts) τ M = mg t τ M fun τ1 M1 => s { E with nx := goFor mg s E ts, ct := goFor mg s E ts, bk := E.nx } τ1 M1 := rfl
theorem x_lc {c : Mb} {vs : List Nat} : mLc mi mg c m vs τ M Q = mi τ M fun ts M1 => goLc mg c m (wipeT τ vs) (fun acc M2 => Q (.lst acc) M2) ts [] M1 := rfl
theorem x_lcc {c : Mb} {τ0 : En} {acc : List PyData} {R : List PyData → Mem → Prop} {t : T} {ts : List T} : goLc mg c m τ0 R (t :: ts) acc M = mg t τ0 M fun τ1 M1 => c τ1 M1 fun k M2 => if k = true then m τ1 M2 fun y M3 => (match y with
      | .d z => acc.length < sizeLine ∧ goLc mg c m τ0 R ts (acc ++ [z]) M3
      | _ => False) else goLc mg c m τ0 R ts acc M2 := by
  rw [goLc] <;> rfl
end
end L3
set_option Elab.async false
set_option linter.all false
set_option maxRecDepth 100000
namespace Sh
open PySem PySem.Spec L2 L3
abbrev b__law_reel_0 : Ms := (mSet 2 (mOp oMod (mCall fInt (aCons (mOp oAdd (mOp oAdd (mOp oMul (mVar 2) (mC (.int 69069))) (mOp oMul (mVar 3) (mC (.int 11)))) (mC (.int 5))) aNil)) (mC (.int 4294967291))))
abbrev b__law_reel_1 : Ms := (mRet (mDisp [("deep", (mVar 4)), ("cells", (mOp oAdd (mVar 1) (mLst (aCons (mOp oAdd (mOp oMul (mC (.int 2)) (mCall fLen (aCons (mVar 1) aNil))) (mC (.int 1))) aNil)))), ("stamp", (mVar 2)), ("count", (mC (.int 0)))]))
abbrev b__law_reel_2 : Ms := (mSeq (mSet 4 (mLcD (iSeq (mVar 1)) (gN 3) (mTest (mOp oGe (mVar 3) (mOp oPow (mC (.int 10)) (mC (.int 18))))) (mVar 3) [3])) b__law_reel_1)
abbrev b__law_reel_3 : Ms := (mSeq (mFor (iSeq (mVar 1)) (gN 3) b__law_reel_0) b__law_reel_2)
abbrev b__law_reel_4 : Ms := (mSeq (mPar 1 2 (aCons (mLc (iSeq (mSl (mVar 0) oNone (oPart (mC (.int 63))))) (gN 3) bYes (mIte (mTest (mOp oGe (mVar 3) (mC (.int 0)))) (mOp oMul (mC (.int 2)) (mVar 3)) (mOp oSub (mOp oMul (mUn oNeg (mC (.int 2))) (mVar 3)) (mC (.int 1)))) [3]) (aCons (mOp oAdd (mCall fLen (aCons (mVar 0) aNil)) (mC (.int 7))) aNil))) b__law_reel_3)
abbrev b__law_reel : Ms := b__law_reel_4
def d__law_reel : FD := mDef 1 5 b__law_reel
abbrev b__law_draw_0 : Ms := (mDrop (mMeth fApp (mVar 2) (aCons (mOp oDiv (mVar 3) (mVar 1)) aNil)))
abbrev b__law_draw_1 : Ms := (mRet (mOp oMod (mCall fInt (aCons (mVar 3) aNil)) (mVar 1)))
abbrev b__law_draw_2 : Ms := (mSeq (mIf (mTest (mOp oGe (mVar 3) (mVar 1))) b__law_draw_0 mNext) b__law_draw_1)
abbrev b__law_draw_3 : Ms := (mSeq (mSet 3 (mMeth0 fPop (mVar 2))) b__law_draw_2)
abbrev b__law_draw_4 : Ms := (mSet 6 (mOp oMod (mCall fInt (aCons (mOp oAdd (mOp oMul (mVar 6) (mVar 6)) (mOp oMul (mOp oDGet (mVar 0) (mC (.str "stamp"))) (mOp oAdd (mVar 4) (mVar 7)))) aNil)) (mC (.int 4294967279))))
abbrev b__law_draw_5 : Ms := (mRet (mOp oMod (mCall fInt (aCons (mOp oDiv (mVar 6) (mC (.int 512))) aNil)) (mVar 1)))
abbrev b__law_draw_6 : Ms := (mSeq (mFor (iRange (aCons (mC (.int 2)) aNil)) (gN 7) b__law_draw_4) b__law_draw_5)
abbrev b__law_draw_7 : Ms := (mSeq (mSet 6 (mOp oMod (mCall fInt (aCons (mOp oAdd (mOp oAdd (mOp oMul (mOp oIx (mVar 5) (mOp oMod (mCall fInt (aCons (mOp oMul (mVar 4) (mC (.int 7))) aNil)) (mCall fLen (aCons (mVar 5) aNil)))) (mC (.int 2246822519))) (mOp oDGet (mVar 0) (mC (.str "stamp")))) (mOp oMul (mVar 4) (mC (.int 3266489917)))) aNil)) (mC (.int 4294967291)))) b__law_draw_6)
abbrev b__law_draw_8 : Ms := (mSeq (mPar 4 5 (aCons (mOp oDGet (mVar 0) (mC (.str "count"))) (aCons (mOp oDGet (mVar 0) (mC (.str "cells"))) aNil))) b__law_draw_7)
abbrev b__law_draw_9 : Ms := (mSeq (mDPut (mVar 0) (mC (.str "count")) (mOp oAdd (mOp oDGet (mVar 0) (mC (.str "count"))) (mC (.int 1)))) b__law_draw_8)
abbrev b__law_draw_10 : Ms := (mSeq (mIf (bAnd (mTest (mOp (oEq true) (mVar 2) (mLst aNil))) (mTest (mOp oGt (mVar 1) (mC (.int 1))))) b__law_draw_3 mNext) b__law_draw_9)
abbrev b__law_draw_11 : Ms := (mSeq (mSet 2 (mOp oDGet (mVar 0) (mC (.str "deep")))) b__law_draw_10)
abbrev b__law_draw : Ms := b__law_draw_11
def d__law_draw : FD := mDef 2 8 b__law_draw
abbrev b__law_pick_0 : Ms := (mRet (mOp oIx (mVar 1) (mCall (fDef d__law_draw) (aCons (mVar 0) (aCons (mCall fLen (aCons (mVar 1) aNil)) aNil)))))
abbrev b__law_pick : Ms := b__law_pick_0
def d__law_pick : FD := mDef 2 2 b__law_pick
abbrev b__law_size_0 : Ms := (mRet (mVar 2))
abbrev b__law_size_1 : Ms := (mRet (mCall fMax (aCons (mC (.int 1)) (aCons (mOp oAdd (mVar 2) (mCall (fDef d__law_pick) (aCons (mVar 0) (aCons (mLst (aCons (mUn oNeg (mC (.int 1))) (aCons (mC (.int 1)) (aCons (mUn oNeg (mC (.int 2))) (aCons (mC (.int 3)) aNil))))) aNil)))) aNil))))
abbrev b__law_size_2 : Ms := (mRet (mOp oAdd (mC (.int 1)) (mCall (fDef d__law_draw) (aCons (mVar 0) (aCons (mC (.int 40)) aNil)))))
abbrev b__law_size_3 : Ms := (mRet (mCall fMin (aCons (mOp oPow (mC (.int 10)) (mC (.int 30))) (aCons (mCall fMax (aCons (mC (.int 1)) (aCons (mOp oAdd (mVar 4) (mVar 5)) aNil))) aNil))))
abbrev b__law_size_4 : Ms := (mSeq (mSet 5 (mCall (fDef d__law_pick) (aCons (mVar 0) (aCons (mLst (aCons (mC (.int 0)) (aCons (mC (.int 0)) (aCons (mUn oNeg (mC (.int 1))) (aCons (mC (.int 1)) (aCons (mOp oDiv (mUn oNeg (mVar 1)) (mC (.int 2))) (aCons (mOp oSub (mC (.int 0)) (mOp oMul (mCall (fDef d__law_draw) (aCons (mVar 0) (aCons (mOp oPow (mC (.int 10)) (mC (.int 6))) aNil))) (mOp oPow (mC (.int 10)) (mC (.int 23))))) aNil))))))) aNil)))) b__law_size_3)
abbrev b__law_size_5 : Ms := (mSeq (mSet 4 (mOp oSub (mOp oPow (mC (.int 10)) (mC (.int 30))) (mOp oMul (mVar 1) (mCall (fDef d__law_draw) (aCons (mVar 0) (aCons (mC (.int 9)) aNil)))))) b__law_size_4)
abbrev b__law_size_6 : Ms := (mSeq (mIf (mTest (mOp oLt (mVar 3) (mC (.int 8)))) b__law_size_2 mNext) b__law_size_5)
abbrev b__law_size_7 : Ms := (mSeq (mIf (mTest (mOp oLt (mVar 3) (mC (.int 6)))) b__law_size_1 mNext) b__law_size_6)
abbrev b__law_size_8 : Ms := (mSeq (mIf (mTest (mOp oLt (mVar 3) (mC (.int 3)))) b__law_size_0 mNext) b__law_size_7)
abbrev b__law_size_9 : Ms := (mSeq (mPar 2 3 (aCons (mOp oMul (mVar 1) (mOp oAdd (mC (.int 1)) (mCall (fDef d__law_draw) (aCons (mVar 0) (aCons (mC (.int 6)) aNil))))) (aCons (mCall (fDef d__law_draw) (aCons (mVar 0) (aCons (mC (.int 9)) aNil))) aNil))) b__law_size_8)
abbrev b__law_size : Ms := b__law_size_9
def d__law_size : FD := mDef 2 6 b__law_size
abbrev b__law_book_0 : Ms := (mLPut (mVar 2) (mVar 3) (mOp oIx (mVar 2) (mOp oSub (mVar 3) (mC (.int 1)))))
abbrev b__law_book_1 : Ms := (mIf (bAnd (mTest (mOp oGt (mVar 3) (mC (.int 0)))) (mTest (mOp (oEq false) (mCall (fDef d__law_draw) (aCons (mVar 0) (aCons (mC (.int 9)) aNil))) (mC (.int 0))))) b__law_book_0 mNext)
abbrev b__law_book_2 : Ms := (mSeq (mDrop (mMeth fApp (mVar 2) (aCons (mTup (aCons (mCall (fDef d__law_size) (aCons (mVar 0) (aCons (mVar 4) aNil))) (aCons (mVar 4) aNil))) aNil))) b__law_book_1)
abbrev b__law_book_3 : Ms := (mSeq (mSet 4 (mCall (fDef d__law_pick) (aCons (mVar 0) (aCons (mLst (aCons (mC (.int 1)) (aCons (mC (.int 1)) (aCons (mC (.int 2)) (aCons (mC (.int 2)) (aCons (mC (.int 4)) (aCons (mC (.int 4)) (aCons (mC (.int 8)) (aCons (mC (.int 16)) (aCons (mC (.int 32)) (aCons (mC (.int 64)) aNil))))))))))) aNil)))) b__law_book_2)
abbrev b__law_book_4 : Ms := (mRet (mCall fTuple (aCons (mVar 2) aNil)))
abbrev b__law_book_5 : Ms := (mSeq (mFor (iRange (aCons (mVar 1) aNil)) (gN 3) b__law_book_3) b__law_book_4)
abbrev b__law_book_6 : Ms := (mSeq (mSet 2 (mNewL aNil)) b__law_book_5)
abbrev b__law_book : Ms := b__law_book_6
def d__law_book : FD := mDef 2 5 b__law_book
end Sh
set_option Elab.async false
set_option linter.all false
set_option maxRecDepth 100000
namespace L3
open PySem PySem.Spec L2
def isNonT : T → Bool
  | .d .none => true
  | .q .non => true
  | _ => false
def oIsN : F2 := fun x y M Q => y = .d .none ∧ Q (.bl (isNonT x)) M
def oNotN : F2 := fun x y M Q => y = .d .none ∧ Q (.bl (!isNonT x)) M
theorem isNonT_rt {K : PySem.W.Frag} {B : Bk} {v : V} {t : T} (h : Rt K B v t) : decide (v = .non) = isNonT t := by
  cases t with
  | d x => cases (show Rp K B.G v x from h) <;> rfl
  | mr i =>
    obtain ⟨a, rfl, _⟩ := h
    rfl
  | lr i =>
    obtain ⟨a, rfl, _⟩ := h
    rfl
  | scr ns =>
    obtain ⟨a, rfl, _⟩ := h
    rfl
  | wt xs =>
    obtain ⟨a, vs, rfl, _⟩ := h
    rfl
  | exo a c d e =>
    obtain ⟨rfl, _⟩ := h
    rfl
  | q x => cases (show Rq K B.G v x from h) <;> rfl
theorem opl_notN {K : PySem.W.Frag} : OpL K (fun x y H Q => y = .non ∧ Q (.bl (!decide (x = .non))) H) oNotN := by
  rintro x y t u M B H Q Q' ⟨rfl, h⟩ w rx ry k
  cases (show Rp K B.G y .none from ry)
  refine ⟨rfl, ?_⟩
  rw [isNonT_rt rx]
  exact k _ _ M B H h w (.refl _ _) (.bl _)
section
variable {X : Cx} {a b : Expr} {ma mb : Me} {pos : Pos}
theorem mb_notN (ha : ME X a ma) (hb : ME X b mb) : MB X (.Compare a [.IsNot] [b] pos) (mTest (mOp oNotN ma mb)) := mb_cmp op_notN opl_notN ha hb (nomark _)
end
@[simp] theorem x_isN {x : T} {M : Mem} {Q : Kt} : oIsN x (.d .none) M Q = Q (.bl (isNonT x)) M := by simp [oIsN]
@[simp] theorem x_notN {x : T} {M : Mem} {Q : Kt} : oNotN x (.d .none) M Q = Q (.bl (!isNonT x)) M := by simp [oNotN]
@[simp] theorem isNonT_n : isNonT (.d .none) = true := rfl
@[simp] theorem isNonT_i {i : Int} : isNonT (.d (.int i)) = false := rfl
@[simp] theorem isNonT_t {l : List PyData} : isNonT (.d (.tuple l)) = false := rfl
@[simp] theorem isNonT_l {l : List PyData} : isNonT (.d (.list l)) = false := rfl
end L3
set_option Elab.async false
set_option linter.all false
set_option maxRecDepth 100000
namespace L3
open PySem PySem.Spec L2
theorem begin_enum1 {v : Value} {o : Obj} {Hh : Heap → Prop} (B : Begins v o Hh) :
    Meets (Builtin.«enumerate.__new__» ⟨[.type "enumerate", v], []⟩) (fun _ R s => Hh s.heap ∧
      R (.ok (.ret (.ref (s.heap.push o).objs.size))) { s with heap := (s.heap.push o).push { cls := .type "enumerate", data := .fields #[.none, .bool false, .ref s.heap.objs.size, rawInt 0, .none, .none] } }) :=
  .of_wp fun prog w A R s hh => by
    obtain ⟨hp, gg, dd, tk, os⟩ := s
    obtain ⟨h1, hr⟩ := hh
    have hsub := sub_enumerate
    have it1 : ∀ {A' : Around} {E : Value → Shared → Prop} {Q : Value → Shared → Prop}, Q (.ref hp.objs.size) ⟨hp.push o, gg, dd, tk, os⟩ → wpAny (model prog w) A' (pyIter v) Q E ⟨hp, gg, dd, tk, os⟩ :=
      fun q => B.iter prog w _ _ ⟨hp, gg, dd, tk, os⟩ _ h1 q
    wp_walk using it1
    refine wpAny_stack_any fun st => wpAny_pure ?_
    split
    · rename_i c _ _ _ _ _
      cases (c == Value.type "enumerate")
      · wp_walk using it1
        exact ⟨_, rfl, hr⟩
      · wp_walk using it1
        exact ⟨_, rfl, hr⟩
    · wp_walk using it1
      exact ⟨_, rfl, hr⟩
inductive Src where
  | l | t
def srcS (K : PySem.W.Frag) (k : Src) (H : Hp) (a : Addr) (xs : List V) : Prop := match k with
  | .l => SqL K H a xs
  | .t => SqT K H a xs
def itS (k : Src) (h : Heap) (it a : Addr) (i : Nat) : Prop := match k with
  | .l => h.IsListIter it a i
  | .t => h.IsTupleIter it a i
def atS (k : Src) (h : Heap) (a : Addr) (items : Array Value) : Prop := match k with
  | .l => h.IsList a items
  | .t => h.IsTuple a items
def obS (k : Src) (a : Addr) : Obj := match k with
  | .l => { cls := .type "list_iterator", data := .fields #[.ref a, .int 0 0] }
  | .t => { cls := .type "tuple_iterator", data := .fields #[.ref a, .int 0 0] }
theorem drawS {prog : Program} {w : World} {A : Around} (k : Src) (hh : A.handled = none) (it a : Addr) (hne : a ≠ it) (items : Array Value) :
    Draws prog w A it [it, a] items.size (fun i v => items[i]? = some v) (fun i h => itS k h it a i ∧ atS k h a items) := by
  cases k with
  | l => exact Draws.list hh it a hne items
  | t => exact Draws.tuple hh it a hne items
theorem beginS (k : Src) (a : Addr) (items : Array Value) : Begins (.ref a) (obS k a) fun h => atS k h a items := by
  cases k with
  | l => exact begins_list a items
  | t => exact begins_tuple a items
theorem itS_ob (k : Src) {h : Heap} {it a : Addr} (e : h.get? it = some (obS k a)) : itS k h it a 0 := by
  cases k with
  | l => exact ⟨_, e, rfl, rfl⟩
  | t => exact ⟨_, e, rfl, rfl⟩
theorem itS_obj {k : Src} {h : Heap} {it a : Addr} {i : Nat} (e : itS k h it a i) : ∃ o, h.get? it = some o ∧ ∀ v, o.data ≠ .cell v := by
  cases k with
  | l =>
    obtain ⟨o, h1, _, h2⟩ := e
    exact ⟨o, h1, fun v q => by rw [h2] at q; cases q⟩
  | t =>
    obtain ⟨o, h1, _, h2⟩ := e
    exact ⟨o, h1, fun v q => by rw [h2] at q; cases q⟩
theorem itS_at {k : Src} {h h' : Heap} {it a : Addr} {i : Nat} (e : itS k h it a i) (f : ∀ o, h.get? it = some o → h'.get? it = some o) : itS k h' it a i := by
  cases k with
  | l => exact Heap.IsListIter.at e f
  | t => exact Heap.IsTupleIter.at e f
section
variable {X : Cx} {pn : List (Addr × Obj)} {sg : L2.St} {hp : Hp} {sh : Shared}
theorem invS (iv : Inv X pn sg hp sh) {k : Src} {a : Addr} {xs : List V} (h : srcS X.K k hp a xs) : ∃ its : List Value, Vals xs its ∧ atS k sh.heap a its.toArray := by
  cases k with
  | l =>
    obtain ⟨its, rv, pl, _⟩ := iv.list h
    exact ⟨its, rv, pl.isList⟩
  | t =>
    obtain ⟨its, rv, pl, _⟩ := iv.tuple h
    exact ⟨its, rv, pl⟩
end
/-- an iterator of new tuples: at turn i the tuple ys i, while S holds of the heap -/
def ItN (n : Nat) (S : Hp → Prop) (ys : Nat → List V) : It :=
  ⟨fun i H => i < n ∧ S H, fun i H x H' => ∃ p, x = .ref p ∧ H p = none ∧ H' = upd H p (.tup (ys i)), fun i H => i = n ∧ S H⟩
/-- what walks as GoesN does, once the sources are read -/
theorem turn_goes {P : Program} {w : World} {K : PySem.W.Frag} {elts : List Expr} {kk : Nat} {tpos : Pos} {I : Addr} {fp fpA wr : List Addr} {n : Nat} {S : Hp → Prop} {ys : Nat → List V} {tn : Nat → Heap → Prop}
    (mem : I ∈ fp) (obj : ∀ i h, tn i h → ∀ b ∈ fp, ∃ o, h.get? b = some o ∧ ∀ v, o.data ≠ .cell v) (keep : ∀ i h h', tn i h → (∀ b ∈ fp, ∀ o, h.get? b = some o → h'.get? b = some o) → tn i h')
    (wrs : ∀ b ∈ wr, b ∈ fp) (len : ∀ i, (ys i).length ≤ sizeLine)
    (goes : ∀ (X : Cx), X.prog = P → X.w = w → X.K = K → X.calm = true → ∀ (pn : List (Addr × Obj)) (sh : Shared) (sg : L2.St) (hp : Hp), Inv X pn sg hp sh → S hp →
      ∃ (St : Nat → Heap → Prop) (Y : Nat → Heap → Value → Heap → Prop), GoesN P w X.A (.Tuple elts kk tpos) I fpA wr n Y St ∧ (∀ i, tn i sh.heap → St i sh.heap) ∧ (∀ i h, St i h → tn i h) ∧
        ∀ i v h, i < n → Y i sh.heap v h → ∃ T us, v = .ref T ∧ sh.heap.objs.size ≤ T ∧ Vals (ys i) us ∧ h.IsTuple T us.toArray)
    (self : ∀ (A : Around) (i : Nat) (s : Shared) (Q : Value → Shared → Prop) (E : Value → Shared → Prop), tn i s.heap → Q (.ref I) s → wpAny (model P w) A (pyIter (.ref I)) Q E s) :
    Turn P w K (.Tuple elts kk tpos) (ItN n S ys) fp I tn where
  mem := mem
  obj := obj
  keep := keep
  self := self
  item := by
    intro X e1 e2 e3 hc i pn sh sg hp E iv hf st go
    obtain ⟨hi, hS⟩ := go
    obtain ⟨St, Y, W, s1, s2, hY⟩ := goes X e1 e2 e3 hc pn sh sg hp iv hS
    have alive := obj i _ st
    subst e1 e2
    refine wpAny_mono (W.goes i sh (fun v s2 => ∃ x H', Inv X pn sg H' s2 ∧ RelV x v ∧ (ItN n S ys).yld i hp x H' ∧ tn (i + 1) s2.heap ∧ ∀ b ∈ fp, H' b = none) E hi (s1 i st) fun v h' tk y st' kk' _ => ?_) (fun r s1 h => h) fun _ _ h => h
    obtain ⟨T, us, rfl, hT, rv, ht⟩ := hY i v h' hi y
    have new : ObjOk X.prog X.w (upd hp T (.tup (ys i))) h' T (.tup (ys i)) := ⟨len i, us, rv, ht⟩
    have iv2 := iv.turnedNew (t' := tk) (ch := wr) kk' (fun b hb => hf b (wrs b hb)) hT new
    refine ⟨.ref T, _, iv2, rfl, ⟨T, rfl, iv.hok.fresh hT, rfl⟩, s2 _ _ st', fun b hb => ?_⟩
    obtain ⟨o, ho, _⟩ := alive b hb
    rw [upd_ne (Nat.ne_of_lt (Nat.lt_of_lt_of_le (Heap.lt_size ho) hT))]
    exact (hf b hb).1
  done := by
    intro X e1 e2 e3 hc i pn sh sg hp E iv hf st stop
    obtain ⟨rfl, hS⟩ := stop
    obtain ⟨St, Y, W, s1, s2, hY⟩ := goes X e1 e2 e3 hc pn sh sg hp iv hS
    subst e1 e2
    exact W.stops sh _ E (s1 _ st) fun h' tk kk htk => iv.turnedL (t' := tk) (ch := wr) kk (fun b hb => hf b (wrs b hb))
theorem vals_at {xs : List V} {us : List Value} (r : Vals xs us) {i : Nat} {v : Value} (e : us[i]? = some v) : RelV (xs.getD i .non) v := by
  induction r generalizing i with
  | nil => cases e
  | cons r rr ih =>
    cases i with
    | zero =>
      cases e
      exact r
    | succ j => exact ih e
section
variable {X : Cx} {pn : List (Addr × Obj)} {sg : L2.St} {hp : Hp} {sh : Shared} {elts : List Expr} {kk : Nat} {tpos : Pos}
theorem itS_keep {k : Src} {h h' : Heap} {it a : Addr} {i : Nat} {fp : List Addr} (m : it ∈ fp) (e : itS k h it a i) (f : ∀ b ∈ fp, ∀ o, h.get? b = some o → h'.get? b = some o) : itS k h' it a i := itS_at e fun o q => f it m o q
theorem turn_enumS (P : Program) (w : World) (K : PySem.W.Frag) (k : Src) (a e it : Addr) (ne : e ≠ it) (xs : List V) :
    Turn P w K (.Tuple elts kk tpos) (ItN xs.length (fun H => srcS K k H a xs ∧ a ≠ e ∧ a ≠ it) fun i => [.int (i : Int), xs.getD i .non]) [e, it] e fun i h => (∃ old, IsEnum h e it (0 + (i : Int)) old) ∧ itS k h it a i := by
  refine turn_goes (fpA := e :: [it, a]) (wr := [e, it]) (by simp) ?_ ?_ (fun b hb => hb) (fun i => ?_) ?_ ?_
  · rintro i h ⟨⟨old, h1⟩, h2⟩ b hb
    rcases List.mem_cons.mp hb with rfl | hb
    · exact ⟨_, h1, fun v z => by cases z⟩
    · rw [List.mem_singleton.mp hb]
      exact itS_obj h2
  · rintro i h h' ⟨⟨old, h1⟩, h2⟩ f
    exact ⟨⟨old, f e (by simp) _ h1⟩, itS_keep (by simp) h2 f⟩
  · show (2 : Nat) ≤ sizeLine
    rw [sizeLine_eq]; omega
  · intro X e1 e2 e3 hc pn sh sg hp iv ⟨hS, n1, n2⟩
    subst e1 e2 e3
    obtain ⟨its, rv, at1⟩ := invS iv hS
    have hl : its.toArray.size = xs.length := by rw [List.size_toArray]; exact rv.length.symm
    have D := drawS (prog := X.prog) (w := X.w) (A := X.A.in1) k (iv.ok.hd hc) it a n2 its.toArray
    have G := GoesN.enumFrom (elts := elts) (x1 := kk) (pos := tpos) 0 D e ne (by simp [ne, n1.symm]) (by simp)
    rw [hl] at G
    refine ⟨_, _, G, fun i t => ⟨t.1, t.2, at1⟩, fun i h t => ⟨t.1, t.2.1⟩, fun i v h hi y => ?_⟩
    obtain ⟨T, t, x, rfl, hT, hx, ht⟩ := y
    refine ⟨T, [.int (0 + (i : Int)) t, x], rfl, hT, ?_, ht⟩
    have hx' : its[i]? = some x := by rw [← List.getElem?_toArray]; exact hx
    rw [Int.zero_add]
    exact .cons ⟨_, rfl⟩ (.cons (vals_at rv hx') .nil)
  · rintro A i s Q E ⟨⟨old, h1⟩, h2⟩ q
    exact wpAny_pyIter_enum h1 q
theorem enum_begins1 {prog : Program} {w : World} {A : Around} {E : Value → Shared → Prop} {s : Shared} {v : Value} {o : Obj} {H : Heap → Prop} {Q : Value → Shared → Prop} (B : Begins v o H) (h1 : H s.heap)
    (h : ∀ h', IsEnum h' (s.heap.objs.size + 1) s.heap.objs.size 0 .none → h'.get? s.heap.objs.size = some o → h'.objs.size = s.heap.objs.size + 2 →
      (∀ b o, s.heap.get? b = some o → h'.get? b = some o) → Q (.ref (s.heap.objs.size + 1)) { s with heap := h' }) :
    wpAny (model prog w) A (call (.type "enumerate") [v]) Q E s := by
  refine callType_new F.called_enumerate (by decide) (F.typeCall_enumerate_1 _) (F.newCall_enumerate_1 _) (fun obj => F.args_object_init_2 obj _) F.entry_enumerate_new
    (begin_enum1 B) ⟨h1, ?_⟩
  have hz : (s.heap.push o).objs.size = s.heap.objs.size + 1 := Heap.size_push ..
  show _ ∧ _
  rw [hz]
  have he : IsEnum ((s.heap.push o).push { cls := .type "enumerate", data := .fields #[.none, .bool false, .ref s.heap.objs.size, rawInt 0, .none, .none] }) (s.heap.objs.size + 1) s.heap.objs.size 0 .none := by
    have := Heap.get?_push_size (s.heap.push o) (o := { cls := .type "enumerate", data := .fields #[.none, .bool false, .ref s.heap.objs.size, rawInt 0, .none, .none] }) rfl
    rw [hz] at this; exact this
  exact ⟨⟨_, he, rfl⟩, h _ he (Heap.get?_push_of_some _ (Heap.get?_push_size _ B.free)) (by rw [Heap.size_push, hz]) fun b o x => Heap.get?_push_of_some _ (Heap.get?_push_of_some _ x)⟩
theorem srcS_none {K : PySem.W.Frag} {k : Src} {H : Hp} {a : Addr} {xs : List V} (h : srcS K k H a xs) (iv : Inv X pn sg H sh) (e : X.K = K) : a < sh.heap.objs.size := by
  subst e
  obtain ⟨its, _, at1⟩ := invS iv h
  cases k with
  | l =>
    obtain ⟨o, h1, _⟩ := at1
    exact Heap.lt_size h1
  | t =>
    obtain ⟨o, h1, _⟩ := at1
    exact Heap.lt_size h1
theorem pie_enumS {k : Src} {a : Addr} {xs : List V} {R : It → Hp → Prop} (iv : Inv X pn sg hp sh) (hq : srcS X.K k hp a xs)
    (hR : ∀ e it, e ≠ a → it ≠ a → R (ItN xs.length (fun H => srcS X.K k H a xs ∧ a ≠ e ∧ a ≠ it) fun i => [.int (i : Int), xs.getD i .non]) hp) :
    wpAny (model X.prog X.w) X.A (call (.type "enumerate") [.ref a]) (fun v s1 => wpAny (model X.prog X.w) X.A (pyIter v) (PIE X pn sg (.Tuple elts kk tpos) R) X.xe s1) X.xe sh := by
  obtain ⟨its, rv, at1⟩ := invS iv hq
  have la := srcS_none hq iv rfl
  refine enum_begins1 (beginS k a its.toArray) at1 fun h' he hit hsz hk => wpAny_pyIter_enum he ?_
  have I2 : Inv X pn sg hp { sh with heap := h' } := iv.kept (t' := sh.toks) hk
  refine ⟨sh.heap.objs.size + 1, [sh.heap.objs.size + 1, sh.heap.objs.size], _, _, hp, rfl, I2, turn_enumS X.prog X.w X.K k a _ _ (Nat.succ_ne_self _) xs, ⟨⟨_, he⟩, itS_ob k hit⟩, fun b hb => ?_, hR _ _ (Nat.ne_of_gt (Nat.lt_succ_of_lt la)) (Nat.ne_of_gt la)⟩
  have e' : b = sh.heap.objs.size + 1 ∨ b = sh.heap.objs.size := by simpa using hb
  have hle : sh.heap.objs.size ≤ b := by
    rcases e' with z | z
    · rw [z]; exact Nat.le_add_right _ _
    · rw [z]; exact Nat.le_refl _
  exact iv.fpOk hle (iv.hok.fresh hle)
end
end L3
set_option Elab.async false
set_option linter.all false
set_option maxRecDepth 100000
namespace L3
open PySem PySem.Spec L2
def enumT (xs : List PyData) : List T := (List.range xs.length).map fun (i : Nat) => T.wt [.int (i : Int), xs.getD i .none]
def zipT (xs ys : List PyData) : List T := (List.range (min xs.length ys.length)).map fun (i : Nat) => T.wt [xs.getD i .none, ys.getD i .none]
def seqOf : T → Option (List PyData)
  | .d (.list xs) => some xs
  | .d (.tuple xs) => some xs
  | _ => none
def iEnum (r : Ma) : Mi := fun τ M Q => r τ M fun ts M1 => match ts with
  | [t] => (match seqOf t with
    | some xs => Q (enumT xs) M1
    | none => False)
  | _ => False
def iZip2 (r : Ma) : Mi := fun τ M Q => r τ M fun ts M1 => match ts with
  | [t, u] => (match seqOf t, seqOf u with
    | some xs, some ys => Q (zipT xs ys) M1
    | _, _ => False)
  | _ => False
theorem seqOf_rt {K : PySem.W.Frag} {B : Bk} {v : V} {t : T} {xs : List PyData} (e : seqOf t = some xs) (r : Rt K B v t) : ∃ k a vs, v = .ref a ∧ srcS K k B.G a vs ∧ RpA K B.G vs xs := by
  unfold seqOf at e
  split at e
  · cases e
    cases (show Rp K B.G v (.list _) from r) with
    | lst e q => exact ⟨.l, _, _, rfl, .of e, q⟩
  · cases e
    cases (show Rp K B.G v (.tuple _) from r) with
    | tup e q => exact ⟨.t, _, _, rfl, e.t, q⟩
  · cases e
theorem srcS_mono {K : PySem.W.Frag} {k : Src} {G G' : Hp} {a : Addr} {xs : List V} (g : ∀ a o, G a = some o → G' a = some o) (h : srcS K k G a xs) : srcS K k G' a xs := by
  cases k with
  | l => exact SqL.mono g h
  | t => exact SqT.mono0 g h
theorem rpa_getD {K : PySem.W.Frag} {G : Hp} : ∀ {vs : List V} {xs : List PyData}, RpA K G vs xs → ∀ i : Nat, Rp K G (vs.getD i .non) (xs.getD i .none)
  | _, _, .nil, _ => .non
  | _, _, .cons p _, 0 => p
  | _, _, .cons _ q, i + 1 => rpa_getD q i
theorem walkT_enum {K : PySem.W.Frag} {B : Bk} {k : Src} {a e it : Addr} {vs : List V} {xs : List PyData} (h : srcS K k B.G a vs) (q : RpA K B.G vs xs) (n1 : e ≠ a) (n2 : it ≠ a) :
    WalkT K B (ItN vs.length (fun H => srcS K k H a vs ∧ a ≠ e ∧ a ≠ it) fun i => [.int (i : Int), vs.getD i .non]) (enumT xs) := by
  unfold WalkT enumT
  rw [List.length_map, List.length_range, ← RpA.length q]
  refine ⟨fun i H hi g => ⟨hi, srcS_mono g h, n1.symm, n2.symm⟩, fun H g => ⟨rfl, srcS_mono g h, n1.symm, n2.symm⟩, fun i H x H' hi g y => .inr ?_⟩
  obtain ⟨p, rfl, hp, rfl⟩ := y
  refine ⟨p, _, _, _, rfl, hp, rfl, .cons (.int (i : Int)) (.cons (rpa_getD q i) .nil), ?_⟩
  refine .inl ⟨rfl, ?_⟩
  rw [List.getElem?_map, List.getElem?_range hi]
  rfl
section
open PyProof.Rows HT
variable {X : Cx} {e e2 : Expr} {mr : Ma} {p pos tpos : Pos} {elts : List Expr} {kk : Nat}
theorem mi_enum (hg : Gl X "enumerate") (hm : X.mg "enumerate" = none) (ha : MA X [e] mr) (hs : starEach [e] X.env = [(false, eval e X.env)] := by rfl) :
    MI X (.Tuple elts kk tpos) (.Call (.Name "enumerate" p) [e] [] pos) (iEnum mr) := by
  refine ⟨fun pn sh sg hp R iv ⟨τ, M, B, Q, h, w, s, k⟩ => ?_⟩
  let P := fun (xs : List V) (H1 : Hp) => ∃ ts M1 B1, (match ts with
    | [t] => (match seqOf t with
      | some xs => Q (enumT xs) M1
      | none => False)
    | _ => False) ∧ Wd X.K B1 M1 H1 ∧ Ext B hp B1 H1 ∧ Paired (Rt X.K B1) xs ts
  refine Call_ (ld_blt iv hg hm boot_enumerate (PyProof.Rows.callWith_type1 (thn (ha.run pos pn sh sg hp P iv ⟨τ, M, B, _, h, w, s, fun v t M1 B1 H1 h1 w1 e1 r1 => ⟨t, M1, B1, h1, w1, e1, r1⟩⟩) fun us s1 ⟨vs, H1, I1, r1, ts, M1, B1, h1, w1, e1, q1⟩ => ?_) hs rfl))
  split at h1
  · split at h1
    · rename_i t xs et
      obtain ⟨v, rfl, r⟩ := paired_one q1
      obtain ⟨kd, a, ws, rfl, hsr, q⟩ := seqOf_rt et r
      cases r1 with
      | cons r rr =>
        cases rr
        cases r
        exact pie_enumS I1 (srcS_mono w1.le hsr) fun e it n1 n2 => k _ M1 B1 H1 _ h1 w1 e1 (walkT_enum hsr q n1 n2)
    · exact h1.elim
  · exact h1.elim
end
variable {τ : En} {M : Mem} {a : Ma}
@[simp] theorem x_seql {xs : List PyData} : seqOf (.d (.list xs)) = some xs := rfl
@[simp] theorem x_seqt {xs : List PyData} : seqOf (.d (.tuple xs)) = some xs := rfl
@[simp] theorem x_ienum {R : List T → Mem → Prop} : iEnum a τ M R = a τ M fun ts M1 => match ts with
  | [t] => (match seqOf t with
    | some xs => R (enumT xs) M1
    | none => False)
  | _ => False := rfl
@[simp] theorem x_izip2 {R : List T → Mem → Prop} : iZip2 a τ M R = a τ M fun ts M1 => match ts with
  | [t, u] => (match seqOf t, seqOf u with
    | some xs, some ys => R (zipT xs ys) M1
    | _, _ => False)
  | _ => False := rfl
end L3
set_option Elab.async false
set_option linter.all false
set_option maxRecDepth 100000
namespace L3
open PySem PySem.Spec L2
def fPopAt (x : T) : FA := fun ts M Q => match x, ts with
  | .lr i, [.d (.int j)] => (match M.L[i]? with
    | some (some ds) => (0 ≤ j ∧ j < 2 ^ 63 ∧ j.toNat < ds.length) ∧ ∀ z, ds[j.toNat]? = some z → Q (.d z) { M with L := M.L.set i (some (ds.eraseIdx j.toNat)) }
    | _ => False)
  | _, _ => False
theorem mel_popAt {K : PySem.W.Frag} : MeL K rPopAt fPopAt := by
  intro x xs t ts M B H Q Q' h w rx rs k
  unfold fPopAt at h
  split at h
  · rename_i i j
    split at h
    · rename_i ds hL
      obtain ⟨v, rfl, r1⟩ := paired_one rs
      cases (show Rp K B.G v (.int j) from r1)
      obtain ⟨a, rfl, ha⟩ := rx
      obtain ⟨_, vs, e, q⟩ := w.lc _ _ _ ha hL
      obtain ⟨⟨h1, h2, h3⟩, hQ⟩ := h
      have hz : ds[j.toNat]? = some ds[j.toNat] := List.getElem?_eq_getElem h3
      obtain ⟨u, g1, g2⟩ := RpA.get q hz
      refine ⟨a, vs, j, j.toNat, u, rfl, rfl, e, by omega, h2, ?_, g1, ?_⟩
      · unfold seqIndex?
        rw [RpA.length q]
        have c1 : ¬ j < 0 := by omega
        simp only [c1, if_false]
        rw [if_pos (by simp; omega)]
      · obtain ⟨w2, e2⟩ := w.setL ha hL (RpA.eraseIdx j.toNat q)
        exact k _ _ _ _ _ (hQ _ hz) w2 e2 g2
    · exact h.elim
  · exact h.elim
section
variable {X : Cx}
theorem me_popAt {mo : Me} {mr : Ma} {o x : Expr} {apos cpos : Pos} (ho : ME X o mo) (ha : MA X [x] mr) (hbase : attributeBase o "pop" X.env (eval o X.env) = eval o X.env := by rfl)
    (hfew : ((backTo cpos (starEach [x] X.env)).all (fun x => !x.1) && (backToKw cpos (keywordEach [] X.env)).all (fun x => x.1.isSome) && decide (([x] : List Expr).length + ([] : List Keyword).length + (if ([] : List Keyword).isEmpty then 0 else 1) < 30)) = true := by rfl)
    (hline : (apos.endLine == cpos.line) = true := by rfl) (hs : starEach [x] X.env = (false, eval x X.env) :: starEach [] X.env := by rfl) : ME X (.Call (.Attribute o "pop" apos) [x] [] cpos) (mMeth fPopAt mo mr) :=
  me_lm PySem.F.plainAttrs_list PySem.F.slot_list_pop PySem.F.type_list_pop mt_popAt mel_popAt ho ha hbase hfew hline hs rfl
end
def CBig (i j : Int) : Prop := i.natAbs < 2 ^ 300 ∧ j.natAbs < 2 ^ 300
def oMulW : F2 := oI CBig fun i j => .int (i * j)
def oRepT : F2 := fun x y M Q => match x, y with
  | .d (.tuple xs), .d (.int j) => (xs ≠ [] ∧ 2 ≤ j ∧ j ≤ 1000 ∧ xs.length ≤ 1000) ∧ Q (.tup (List.replicate j.toNat xs).flatten) M
  | _, _ => False
theorem opl_repT {K : PySem.W.Frag} : OpL K (rRepC K) oRepT := by
  intro x y t u M B H Q Q' h w rx ry k
  unfold oRepT at h
  split at h
  · cases rx with
    | tup e1 q1 =>
      cases ry
      obtain ⟨⟨h0, h1, h2, h3⟩, q⟩ := h
      refine ⟨_, _, _, rfl, rfl, SqT.mono w.le e1, ?_, h1, h2, ?_, fun p o hp ho => ?_⟩
      · intro z
        subst z
        cases q1
        exact h0 rfl
      · rw [RpA.length q1]
        exact h3
      · obtain ⟨w', x'⟩ := w.alloc hp (.frz o (.tup _))
        exact k _ _ M _ _ q w' x' (.tup (.inl ⟨o, upd_same, ho⟩) (RpA.mono x'.g (RpA.rep q1 _)))
  · exact h.elim
theorem me_repT {X : Cx} {a b : Expr} {ma mb : Me} {pos : Pos} (ha : ME X a ma) (hb : ME X b mb) : ME X (.BinOp a .Mult b pos) (mOp oRepT ma mb) := me_op op_repC opl_repT ha hb
variable {M : Mem} {Q : Kt} {D : List Cell} {L : List (Option (List PyData))} {i : Nat}
@[simp] theorem x_mulW {i j : Int} : oMulW (.d (.int i)) (.d (.int j)) M Q = (CBig i j ∧ Q (.int (i * j)) M) := rfl
@[simp] theorem x_repT {xs : List PyData} {j : Int} : oRepT (.d (.tuple xs)) (.d (.int j)) M Q = ((xs ≠ [] ∧ 2 ≤ j ∧ j ≤ 1000 ∧ xs.length ≤ 1000) ∧ Q (.tup (List.replicate j.toNat xs).flatten) M) := rfl
@[simp] theorem x_popAt {j : Int} : fPopAt (.lr i) [.d (.int j)] M Q = (match M.L[i]? with
    | some (some ds) => (0 ≤ j ∧ j < 2 ^ 63 ∧ j.toNat < ds.length) ∧ ∀ z, ds[j.toNat]? = some z → Q (.d z) { M with L := M.L.set i (some (ds.eraseIdx j.toNat)) }
    | _ => False) := rfl
section
open PyProof.Rows
variable {prog : Program} {w : World} {A : Around} {E : Value → Shared → Prop} {s : Shared} {l : Addr}
end
section
variable {X : Cx} {e : Expr} {es : List Expr} {mr : Ma} {p pos : Pos}
end
end L3
set_option Elab.async false
set_option linter.all false
set_option maxRecDepth 100000
namespace Sh
open PySem PySem.Spec L2 L3
def rk (cells : List Int) (stamp count : Int) : List (Key × T) := [(.inr "deep", .mr 0), (.inr "cells", .lst (cells.map .int)), (.inr "stamp", .int stamp), (.inr "count", .int count)]
def rd (deep cells : List Int) (stamp count : Int) : List Cell := [.lst (deep.map T.int), .dct (rk cells stamp count)]
@[simp] theorem rk_deep {c : List Int} {s n : Int} : lookT (rk c s n) (.inr "deep") = some (.mr 0) := by
  unfold rk lookT
  rfl
@[simp] theorem rk_cells {c : List Int} {s n : Int} : lookT (rk c s n) (.inr "cells") = some (.lst (c.map .int)) := by
  unfold rk lookT
  rfl
@[simp] theorem rk_stamp {c : List Int} {s n : Int} : lookT (rk c s n) (.inr "stamp") = some (.int s) := by
  unfold rk lookT
  rfl
@[simp] theorem rk_count {c : List Int} {s n : Int} : lookT (rk c s n) (.inr "count") = some (.int n) := by
  unfold rk lookT
  rfl
@[simp] theorem rk_put {c : List Int} {s n m : Int} : putT (rk c s n) (.inr "count") (.int m) = rk c s m := by
  unfold rk putT
  rfl
@[simp] theorem rk_len {c : List Int} {s n : Int} : (rk c s n).length = 4 := rfl
structure RI (D : List Cell) : Prop where
  ex : ∃ (deep cells : List Int) (stamp count : Int), D = rd deep cells stamp count ∧ cells ≠ [] ∧ cells.length ≤ 64 ∧ deep.length ≤ 64 ∧ 0 ≤ stamp ∧ stamp < 4294967291 ∧ 0 ≤ count
theorem sz4 : (4 : Nat) < sizeLine := by rw [sizeLine_eq]; decide
theorem sz64 {n : Nat} (h : n ≤ 100000) : n < sizeLine := by rw [sizeLine_eq]; omega
theorem sz64' {n : Nat} (h : n ≤ 100000) : n ≤ sizeLine := by rw [sizeLine_eq]; omega
theorem datas_ints : ∀ l : List Int, datas (l.map T.int) = some (l.map PyData.int)
  | [] => rfl
  | x :: l => by
    show (datas (l.map T.int)).map (PyData.int x :: ·) = _
    rw [datas_ints l]
    rfl
theorem shaped_ints (l : List Int) : SeqAt.shaped (.list (l.map .int)) = true := by
  have h1 : ∀ l : List Int, PyData.canLayAll0 (l.map .int) = true := by
    intro l
    induction l with
    | nil => rfl
    | cons x l ih => simp [PyData.canLayAll0, PyData.canLay0, ih]
  have h2 : ∀ l : List Int, PyData.depthAll (l.map .int) ≤ 1 := by
    intro l
    induction l with
    | nil => simp [PyData.depthAll]
    | cons x l ih =>
      simp [PyData.depthAll, PyData.depth]
      omega
  unfold SeqAt.shaped
  rw [Bool.and_eq_true]
  refine ⟨by simp [PyData.canLay0, h1], decide_eq_true ?_⟩
  have := h2 l
  simp only [PyData.depth]
  omega
theorem eqv_nil (l : List PyData) : PyData.eqv (.list l) (.list []) = l.isEmpty := by
  cases l <;> simp [PyData.eqv, PyData.eqvAll]
theorem atI_mod {l : List Int} {i : Int} (h0 : 0 ≤ i) (h1 : i < l.length) : ∃ v, atI (l.map PyData.int) i = some (.int v) := by
  obtain ⟨n, rfl⟩ : ∃ n : Nat, i = n := ⟨i.toNat, by omega⟩
  have hn : n < l.length := by omega
  exact ⟨l[n], atI_nat (by rw [List.getElem?_map, List.getElem?_eq_getElem hn]; rfl)⟩
theorem he_nil {deep : List Int} {X : Cell} {n : Bool} {Q : Kt} : oEq n (.mr 0) (.d (.list [])) ⟨[.lst (deep.map T.int), X], []⟩ Q = Q (.bl (if n then !deep.isEmpty else deep.isEmpty)) ⟨[.lst (deep.map T.int), X], []⟩ := by
  rw [x_eq (a := .list (deep.map .int)) (b := .list []) ?_ rfl (shaped_ints _) (shaped_ints []) (fun _ z => nomatch z), eqv_nil]
  · cases deep <;> rfl
  · simp [now, datas_ints]
theorem rang {i j : Int} (h : 0 < j) : 0 ≤ i % j ∧ i % j < j := ⟨Int.emod_nonneg _ (by omega), Int.emod_lt_of_pos _ h⟩
/-- the draw's second half -/
theorem draw_tail {deep cells : List Int} {stamp count many : Int} {Q : T → List Cell → Prop} {t3 : Option T} (hc : cells ≠ []) (hcl : cells.length ≤ 64) (hdl : deep.length ≤ 64) (hs : 0 ≤ stamp) (hs2 : stamp < 4294967291) (hn : 0 ≤ count) (h1 : 1 ≤ many) (h2 : many < 18446744073709551616)
    (q : ∀ n D', 0 ≤ n → n < many → RI D' → Q (.int n) D') : b__law_draw_9 { nx := fun _ M => Q .non M.D, rt := fun t M => noL t = true ∧ Q t M.D } [some (.mr 1), some (.int many), some (.mr 0), t3, none, none, none, none] ⟨rd deep cells stamp count, []⟩ := by
  have hl : 0 < cells.length := List.length_pos_iff.mpr hc
  refine w_seq ?_
  simp [rd, sz4]
  refine w_seq ?_
  simp
  refine w_seq ?_
  have hr := rang (i := (count + 1) * 7) (j := cells.length) (by omega)
  obtain ⟨v, hv⟩ := atI_mod (l := cells) (i := (count + 1) * 7 % cells.length) hr.1 hr.2
  simp
  refine ⟨by unfold CMul; omega, hl, _, hv, ?_⟩
  simp
  refine ⟨by unfold CMul; omega, by unfold CMul; omega, ?_⟩
  refine w_seq (w_for ?_)
  simp [rangeT, List.range_succ]
  have hm := rang (i := v * 2246822519 + stamp + (count + 1) * 3266489917) (j := 4294967291) (by omega)
  rw [x_forc]
  simp
  refine ⟨by unfold CMul; omega, by unfold CMul; omega, ?_⟩
  rw [x_forc]
  simp
  have hm2 := rang (i := (v * 2246822519 + stamp + (count + 1) * 3266489917) % 4294967291 * ((v * 2246822519 + stamp + (count + 1) * 3266489917) % 4294967291) + stamp * (count + 1)) (j := 4294967279) (by omega)
  refine ⟨by unfold CMul; omega, by unfold CMul; omega, ?_⟩
  rw [x_forn]
  simp
  refine ⟨by unfold CDv; omega, by omega, ?_⟩
  have hf := fun x : Int => rang (i := x) (j := many) (by omega)
  exact q _ _ (hf _).1 (hf _).2 ⟨deep, cells, stamp, count + 1, rfl, hc, hcl, hdl, hs, hs2, by omega⟩
theorem sp_draw {D : List Cell} {many : Int} {Q : T → List Cell → Prop} (hD : RI D) (h1 : 1 ≤ many) (h2 : many < 18446744073709551616) (q : ∀ n D', 0 ≤ n → n < many → RI D' → Q (.int n) D') : d__law_draw [.mr 1, .int many] D Q := by
  obtain ⟨deep, cells, stamp, count, rfl, hc, hcl, hdl, hs, hs2, hn⟩ := hD.ex
  refine ⟨rfl, ?_⟩
  have ht := fun (t3 : Option T) => draw_tail (t3 := t3) hc hcl hdl hs hs2 hn h1 h2 q
  refine w_seq ?_
  simp [rd]
  refine w_seq (w_if ?_)
  simp [he_nil]
  by_cases hd : deep = []
  · subst hd
    exact .inl ⟨rfl, ht none⟩
  · refine .inr ⟨hd, ?_⟩
    by_cases hm : many ≤ 1
    · exact .inl ⟨hm, ht none⟩
    · refine .inr ⟨by omega, ?_⟩
      obtain ⟨d0, x, rfl⟩ : ∃ d0 x, deep = d0 ++ [x] := ⟨deep.dropLast, deep.getLast hd, (List.dropLast_concat_getLast hd).symm⟩
      refine w_seq ?_
      simp
      refine w_seq (w_if ?_)
      simp
      have hp := fun x : Int => rang (i := x) (j := many) (by omega)
      have hl2 : d0.length + 1 ≤ 64 := by simpa using hdl
      by_cases hx : x < many
      · exact .inl ⟨hx, by omega, q _ _ (hp x).1 (hp x).2 ⟨d0, cells, stamp, count, rfl, hc, hcl, by omega, hs, hs2, hn⟩⟩
      · refine .inr ⟨by omega, by unfold CDv; omega, sz64 (by omega), by omega, q _ _ (hp x).1 (hp x).2 ⟨d0 ++ [x / many], cells, stamp, count, ?_, hc, hcl, by simpa using hl2, hs, hs2, hn⟩⟩
        simp [rd]
end Sh
set_option Elab.async false
set_option linter.all false
set_option maxRecDepth 100000
namespace Sh
open PySem PySem.Spec L2 L3
theorem for_all {g : Mg} {b : Ms} {E : Es} {ts : List T} {τ : En} {M : Mem} (I : Nat → En → Mem → Prop) (h0 : I 0 τ M)
    (step : ∀ (i : Nat) (τ : En) (M : Mem) (t : T) (R : En → Mem → Prop), ts[i]? = some t → I i τ M → (∀ τ' M', I (i + 1) τ' M' → R τ' M') → g t τ M fun τ1 M1 => b { E with nx := R, ct := R, bk := E.nx } τ1 M1)
    (done : ∀ τ M, I ts.length τ M → E.nx τ M) : goFor g b E ts τ M := by
  have key : ∀ (rest : List T) (i : Nat) (τ : En) (M : Mem), ts.drop i = rest → i ≤ ts.length → I i τ M → goFor g b E rest τ M := by
    intro rest
    induction rest with
    | nil =>
      intro i τ M e hi h
      have : i = ts.length := by
        have := congrArg List.length e
        simp at this
        omega
      subst this
      exact done τ M h
    | cons t rest ih =>
      intro i τ M e hi h
      have hlt : i < ts.length := by
        rcases Nat.lt_or_ge i ts.length with q | q
        · exact q
        · rw [List.drop_eq_nil_of_le q] at e; cases e
      rw [drop_at hlt] at e
      obtain ⟨e1, e2⟩ := List.cons.inj e
      rw [x_forc]
      refine step i τ M t _ (by rw [← e1]; exact List.getElem?_eq_getElem hlt) h fun τ' M' h' => ?_
      exact ih (i + 1) τ' M' e2 hlt h'
  exact key ts 0 τ M rfl (Nat.zero_le _) h0
theorem lc_all {g : Mg} {c : Mb} {m : Me} {τ0 : En} {F : List PyData → Mem → Prop} {ts : List T} {M : Mem} (I : Nat → List PyData → Mem → Prop) (h0 : I 0 [] M)
    (step : ∀ (i : Nat) (acc : List PyData) (M : Mem) (t : T) (R : List PyData → Mem → Prop), ts[i]? = some t → I i acc M → (∀ acc' M', I (i + 1) acc' M' → R acc' M') →
      g t τ0 M fun τ1 M1 => c τ1 M1 fun k M2 => if k = true then m τ1 M2 fun y M3 => (match y with | .d z => acc.length < sizeLine ∧ R (acc ++ [z]) M3 | _ => False) else R acc M2)
    (done : ∀ acc M, I ts.length acc M → F acc M) : goLc g c m τ0 F ts [] M := by
  have key : ∀ (rest : List T) (i : Nat) (acc : List PyData) (M : Mem), ts.drop i = rest → i ≤ ts.length → I i acc M → goLc g c m τ0 F rest acc M := by
    intro rest
    induction rest with
    | nil =>
      intro i acc M e hi h
      have : i = ts.length := by
        have := congrArg List.length e
        simp at this
        omega
      subst this
      exact done acc M h
    | cons t rest ih =>
      intro i acc M e hi h
      have hlt : i < ts.length := by
        rcases Nat.lt_or_ge i ts.length with q | q
        · exact q
        · rw [List.drop_eq_nil_of_le q] at e; cases e
      rw [drop_at hlt] at e
      obtain ⟨e1, e2⟩ := List.cons.inj e
      rw [x_lcc]
      exact step i acc M t (fun a m' => goLc g c m τ0 F rest a m') (by rw [← e1]; exact List.getElem?_eq_getElem hlt) h fun a' M' h' => ih (i + 1) a' M' e2 hlt h'
  exact key ts 0 [] M rfl (Nat.zero_le _) h0
/-- a comprehension that changes nothing: f of every item of which p -/
theorem lc_pf {g : Mg} {c : Mb} {m : Me} {τ0 : En} {F : List PyData → Mem → Prop} {α : Type} {ts : List α} {e : α → T} {M : Mem} (p : α → Bool) (f : α → PyData) (hz : ts.length ≤ sizeLine)
    (step : ∀ (x : α) (acc : List PyData) (R : List PyData → Mem → Prop), x ∈ ts → acc.length < sizeLine → R (if p x = true then acc ++ [f x] else acc) M →
      g (e x) τ0 M fun τ1 M1 => c τ1 M1 fun k M2 => if k = true then m τ1 M2 fun y M3 => (match y with | .d z => acc.length < sizeLine ∧ R (acc ++ [z]) M3 | _ => False) else R acc M2)
    (done : F ((ts.filter p).map f) M) : goLc g c m τ0 F (ts.map e) [] M := by
  refine lc_all (fun i acc M' => M' = M ∧ acc = ((ts.take i).filter p).map f) ⟨rfl, rfl⟩ ?_ ?_
  · rintro i acc M' t R ht ⟨rfl, rfl⟩ k
    rw [List.getElem?_map] at ht
    cases hx : ts[i]? with
    | none => rw [hx] at ht; cases ht
    | some x =>
      rw [hx] at ht
      cases ht
      have hi : i < ts.length := by
        rcases Nat.lt_or_ge i ts.length with q | q
        · exact q
        · rw [List.getElem?_eq_none q] at hx; cases hx
      have hm : x ∈ ts := List.mem_of_getElem? hx
      have hlen : (((ts.take i).filter p).map f).length < sizeLine := by
        rw [List.length_map]
        have := List.length_filter_le p (ts.take i)
        rw [List.length_take] at this
        omega
      refine step x _ R hm hlen (k _ _ ⟨rfl, ?_⟩)
      rw [List.take_add_one, hx, Option.toList_some, List.filter_append, List.map_append]
      by_cases hp : p x = true
      · rw [if_pos hp]
        simp [hp]
      · rw [if_neg hp]
        simp [hp]
  · rintro acc M' ⟨rfl, rfl⟩
    rw [List.length_map, List.take_length]
    exact done
theorem lc_pure {g : Mg} {m : Me} {τ0 : En} {F : List PyData → Mem → Prop} {α : Type} {ts : List α} {e : α → T} {M : Mem} (f : α → PyData) (hz : ts.length ≤ sizeLine)
    (step : ∀ (x : α) (acc : List PyData) (R : List PyData → Mem → Prop), x ∈ ts → acc.length < sizeLine → R (acc ++ [f x]) M →
      g (e x) τ0 M fun τ1 M1 => m τ1 M1 fun y M3 => (match y with | .d z => acc.length < sizeLine ∧ R (acc ++ [z]) M3 | _ => False))
    (done : F (ts.map f) M) : goLc g bYes m τ0 F (ts.map e) [] M := by
  refine lc_pf (fun _ => true) f hz (fun x acc R hx ha hr => ?_) (by rw [List.filter_eq_self.mpr (by simp)]; exact done)
  simp only [x_byes, if_true]
  exact step x acc R hx ha (by simpa using hr)
theorem cut63 {ns : List Int} (h : ns.length ≤ 63) : cutT ns none (some 63) = ns := by
  unfold cutT
  have h1 : HT.sIx ns.length 0 none = 0 := rfl
  have h2 : HT.sIx ns.length ns.length (some 63) = ns.length := by
    show (if (63 : Int) < 0 then ((63 : Int) + (ns.length : Int)).toNat else min (63 : Int).toNat ns.length) = ns.length
    rw [if_neg (by omega)]
    omega
  rw [h1, h2]
  simp
def dbl (n : Int) : Int := if 0 ≤ n then 2 * n else -2 * n - 1
theorem map_map' (f : Int → Int) (l : List Int) : l.map (fun x => PyData.int (f x)) = (l.map f).map .int := by rw [List.map_map]; rfl
theorem sp_reel {ns : List Int} {Q : T → List Cell → Prop} (h : ns.length ≤ 63) (q : ∀ D, RI D → Q (.mr 1) D) : d__law_reel [.scr ns] [] Q := by
  have h0 : ns.length ≤ sizeLine := sz64' (by omega)
  refine ⟨rfl, w_seq ?_⟩
  simp only [x_par, x_acons, x_lc, x_iseq, x_sl, x_var]
  simp [wipeT, cut63 h]
  refine lc_pure (e := T.d ∘ PyData.int) (fun n => .int (dbl n)) h0 (fun x acc R _ ha hr => ?_) ?_
  · simp
    unfold dbl at hr
    by_cases hx : 0 ≤ x
    · rw [if_pos hx] at hr
      exact .inr ⟨hx, by unfold CMul; omega, ha, hr⟩
    · rw [if_neg hx] at hr
      exact .inl ⟨by omega, by unfold CMul; omega, ha, hr⟩
  · rw [map_map']
    have hl : (ns.map dbl).length ≤ 63 := by rw [List.length_map]; exact h
    generalize ns.map dbl = cs at hl
    refine w_seq (w_for ?_)
    simp
    refine for_all (fun i τ M => M = ⟨[], []⟩ ∧ ∃ st w, τ = [some (.scr ns), some (.lst (cs.map .int)), some (.int st), w, none] ∧ 0 ≤ st ∧ st < 4294967291) ⟨rfl, _, _, rfl, by omega, by omega⟩ ?_ ?_
    · rintro i τ M t R ht ⟨rfl, st, w, rfl, h1, h2⟩ k
      rw [List.getElem?_map] at ht
      cases hx : cs[i]? with
      | none => rw [hx] at ht; cases ht
      | some x =>
        rw [hx] at ht
        cases ht
        have hm := rang (i := st * 69069 + x * 11 + 5) (j := 4294967291) (by omega)
        simp
        refine ⟨by unfold CMul; omega, by unfold CMul; omega, ?_⟩
        exact k _ _ ⟨rfl, _, _, rfl, hm.1, hm.2⟩
    · rintro τ M ⟨rfl, st, w, rfl, h1, h2⟩
      dsimp only
      refine w_seq ?_
      simp only [x_set, mLcD, x_iseq, x_var]
      simp [wipeT]
      refine lc_pf (e := T.d ∘ PyData.int) (fun n => decide (1000000000000000000 ≤ n)) (fun n => .int n) (sz64' (by omega)) (fun x acc R _ ha hr => ?_) ?_
      · simp [CPow]
        by_cases hx : 1000000000000000000 ≤ x
        · rw [if_pos (decide_eq_true hx)] at hr
          exact .inr ⟨hx, ha, hr⟩
        · rw [if_neg (by simpa using hx)] at hr
          exact .inl ⟨by omega, hr⟩
      · generalize hdp : cs.filter (fun n => decide (1000000000000000000 ≤ n)) = dp
        have hdl : dp.length ≤ 63 := by
          rw [← hdp]
          exact Nat.le_trans (List.length_filter_le _ _) hl
        simp [mDisp, goD, sizeLine_eq]
        refine ⟨by unfold CMul; omega, by omega, by decide, ?_⟩
        refine q _ ⟨dp, cs ++ [2 * (cs.length : Int) + 1], st, 0, ?_, by simp, by simp; omega, by omega, h1, h2, by omega⟩
        simp [rd, rk]
end Sh
set_option Elab.async false
set_option linter.all false
set_option maxRecDepth 100000
namespace Sh
open PySem PySem.Spec L2 L3
theorem sp_pick {D : List Cell} {xs : List PyData} {Q : T → List Cell → Prop} (hD : RI D) (h1 : xs ≠ []) (h2 : xs.length < 100000) (q : ∀ x D', x ∈ xs → RI D' → Q (.d x) D') : d__law_pick [.mr 1, .lst xs] D Q := by
  have hl : 0 < xs.length := List.length_pos_iff.mpr h1
  refine ⟨rfl, ?_⟩
  try simp
  refine sp_draw hD (by omega) (by omega) fun n D' n0 n1 hD' => ?_
  obtain ⟨k, rfl⟩ : ∃ k : Nat, n = k := ⟨n.toNat, by omega⟩
  have hk : k < xs.length := by omega
  try simp
  exact ⟨_, atI_nat (List.getElem?_eq_getElem hk), q _ _ (List.getElem_mem hk) hD'⟩
/-- the steps that a kind may have -/
def Al (a : Int) : Prop := a = 1 ∨ a = 2 ∨ a = 4 ∨ a = 8 ∨ a = 16 ∨ a = 32 ∨ a = 64
theorem Al.pos {a : Int} (h : Al a) : 1 ≤ a ∧ a ≤ 64 := by unfold Al at h; omega
theorem sp_size {D : List Cell} {a : Int} {Q : T → List Cell → Prop} (hD : RI D) (h : Al a) (q : ∀ s D', 1 ≤ s → s ≤ 1000000000000000000000000000000 → RI D' → Q (.int s) D') : d__law_size [.mr 1, .int a] D Q := by
  have ha := h.pos
  refine ⟨rfl, w_seq ?_⟩
  try simp
  refine sp_draw hD (by omega) (by omega) fun n D1 n0 n1 hD1 => ?_
  try simp
  have h1 : 1 ≤ a * (1 + n) ∧ a * (1 + n) ≤ 384 := by
    have : n = 0 ∨ n = 1 ∨ n = 2 ∨ n = 3 ∨ n = 4 ∨ n = 5 := by omega
    rcases this with rfl | rfl | rfl | rfl | rfl | rfl <;> omega
  generalize a * (1 + n) = near at h1
  refine ⟨by unfold CMul; omega, ?_⟩
  refine sp_draw hD1 (by omega) (by omega) fun lot D2 l0 l1 hD2 => ?_
  try simp
  refine w_seq (w_if ?_)
  try simp
  by_cases c1 : lot < 3
  · exact .inr ⟨c1, q _ _ h1.1 (by omega) hD2⟩
  refine .inl ⟨by omega, w_seq (w_if ?_)⟩
  try simp
  by_cases c2 : lot < 6
  · refine .inr ⟨c2, by simp [sizeLine_eq], ?_⟩
    refine sp_pick hD2 (by simp) (by simp) fun x D3 hx hD3 => ?_
    simp at hx
    have : ∃ v : Int, x = .int v ∧ -2 ≤ v ∧ v ≤ 3 := by
      rcases hx with rfl | rfl | rfl | rfl
      · exact ⟨-1, rfl, by omega, by omega⟩
      · exact ⟨1, rfl, by omega, by omega⟩
      · exact ⟨-2, rfl, by omega, by omega⟩
      · exact ⟨3, rfl, by omega, by omega⟩
    obtain ⟨v, rfl, v1, v2⟩ := this
    simp
    refine q _ _ ?_ ?_ hD3
    · split <;> omega
    · split <;> omega
  refine .inl ⟨by omega, w_seq (w_if ?_)⟩
  try simp
  by_cases c3 : lot < 8
  · refine .inr ⟨c3, ?_⟩
    refine sp_draw hD2 (by omega) (by omega) fun v D3 v0 v1 hD3 => ?_
    simp
    exact q _ _ (by omega) (by omega) hD3
  refine .inl ⟨by omega, w_seq ?_⟩
  simp [CPow]
  refine sp_draw hD2 (by omega) (by omega) fun v D3 v0 v1 hD3 => ?_
  try simp
  refine ⟨by unfold CMul; omega, w_seq ?_⟩
  simp [CDv, CPow]
  refine sp_draw hD3 (by omega) (by omega) fun z D4 z0 z1 hD4 => ?_
  try simp
  refine ⟨by unfold CMul; omega, by simp [sizeLine_eq], ?_⟩
  refine sp_pick hD4 (by simp) (by simp) fun x D5 hx hD5 => ?_
  have : ∃ v : Int, x = .int v := by
    simp at hx
    rcases hx with rfl | rfl | rfl | rfl | rfl <;> exact ⟨_, rfl⟩
  obtain ⟨o, rfl⟩ := this
  simp [CPow]
  refine q _ _ ?_ ?_ hD5
  · split <;> split <;> omega
  · split <;> split <;> omega
end Sh
set_option Elab.async false
set_option linter.all false
set_option maxRecDepth 100000
namespace Sh
open PySem PySem.Spec L2 L3
/-- a kind, as data -/
def kd (k : Int × Int) : PyData := .tuple [.int k.1, .int k.2]
def GK (k : Int × Int) : Prop := (1 ≤ k.1 ∧ k.1 ≤ 1000000000000000000000000000000) ∧ Al k.2
structure GB (K : List (Int × Int)) : Prop where
  ne : K ≠ []
  six : K.length ≤ 6
  ok : ∀ k ∈ K, GK k
theorem range_at {n i : Nat} {t : T} (h : (rangeT n)[i]? = some t) : i < n ∧ t = .int (i : Int) := by
  unfold rangeT at h
  rw [List.getElem?_map] at h
  rcases Nat.lt_or_ge i n with q | q
  · rw [List.getElem?_range q] at h
    cases h
    exact ⟨q, rfl⟩
  · rw [List.getElem?_eq_none (by rw [List.length_range]; exact q)] at h
    cases h
theorem range_len {n : Nat} : (rangeT n).length = n := by unfold rangeT; simp
theorem sp_book {D : List Cell} {many : Int} {Q : T → List Cell → Prop} (hD : RI D) (h1 : 1 ≤ many) (h2 : many ≤ 6) (q : ∀ K D', GB K → (K.length : Int) = many → RI D' → Q (.tup (K.map kd)) D') : d__law_book [.mr 1, .int many] D Q := by
  refine ⟨rfl, w_seq ?_⟩
  try simp
  refine w_seq (w_for ?_)
  try simp
  refine ⟨by omega, ?_⟩
  refine for_all (fun i τ M => ∃ K D' p st, M = ⟨D', [some (K.map kd)]⟩ ∧ RI D' ∧ K.length = i ∧ (∀ k ∈ K, GK k) ∧ τ = [some (.mr 1), some (.int many), some (.lr 0), p, st]) ⟨[], D, none, none, rfl, hD, rfl, by simp, rfl⟩ ?_ ?_
  · rintro i τ M t R ht ⟨K, D', p, st, rfl, hD', rfl, hK, rfl⟩ k
    obtain ⟨hi, rfl⟩ := range_at ht
    try simp
    refine w_seq ?_
    try simp [sizeLine_eq]
    refine sp_pick hD' (by simp) (by simp) fun x D1 hx hD1 => ?_
    have : ∃ a, x = .int a ∧ Al a := by
      simp at hx
      unfold Al
      rcases hx with rfl | rfl | rfl | rfl | rfl | rfl | rfl <;> exact ⟨_, rfl, by omega⟩
    obtain ⟨a, rfl, ha⟩ := this
    try simp
    refine w_seq ?_
    try simp
    refine sp_size hD1 ha fun s D2 s1 s2 hD2 => ?_
    have hKs : ∀ k ∈ K ++ [(s, a)], GK k := by
      intro k hk
      rcases List.mem_append.mp hk with z | z
      · exact hK k z
      · rw [List.mem_singleton] at z
        subst z
        exact ⟨⟨s1, s2⟩, ha⟩
    try simp [sizeLine_eq]
    refine ⟨by omega, ?_⟩
    have e1 : List.map kd K ++ [PyData.tuple [PyData.int s, PyData.int a]] = List.map kd (K ++ [(s, a)]) := by simp [kd]
    rw [e1]
    by_cases hk0 : 0 < K.length
    · refine .inr ⟨hk0, ?_⟩
      refine sp_draw hD2 (by omega) (by omega) fun z D3 z0 z1 hD3 => ?_
      try simp
      by_cases hz : z = 0
      · refine .inr ⟨hz, ?_⟩
        have hlt : K.length - 1 < K.length := by omega
        have e2 : atI (List.map kd K ++ [kd (s, a)]) ((K.length : Int) - 1) = some (kd K[K.length - 1]) := by
          have e3 : ((K.length : Int) - 1) = ((K.length - 1 : Nat) : Int) := by omega
          rw [e3]
          refine atI_nat ?_
          rw [List.getElem?_append_left (by simpa using hlt), List.getElem?_map, List.getElem?_eq_getElem hlt]
          rfl
        refine ⟨_, e2, K.length, ?_, ?_⟩
        · unfold ixN
          rw [if_pos (by omega), if_pos (by omega)]
          simp
        · have hmem : K[K.length - 1] ∈ K := List.getElem_mem hlt
          refine k _ _ ⟨K ++ [K[K.length - 1]], D3, _, _, ?_, hD3, by simp, ?_, rfl⟩
          · simp [List.set_append]
          · intro k hk
            rcases List.mem_append.mp hk with z | z
            · exact hK k z
            · rw [List.mem_singleton] at z
              rw [z]
              exact hK _ hmem
      · exact .inl ⟨hz, k _ _ ⟨K ++ [(s, a)], D3, _, _, by simp [kd], hD3, by simp, hKs, rfl⟩⟩
    · exact .inl ⟨by simpa using hk0, k _ _ ⟨K ++ [(s, a)], D2, _, _, by simp [kd], hD2, by simp, hKs, rfl⟩⟩
  · rintro τ M ⟨K, D', p, st, rfl, hD', hl, hK, rfl⟩
    rw [range_len] at hl
    try simp
    refine q K D' ⟨?_, by omega, hK⟩ (by omega) hD'
    intro z
    subst z
    simp at hl
    omega
end Sh
set_option Elab.async false
set_option linter.all false
set_option maxRecDepth 100000
namespace Sh
open PySem PySem.Spec L2 L3
def rup (n m : Int) : Int := (n + m - 1) / m * m
abbrev Bk6 := List (Int × Int)
def kat (K : Bk6) (i : Nat) : Int × Int := K.getD i (1, 1)
def sfin (K : Bk6) (i : Nat) (e : Int) : Int := rup e (kat K i).2 + (kat K i).1
def rend (K : Bk6) : List Nat → Int → Int
  | [], e => e
  | i :: r, e => rend K r (sfin K i e)
def mx : List Int → Int
  | [] => 0
  | [x] => x
  | x :: y :: r => max x (mx (y :: r))
def als (K : Bk6) (r : List Nat) : List Int := r.map fun i => (kat K i).2
def bkD (K : Bk6) : PyData := .tuple (K.map kd)
def ix (i : Nat) : PyData := .int (i : Int)
structure GR (K : Bk6) (r : List Nat) : Prop where
  ne : r ≠ []
  hd : r.length ≤ 100
  ok : ∀ i ∈ r, i < K.length
theorem kat_ok {K : Bk6} (g : GB K) {i : Nat} (h : i < K.length) : GK (kat K i) ∧ K[i]? = some (kat K i) := by
  unfold kat
  rw [List.getD_eq_getElem?_getD, List.getElem?_eq_getElem h]
  exact ⟨g.ok _ (List.getElem_mem h), rfl⟩
@[simp] theorem at_0 {x y : PyData} : atI [x, y] 0 = some x := rfl
@[simp] theorem at_1 {x y : PyData} : atI [x, y] 1 = some y := rfl
@[simp] theorem at_k0 {k : Int × Int} {M : Mem} {Q : Kt} : oIx (.d (kd k)) (.d (.int 0)) M Q = Q (.int k.1) M := by simp [kd]
@[simp] theorem at_k1 {k : Int × Int} {M : Mem} {Q : Kt} : oIx (.d (kd k)) (.d (.int 1)) M Q = Q (.int k.2) M := by simp [kd]
def whole (K : Bk6) (r : List Nat) : Int := rup (rend K r 0) (mx (als K r))
end Sh
set_option Elab.async false
set_option linter.all false
set_option maxRecDepth 100000
namespace Sh
open PySem PySem.Spec L2 L3
structure Sw (w k : Nat) (d : PyData) : Prop where
  sh : d.showable = true
  nd : d.hasDict = false
  ls : d.leavesShort 62 = true
  wt : d.weight ≤ w
  dp : d.depth ≤ k
structure SwA (w k : Nat) (d : List PyData) : Prop where
  sh : PyData.showableAll d = true
  nd : PyData.hasDictAll d = false
  ls : PyData.leavesShortAll 62 d = true
  wt : PyData.weightAll d ≤ w
  dp : PyData.depthAll d ≤ k
theorem Sw.mono {w k w' k' : Nat} {d : PyData} (h : Sw w k d) (hw : w ≤ w') (hk : k ≤ k') : Sw w' k' d := ⟨h.sh, h.nd, h.ls, Nat.le_trans h.wt hw, Nat.le_trans h.dp hk⟩
theorem SwA.mono {w k w' k' : Nat} {d : List PyData} (h : SwA w k d) (hw : w ≤ w') (hk : k ≤ k') : SwA w' k' d := ⟨h.sh, h.nd, h.ls, Nat.le_trans h.wt hw, Nat.le_trans h.dp hk⟩
theorem Sw.ok {w k : Nat} {d : PyData} (h : Sw w k d) (hw : w ≤ 200000) (hk : k ≤ 100) : OkShow d := by
  refine ⟨h.sh, h.nd, Nat.le_trans h.dp hk, ?_⟩
  have := PyData.shown_le 62 (by omega) d h.ls
  have := h.wt
  rw [sizeLine_eq]
  have : (62 + 2) * d.weight ≤ 64 * 200000 := Nat.mul_le_mul (by omega) (by omega)
  omega
end Sh
set_option Elab.async false
set_option linter.all false
set_option maxRecDepth 100000
namespace Sh
open PySem PySem.Spec L2 L3
theorem cut_to {α : Type} {l : List α} {p : Nat} (h : p ≤ l.length) : cutT l none (some (p : Int)) = l.take p := by
  unfold cutT
  have h1 : HT.sIx l.length 0 none = 0 := rfl
  have h2 : HT.sIx l.length l.length (some (p : Int)) = p := by
    show (if (p : Int) < 0 then ((p : Int) + (l.length : Int)).toNat else min (p : Int).toNat l.length) = p
    rw [if_neg (by omega)]
    omega
  rw [h1, h2]
  simp
end Sh
set_option Elab.async false
set_option linter.all false
set_option maxRecDepth 100000
namespace Sh
open PySem PySem.Spec L2 L3
def rm (K : Bk6) (i : Nat) : Int := rup (kat K i).1 (kat K i).2
def num (N : List Int) (i : Nat) : Int := N.getD i 0
def tot (K : Bk6) (N : List Int) : Int := ((List.range K.length).map fun i => num N i * rm K i).sum
def thr (K : Bk6) (N : List Int) : List Nat := (List.range K.length).filter fun i => decide (0 < num N i)
def due (K : Bk6) (N : List Int) : Int := rup (tot K N) (mx (als K (thr K N)))
structure GN (K : Bk6) (N : List Int) : Prop where
  len : N.length = K.length
  ok : ∀ n ∈ N, 0 ≤ n ∧ n ≤ 1000000000000000000000000000000
  pos : ∃ n ∈ N, 0 < n
theorem num_at {N : List Int} {i : Nat} (h : i < N.length) : num N i = N[i] := by
  unfold num
  rw [List.getD_eq_getElem?_getD, List.getElem?_eq_getElem h]
  rfl
theorem GN.gr {K : Bk6} {N : List Int} (g : GN K N) (gb : GB K) : GR K (thr K N) := by
  refine ⟨?_, ?_, fun i hi => ?_⟩
  · obtain ⟨n, hn, h0⟩ := g.pos
    obtain ⟨i, hi, e⟩ := List.getElem_of_mem hn
    intro z
    have h1 := List.filter_eq_nil_iff.mp z i (List.mem_range.mpr (by rw [← g.len]; exact hi))
    rw [num_at hi, e] at h1
    exact h1 (decide_eq_true h0)
  · have h1 := List.length_filter_le (fun i => decide (0 < num N i)) (List.range K.length)
    rw [List.length_range] at h1
    have := gb.six
    unfold thr
    omega
  · exact List.mem_range.mp (List.mem_filter.mp hi).1
end Sh
set_option Elab.async false
set_option linter.all false
set_option maxRecDepth 100000
namespace Sh
open PySem PySem.Spec L2 L3
end Sh
namespace L3
open PySem PySem.Spec L2 PyProof.Rows
def oRepA : F2 := fun x y M Q => match x, y with
  | .d (.tuple xs), .d (.int j) => (xs ≠ [] ∧ 1 ≤ j ∧ j ≤ 1000 ∧ xs.length ≤ 1000) ∧ Q (.tup (List.replicate j.toNat xs).flatten) M
  | _, _ => False
@[simp] theorem x_repA {xs : List PyData} {j : Int} {M : Mem} {Q : Kt} : oRepA (.d (.tuple xs)) (.d (.int j)) M Q = ((xs ≠ [] ∧ 1 ≤ j ∧ j ≤ 1000 ∧ xs.length ≤ 1000) ∧ Q (.tup (List.replicate j.toNat xs).flatten) M) := rfl
end L3
set_option Elab.async false
set_option linter.all false
set_option maxRecDepth 100000
namespace L3
open PySem PySem.Spec L2
section
variable {X : Cx} {e tg : Expr} {m : Me} {pos : Pos} {elt : Expr} {ifs : List Expr} {scope : Scope} {own : List (Str × Nat)} {i : Mi} {g : Mg} {os : List Nat} {mc : Mb}
end
def fPopD (x : T) : FA := fun ts M Q => match x, ts with
  | .mr i, [.d (.int j)] => (match M.D[i]? with
    | some (.lst us) => (0 ≤ j ∧ j < 2 ^ 63 ∧ j.toNat < us.length) ∧ ∀ z, us[j.toNat]? = some z → Q z { M with D := M.D.set i (.lst (us.eraseIdx j.toNat)) }
    | _ => False)
  | _, _ => False
def fInsD (x : T) : FA := fun ts M Q => match x, ts with
  | .mr i, [.d (.int j), t] => (match M.D[i]? with
    | some (.lst us) => (noL t = true ∧ us.length < sizeLine ∧ 0 ≤ j ∧ j < 2 ^ 63) ∧ Q .non { M with D := M.D.set i (.lst (us.take j.toNat ++ [t] ++ us.drop j.toNat)) }
    | _ => False)
  | _, _ => False
section
variable {X : Cx}
end
section
variable {i : Nat} {M : Mem} {Q : Kt} {D : List Cell}
@[simp] theorem x_popDj {j : Int} : fPopD (.mr i) [.d (.int j)] M Q = (match M.D[i]? with
    | some (.lst us) => (0 ≤ j ∧ j < 2 ^ 63 ∧ j.toNat < us.length) ∧ ∀ z, us[j.toNat]? = some z → Q z { M with D := M.D.set i (.lst (us.eraseIdx j.toNat)) }
    | _ => False) := rfl
@[simp] theorem x_insDj {j : Int} {t : T} : fInsD (.mr i) [.d (.int j), t] M Q = (match M.D[i]? with
    | some (.lst us) => (noL t = true ∧ us.length < sizeLine ∧ 0 ≤ j ∧ j < 2 ^ 63) ∧ Q .non { M with D := M.D.set i (.lst (us.take j.toNat ++ [t] ++ us.drop j.toNat)) }
    | _ => False) := rfl
end
section
variable {τ : En} {M : Mem} {E : Es} {d k v : Me} {r : Ma} {Q : Kt}
@[simp] theorem x_lputD : mLPutD d k v E τ M = v τ M fun t M1 => d τ M1 fun x M2 => k τ M2 fun y M3 => match x, y with
  | .mr i, .d (.int j) => (match M3.D[i]? with
    | some (.lst ds) => noL t = true ∧ ∃ n, ixN ds.length j = some n ∧ E.nx τ { M3 with D := M3.D.set i (.lst (ds.set n t)) }
    | _ => False)
  | _, _ => False := rfl
@[simp] theorem x_newD : mNewD r τ M Q = r τ M fun ts M1 => ((∀ t ∈ ts, noL t = true) ∧ ts.length ≤ sizeLine) ∧ Q (.mr M1.D.length) { M1 with D := M1.D ++ [.lst ts] } := rfl
end
def CDvW (i j : Int) : Prop := 0 < j ∧ j.natAbs < 2 ^ 300
def oDivW : F2 := oI CDvW fun i j => .int (i / j)
@[simp] theorem x_divW {i j : Int} {M : Mem} {Q : Kt} : oDivW (.d (.int i)) (.d (.int j)) M Q = (CDvW i j ∧ Q (.int (i / j)) M) := rfl
def mAugI (f : Int → Int → Int) (i : Nat) (m : Me) : Ms := fun E τ M => ∃ t, τ[i]? = some (some t) ∧ m τ M fun u M1 => match t, u with
  | .d (.int a), .d (.int b) => E.nx (τ.set i (some (.int (f a b)))) M1
  | _, _ => False
section
variable {X : Cx} {e : Expr} {m : Me} {pos pos' : Pos} {i : Nat} {x : Str}
end
@[simp] theorem x_augI {f : Int → Int → Int} {i : Nat} {m : Me} {E : Es} {τ : En} {M : Mem} : mAugI f i m E τ M = ∃ t, τ[i]? = some (some t) ∧ m τ M fun u M1 => match t, u with
  | .d (.int a), .d (.int b) => E.nx (τ.set i (some (.int (f a b)))) M1
  | _, _ => False := rfl
def rangeT2 (lo : Int) (n : Nat) : List T := (List.range n).map fun (i : Nat) => T.int (lo + (i : Int))
def iRange2 (r : Ma) : Mi := fun τ M Q => r τ M fun ts M1 => match ts with
  | [.d (.int i), .d (.int j)] => (-(2 ^ 62) ≤ i ∧ i < 2 ^ 62 ∧ -(2 ^ 62) ≤ j ∧ j < 2 ^ 62) ∧ Q (rangeT2 i (j - i).toNat) M1
  | _ => False
@[simp] theorem x_irange2 {a : Ma} {τ : En} {M : Mem} {R : List T → Mem → Prop} : iRange2 a τ M R = a τ M fun ts M1 => match ts with
  | [.d (.int i), .d (.int j)] => (-(2 ^ 62) ≤ i ∧ i < 2 ^ 62 ∧ -(2 ^ 62) ≤ j ∧ j < 2 ^ 62) ∧ R (rangeT2 i (j - i).toNat) M1
  | _ => False := rfl
end L3
set_option Elab.async false
set_option linter.all false
set_option maxRecDepth 100000
namespace L3
open PySem PySem.Spec L2
def rgD (n : Int) : List PyData := (List.range n.toNat).map fun (i : Nat) => .int (i : Int)
def mListR (m : Me) : Me := fun τ M Q => m τ M fun t M1 => match t with
  | .d (.int n) => (0 ≤ n ∧ n ≤ 16777216) ∧ Q (.lst (rgD n)) M1
  | _ => False
theorem rpa_rg {K : PySem.W.Frag} {G : Hp} : ∀ l : List Nat, RpA K G (l.map fun (i : Nat) => V.int (0 + (i : Int))) (l.map fun (i : Nat) => PyData.int (i : Int))
  | [] => .nil
  | i :: l => .cons (by show Rp K G (V.int (0 + (i : Int))) (PyData.int (i : Int)); rw [Int.zero_add]; exact .int _) (rpa_rg l)
theorem me_listR {X : Cx} {a : Expr} {p p2 pos pos2 : Pos} {ma : Me} (hc : X.calm = true) (hg : Gl X "list") (hm : X.mg "list" = none) (hg2 : Gl X "range") (hm2 : X.mg "range" = none) (ha : ME X a ma)
    (hs : starEach [a] X.env = (false, eval a X.env) :: starEach [] X.env := by rfl)
    (hs2 : starEach [.Call (.Name "range" p2) [a] [] pos2] X.env = (false, eval (.Call (.Name "range" p2) [a] [] pos2) X.env) :: starEach [] X.env := by rfl) :
    ME X (.Call (.Name "list" p) [.Call (.Name "range" p2) [a] [] pos2] [] pos) (mListR ma) := PE.of (pe_listRg hc hg hm (prg_1 hg2 hm2 ha hs) hs2) fun σ H Q' ⟨τ, M, B, Q, h, w, s, k⟩ => by
  refine ⟨τ, M, B, _, h, w, s, fun v t M1 B1 H1 h1 w1 e1 r1 => ?_⟩
  split at h1
  · rename_i n
    cases (show Rp X.K B1.G v (.int n) from r1)
    refine ⟨n, rfl, ⟨by omega, by omega, by omega, by omega, by omega⟩, fun q hq => ?_⟩
    obtain ⟨w4, e4⟩ := w1.alloc hq (.lst (rgV 0 n))
    refine k _ _ _ _ _ h1.2 w4 (e1.trans e4) (.lst upd_same ?_)
    unfold rgV rgD
    rw [Int.sub_zero]
    exact rpa_rg _
  · exact h1.elim
@[simp] theorem x_listR {m : Me} {τ : En} {M : Mem} {Q : Kt} : mListR m τ M Q = m τ M fun t M1 => match t with
  | .d (.int n) => (0 ≤ n ∧ n ≤ 16777216) ∧ Q (.lst (rgD n)) M1
  | _ => False := rfl
section
open PyProof.Rows
variable {prog : Program} {w : World} {A : Around} {E : Value → Shared → Prop} {s : Shared} {l : Addr}
end
section
variable {X : Cx} {e : Expr} {es : List Expr} {mr : Ma} {p pos : Pos}
end
end L3
set_option Elab.async false
set_option linter.all false
set_option maxRecDepth 100000
namespace L3
open PySem PySem.Spec L2
def oAddL : F2 := fun x y M Q => match x, y with
  | .d (.list a), .d (.list b) => a.length + b.length ≤ sizeLine ∧ Q (.lr M.L.length) { M with L := M.L ++ [some (a ++ b)] }
  | _, _ => False
@[simp] theorem x_addL {a b : List PyData} {M : Mem} {Q : Kt} : oAddL (.d (.list a)) (.d (.list b)) M Q = (a.length + b.length ≤ sizeLine ∧ Q (.lr M.L.length) { M with L := M.L ++ [some (a ++ b)] }) := rfl
end L3
set_option Elab.async false
set_option linter.all false
set_option maxRecDepth 100000
namespace L3
open PySem PySem.Spec L2 PyProof.Rows
def oRepZ : F2 := fun x y M Q => match x, y with
  | .d (.tuple xs), .d (.int j) => (xs ≠ [] ∧ 0 ≤ j ∧ j ≤ 1000 ∧ xs.length ≤ 1000) ∧ Q (.tup (List.replicate j.toNat xs).flatten) M
  | _, _ => False
@[simp] theorem x_repZ {xs : List PyData} {j : Int} {M : Mem} {Q : Kt} : oRepZ (.d (.tuple xs)) (.d (.int j)) M Q = ((xs ≠ [] ∧ 0 ≤ j ∧ j ≤ 1000 ∧ xs.length ≤ 1000) ∧ Q (.tup (List.replicate j.toNat xs).flatten) M) := rfl
end L3
set_option Elab.async false
set_option linter.all false
set_option maxRecDepth 100000
namespace L3
open PySem PySem.Spec L2
theorem walk_own {K : PySem.W.Frag} {a : Addr} (m : Nat) : Walk (Itl K a) m (fun H => ∃ xs, H a = some (.lst xs) ∧ xs.length = m) fun i H x H' => H' = H ∧ ∀ xs, SqL K H a xs → xs[i]? = some x :=
  ⟨fun i H hi ⟨xs, e, l⟩ => ⟨xs, xs[i]'(by omega), .of e, List.getElem?_eq_getElem (by omega)⟩, fun H ⟨xs, e, l⟩ => ⟨xs, .of e, by omega⟩, fun _ _ _ _ _ _ y => y⟩
section
variable {X : Cx} {e tg : Expr} {m o : Me} {elt : Expr} {ifs : List Expr} {scope : Scope} {own : List (Str × Nat)} {g : Mg} {os : List Nat} {mc : Mb} {pos : Pos}
end
end L3
set_option Elab.async false
set_option linter.all false
set_option maxRecDepth 100000
namespace L3
open PySem PySem.Spec L2
def mDead : Ms := fun _ _ _ => False
theorem ms_dead {X : Cx} {st : Stmt} : MS X st mDead := ⟨fun _ _ _ _ _ _ ⟨_, _, _, _, h, _⟩ => h.elim⟩
@[simp] theorem x_dead {E : Es} {τ : En} {M : Mem} : mDead E τ M = False := rfl
theorem me_gl {X : Cx} {x : Str} {pos : Pos} {d : PyData} (hg : Gl X x) (h : ∃ u v, X.mg x = some u ∧ RelV v u ∧ ∀ G, Rp X.K G v d) (hdb : (x == ("__debug__" : Str)) = false := by decide) : ME X (.Name x pos) (mC d) := by
  obtain ⟨u, v, h1, h2, h3⟩ := h
  exact PE.of (pe_glob hg h1 h2 hdb) fun σ H Q' ⟨τ, M, B, Q, q, w, s, k⟩ => k v (.d d) M B H q w (.refl _ _) (h3 _)
def tyN : PyData → Option String
  | .none => some "NoneType"
  | .bool _ => some "bool"
  | .int _ => some "int"
  | .str _ => some "str"
  | .list _ => some "list"
  | .tuple _ => some "tuple"
  | _ => none
def mIsi (T0 : String) (m : Me) : Me := fun τ M Q => m τ M fun t M1 => match t with
  | .d x => ∃ a r, tyN x = some a ∧ kitB a T0 = some r ∧ Q (.bl r) M1
  | _ => False
@[simp] theorem x_isi {T0 : String} {m : Me} {τ : En} {M : Mem} {Q : Kt} : mIsi T0 m τ M Q = m τ M fun t M1 => match t with
  | .d x => ∃ a r, tyN x = some a ∧ kitB a T0 = some r ∧ Q (.bl r) M1
  | _ => False := rfl
def mSm (f : Str → FA) (o : Me) (r : Ma) : Me := fun τ M Q => o τ M fun x M1 => match x with
  | .d (.str a) => r τ M1 fun ts M2 => f a ts M2 Q
  | _ => False
section
variable {X : Cx} {o e : Expr} {es : List Expr} {mo m : Me} {mr : Ma} {name : Str} {id : String} {apos cpos : Pos} {r : V → List V → Hp → VK → Prop} {f : Str → FA}
end
section
variable {X : Cx} {o x : Expr} {mo : Me} {mr : Ma} {apos cpos : Pos}
end
@[simp] theorem x_sm {f : Str → FA} {o : Me} {r : Ma} {τ : En} {M : Mem} {Q : Kt} : mSm f o r τ M Q = o τ M fun x M1 => match x with
  | .d (.str a) => r τ M1 fun ts M2 => f a ts M2 Q
  | _ => False := rfl
/-- str(i) -/
def fStr : FA := fun ts M Q => match ts with
  | [.d (.int i)] => i.natAbs.log2 < 1920 ∧ Q (.str (toString i)) M
  | _ => False
theorem cal_str {K : PySem.W.Frag} : CaL K (fun xs H Q => ∃ i, xs = [V.int i] ∧ i.natAbs.log2 < 1920 ∧ Q (.str (toString i)) H) fStr := by
  intro xs ts M B H Q Q' h w r k
  unfold fStr at h
  split at h
  · obtain ⟨v, rfl, r1⟩ := paired_one r
    rename_i i
    cases (show Rp K B.G v (.int i) from r1)
    exact ⟨i, rfl, h.1, k _ _ M B H h.2 w (.refl _ _) (.str _)⟩
  · exact h.elim
section
variable {X : Cx} {e : Expr} {es : List Expr} {mr : Ma} {p pos : Pos}
theorem me_strI (hg : Gl X "str") (hm : X.mg "str" = none) (ha : MA X (e :: es) mr) (he : starEach (e :: es) X.env = (false, eval e X.env) :: starEach es X.env := by rfl) (hpl : (backTo pos (starEach es X.env)).any (·.1) = false := by rfl) : ME X (.Call (.Name "str" p) (e :: es) [] pos) (mCall fStr mr) := me_callTy call_str_int cal_str hg hm (by decide +kernel) ha (by decide) (by decide) he hpl
end
end L3
set_option Elab.async false
set_option linter.all false
set_option maxRecDepth 100000
namespace L3
open PySem PySem.Spec L2
theorem rpa_ints' {K : PySem.W.Frag} {G : Hp} : ∀ {is : List Int} {vs : List V}, RpA K G vs (is.map .int) → vs = is.map V.int
  | [], _, .nil => rfl
  | _ :: _, _, .cons p q => by
    cases p
    rw [rpa_ints' q]
    rfl
def oIn (n : Bool) : F2 := fun x y M Q => match x, y with
  | .d (.str a), .d (.str b) => ∃ c, a = ⟨#[c]⟩ ∧ Q (.bl (if n then !decide (c ∈ b.cps.toList) else decide (c ∈ b.cps.toList))) M
  | .d (.int i), .d (.tuple ds) => ∃ is, intsOf ds = some is ∧ Q (.bl (if n then !is.any (· == i) else is.any (· == i))) M
  | _, _ => match now x M, now y M with
    | some a, some (.list ds) => (SeqAt.shaped a = true ∧ SeqAt.shaped (.list ds) = true) ∧ Q (.bl (if n then !ds.any (fun z => PyData.eqv z a) else ds.any (fun z => PyData.eqv z a))) M
    | _, _ => False
def rIns (K : PySem.W.Frag) : R2 := fun x y H Q => (∃ (c : Nat) (z : Str), x = .str ⟨#[c]⟩ ∧ y = .str z ∧ Q (.bl (decide (c ∈ z.cps.toList))) H) ∨ (L2.rIn K false x y H Q ∨ rInD K x y H Q)
theorem inV_ints {i : Int} : ∀ is : List Int, inV (.int i) (is.map V.int) = is.any (· == i)
  | [] => rfl
  | s :: r => by
    have := inV_ints (i := i) r
    unfold inV at this ⊢
    rw [List.map_cons, List.any_cons, List.any_cons, this]
    rfl
theorem flat_ints : ∀ is : List Int, (is.map V.int).all flatV = true
  | [] => rfl
  | s :: r => by
    rw [List.map_cons, List.all_cons, flat_ints r]
    rfl
theorem opl_in {K : PySem.W.Frag} : OpL K (rIns K) (oIn false) := by
  intro x y t u M B H Q Q' h w rx ry k
  unfold oIn at h
  split at h
  · cases rx
    cases ry
    obtain ⟨c, rfl, q⟩ := h
    exact .inl ⟨c, _, rfl, rfl, k _ _ M B H q w (.refl _ _) (.bl _)⟩
  · cases rx
    obtain ⟨is, e, q⟩ := h
    cases intsOf_eq e
    cases ry with
    | tup g r =>
      cases rpa_ints' r
      exact .inr (.inl ⟨_, _, rfl, .inr (SqT.mono w.le g), rfl, flat_ints is, by
        rw [if_neg Bool.false_ne_true, inV_ints]
        exact k _ _ M B H q w (.refl _ _) (.bl _)⟩)
  · split at h
    · rename_i a ds e1 e2
      exact .inr (.inr ⟨a, ds, w.dpNow rx e1, w.dpNow ry e2, h.1.1, h.1.2, k _ _ M B H h.2 w (.refl _ _) (.bl _)⟩)
    · exact h.elim
theorem opr_ins {X : Cx} (hu : X.A.units + 65 < cLine) : OpR X (compareOp .In) (rIns X.K) := op_in_sign.or (op_in_seq.or (op_inD hu))
theorem un65 {k : Nat} {A : Around} (rm : Room k A) : A.units + 65 < cLine := by
  have := rm.un
  omega
section
variable {X : Cx} {a b : Expr} {ma mb : Me} {pos : Pos}
theorem me_in {k : Nat} (rm : Room k X.A) (ha : ME X a ma) (hb : ME X b mb) (hm : behindInMarks .In b = false := by with_unfolding_all rfl) : ME X (.Compare a [.In] [b] pos) (mOp (oIn false) ma mb) := me_cmp (opr_ins (un65 rm)) opl_in ha hb hm
theorem mb_in {k : Nat} (rm : Room k X.A) (ha : ME X a ma) (hb : ME X b mb) (hm : behindInMarks .In b = false := by with_unfolding_all rfl) : MB X (.Compare a [.In] [b] pos) (mTest (mOp (oIn false) ma mb)) := mb_cmp (opr_ins (un65 rm)) opl_in ha hb hm
end
def GlC (K : PySem.W.Frag) (mg : Str → Option Value) (x : Str) (d : PyData) : Prop := ∃ u v, mg x = some u ∧ RelV v u ∧ ∀ G, Rp K G v d
theorem glc_int {K : PySem.W.Frag} {h : Heap} {mg : Str → Option Value} {x : Str} {i : Int} {t : Tok} (X : K.In h) (G : h.Ns mainGlobals mg) (e : PySem.W.nsIn K mainGlobals x = some (some (.int i t))) : GlC K mg x (.int i) :=
  ⟨_, .int i, PySem.W.mg_of X G e, ⟨t, rfl⟩, fun _ => .int i⟩
theorem glc_tup {K : PySem.W.Frag} {h : Heap} {mg : Str → Option Value} {x : Str} {is : List Int} {a : Addr} {its : Array Value} {n : Nat} {sl : Array (Option Value)} (X : K.In h) (G : h.Ns mainGlobals mg) (e : PySem.W.nsIn K mainGlobals x = some (some (.ref a)))
    (l : K.lookup a = some ⟨.type "tuple", none, .seq its n, sl⟩) (hz : its.size ≤ sizeLine) (r : Vals (is.map V.int) its.toList) : GlC K mg x (.tuple (is.map .int)) :=
  ⟨_, .ref a, PySem.W.mg_of X G e, rfl, fun _ => .tup (.inr ⟨_, its, n, l, rfl, rfl, rfl, hz, r⟩) (RpA.of_ints is)⟩
end L3
set_option Elab.async false
set_option linter.all false
set_option maxRecDepth 100000
namespace L3
open PySem PySem.Spec L2
def fIns (x : T) : FA := fun ts M Q => match x, ts with
  | .lr i, [.d (.int j), .d z] => (match M.L[i]? with
    | some (some ds) => (ds.length < sizeLine ∧ 0 ≤ j ∧ j < 2 ^ 63) ∧ Q .non { M with L := M.L.set i (some (ds.take j.toNat ++ [z] ++ ds.drop j.toNat)) }
    | _ => False)
  | _, _ => False
@[simp] theorem x_insL {i : Nat} {M : Mem} {Q : Kt} {j : Int} {z : PyData} : fIns (.lr i) [.d (.int j), .d z] M Q = (match M.L[i]? with
    | some (some ds) => (ds.length < sizeLine ∧ 0 ≤ j ∧ j < 2 ^ 63) ∧ Q .non { M with L := M.L.set i (some (ds.take j.toNat ++ [z] ++ ds.drop j.toNat)) }
    | _ => False) := rfl
end L3
set_option Elab.async false
set_option linter.all false
set_option maxRecDepth 100000
namespace L3
open PySem PySem.Spec L2
end L3
set_option Elab.async false
set_option linter.all false
set_option maxRecDepth 100000
namespace L3
open PySem PySem.Spec L2 PyProof.Rows
section
variable {prog : Program} {w : World} {A : Around} {s : Shared}
/-- a tuple of ints -/
def TupN (h : Heap) (v : Value) (ns : List Int) : Prop := ∃ a n dd sl items, v = .ref a ∧ h.get? a = some { cls := .type "tuple", dict := dd, data := .seq items n, slots := sl } ∧ IntsAre items.toList ns
end
open Classical in
noncomputable def kN (h : Heap) (v : Value) : List Int := if z : ∃ ns, TupN h v ns then choose z else []
section
variable {X : Cx} {a b : Expr} {ma mb : Me} {pos : Pos}
end
end L3
set_option Elab.async false
set_option linter.all false
set_option maxRecDepth 100000
namespace L3
open PySem PySem.Spec L2 PyProof.Rows
end L3
set_option Elab.async false
set_option linter.all false
set_option maxRecDepth 100000
namespace L3
open PySem PySem.Spec L2 PyProof.Rows
def mRevT (m : Me) : Me := fun τ M Q => m τ M fun t M1 => match t with
  | .d (.tuple ds) => Q (.tup ds.reverse) M1
  | _ => False
theorem RpA.reverse {K : PySem.W.Frag} {G : Hp} : ∀ {vs : List V} {ds : List PyData}, RpA K G vs ds → RpA K G vs.reverse ds.reverse
  | _, _, .nil => .nil
  | _, _, .cons p q => by
    rw [List.reverse_cons, List.reverse_cons]
    exact RpA.append (RpA.reverse q) (.cons p .nil)
section
variable {X : Cx} {e o : Expr} {m mo : Me} {mr : Ma} {k : Nat} {p1 p2 p3 pos apos cpos : Pos}
@[simp] theorem x_revT {τ : En} {M : Mem} {Q : Kt} : mRevT m τ M Q = m τ M fun t M1 => match t with
  | .d (.tuple ds) => Q (.tup ds.reverse) M1
  | _ => False := rfl
def mCnt (m : Me) (r : Ma) : Me := fun τ M Q => m τ M fun t M1 => match t with
  | .d (.tuple ds) => r τ M1 fun ts M2 => match ts with
    | [.d (.int k)] => ∃ ns, intsOf ds = some ns ∧ Q (.int (ns.count k : Nat)) M2
    | _ => False
  | _ => False
@[simp] theorem x_count {τ : En} {M : Mem} {Q : Kt} : mCnt m mr τ M Q = m τ M fun t M1 => match t with
  | .d (.tuple ds) => mr τ M1 fun ts M2 => match ts with
    | [.d (.int k)] => ∃ ns, intsOf ds = some ns ∧ Q (.int (ns.count k : Nat)) M2
    | _ => False
  | _ => False := rfl
end
end L3
set_option Elab.async false
set_option linter.all false
set_option maxRecDepth 100000
namespace L3
open PySem PySem.Spec L2 PyProof.Rows
def mAugL (f : Int → Int → Int) (d k v : Me) : Ms := fun E τ M => d τ M fun x M1 => k τ M1 fun y M2 => match x, y with
  | .lr i, .d (.int j) => (match M2.L[i]? with
    | some (some ds) => (0 ≤ j ∧ j < 2 ^ 63) ∧ ∃ a, ds[j.toNat]? = some (.int a) ∧ v τ M2 fun t M3 => match t with
      | .d (.int b) => M3.L[i]? = some (some ds) ∧ E.nx τ { M3 with L := M3.L.set i (some (ds.set j.toNat (.int (f a b)))) }
      | _ => False
    | _ => False)
  | _, _ => False
section
variable {X : Cx} {o i e : Expr} {mo mi me : Me} {mr : Ma} {pos tpos : Pos}
@[simp] theorem x_augL {f : Int → Int → Int} {d k v : Me} {E : Es} {τ : En} {M : Mem} : mAugL f d k v E τ M = d τ M fun x M1 => k τ M1 fun y M2 => match x, y with
  | .lr i, .d (.int j) => (match M2.L[i]? with
    | some (some ds) => (0 ≤ j ∧ j < 2 ^ 63) ∧ ∃ a, ds[j.toNat]? = some (.int a) ∧ v τ M2 fun t M3 => match t with
      | .d (.int b) => M3.L[i]? = some (some ds) ∧ E.nx τ { M3 with L := M3.L.set i (some (ds.set j.toNat (.int (f a b)))) }
      | _ => False
    | _ => False)
  | _, _ => False := rfl
def mPar3 (i j l : Nat) (r : Ma) : Ms := fun E τ M => r τ M fun ts M1 => match ts with
  | [t, u, v] => E.nx (((τ.set i (some t)).set j (some u)).set l (some v)) M1
  | _ => False
@[simp] theorem x_par3 {i j l : Nat} {r : Ma} {E : Es} {τ : En} {M : Mem} : mPar3 i j l r E τ M = r τ M fun ts M1 => match ts with
  | [t, u, v] => E.nx (((τ.set i (some t)).set j (some u)).set l (some v)) M1
  | _ => False := rfl
end
def oMulL : F2 := fun x y M Q => match x, y with
  | .d (.list a), .d (.int j) => (-(2 ^ 63) ≤ j ∧ j < 2 ^ 63 ∧ a.length * j.toNat ≤ sizeLine) ∧ Q (.lr M.L.length) { M with L := M.L ++ [some (List.replicate j.toNat a).flatten] }
  | _, _ => False
@[simp] theorem x_mulL {a : List PyData} {j : Int} {M : Mem} {Q : Kt} : oMulL (.d (.list a)) (.d (.int j)) M Q = ((-(2 ^ 63) ≤ j ∧ j < 2 ^ 63 ∧ a.length * j.toNat ≤ sizeLine) ∧ Q (.lr M.L.length) { M with L := M.L ++ [some (List.replicate j.toNat a).flatten] }) := rfl
end L3
set_option Elab.async false
set_option linter.all false
set_option maxRecDepth 100000
namespace L3
open PySem PySem.Spec L2 PyProof.Rows
theorem Rt.cut {K : PySem.W.Frag} {B B0 : Bk} {v v0 : V} {t : T} (h0 : Rt K { B0 with l := [] } v0 t) (h : Rt K { B with l := [] } v t) : Rt K { B with r := B.r.take B0.r.length, l := [] } v t := by
  cases t with
  | d x => exact h
  | mr i =>
    obtain ⟨a, e, q⟩ := h
    obtain ⟨a0, _, q0⟩ := h0
    have hi : i < B0.r.length := by
      rcases Nat.lt_or_ge i B0.r.length with z | z
      · exact z
      · have q0' : B0.r[i]? = some a0 := q0
        rw [List.getElem?_eq_none z] at q0'
        cases q0'
    refine ⟨a, e, ?_⟩
    show (B.r.take B0.r.length)[i]? = some a
    rw [List.getElem?_take, if_pos hi]
    exact q
  | lr i => exact h
  | scr ns => exact h
  | wt xs => exact h
  | exo a c d e => exact h
  | q x => exact h
theorem paired_cut {K : PySem.W.Frag} {B B0 : Bk} : ∀ {vs0 vs : List V} {ts : List T}, Paired (Rt K { B0 with l := [] }) vs0 ts → Paired (Rt K { B with l := [] }) vs ts → Paired (Rt K { B with r := B.r.take B0.r.length, l := [] }) vs ts
  | _, _, _, .nil, .nil => .nil
  | _, _, _, .cons a q, .cons b r => .cons (Rt.cut a b) (paired_cut q r)
theorem paired_cutD {K : PySem.W.Frag} {B B0 : Bk} : ∀ {vs0 vs : List (Key × V)} {ts : List (Key × T)}, Paired (fun (p : Key × V) (q : Key × T) => p.1 = q.1 ∧ Rt K { B0 with l := [] } p.2 q.2) vs0 ts → Paired (fun (p : Key × V) (q : Key × T) => p.1 = q.1 ∧ Rt K { B with l := [] } p.2 q.2) vs ts → Paired (fun (p : Key × V) (q : Key × T) => p.1 = q.1 ∧ Rt K { B with r := B.r.take B0.r.length, l := [] } p.2 q.2) vs ts
  | _, _, _, .nil, .nil => .nil
  | _, _, _, .cons a q, .cons b r => .cons ⟨b.1, Rt.cut a.2 b.2⟩ (paired_cutD q r)
theorem paired_cutS {K : PySem.W.Frag} {B B0 : Bk} : ∀ {vs0 vs : List (Str × V)} {ts : List (Str × T)}, Paired (fun (p : Str × V) (q : Str × T) => p.1 = q.1 ∧ Rt K { B0 with l := [] } p.2 q.2) vs0 ts → Paired (fun (p : Str × V) (q : Str × T) => p.1 = q.1 ∧ Rt K { B with l := [] } p.2 q.2) vs ts → Paired (fun (p : Str × V) (q : Str × T) => p.1 = q.1 ∧ Rt K { B with r := B.r.take B0.r.length, l := [] } p.2 q.2) vs ts
  | _, _, _, .nil, .nil => .nil
  | _, _, _, .cons a q, .cons b r => .cons ⟨b.1, Rt.cut a.2 b.2⟩ (paired_cutS q r)
theorem paired_cutN {K : PySem.W.Frag} {B B0 : Bk} : ∀ {vs0 vs : List (NestedKey × Addr × V)} {ts : List (NestedKey × T)}, Paired (fun (p : NestedKey × Addr × V) (q : NestedKey × T) => p.1 = q.1 ∧ okKey 8 q.1 = true ∧ Rp K B0.G (.ref p.2.1) q.1.data ∧ Rt K { B0 with l := [] } p.2.2 q.2) vs0 ts →
    Paired (fun (p : NestedKey × Addr × V) (q : NestedKey × T) => p.1 = q.1 ∧ okKey 8 q.1 = true ∧ Rp K B.G (.ref p.2.1) q.1.data ∧ Rt K { B with l := [] } p.2.2 q.2) vs ts →
    Paired (fun (p : NestedKey × Addr × V) (q : NestedKey × T) => p.1 = q.1 ∧ okKey 8 q.1 = true ∧ Rp K B.G (.ref p.2.1) q.1.data ∧ Rt K { B with r := B.r.take B0.r.length, l := [] } p.2.2 q.2) vs ts
  | _, _, _, .nil, .nil => .nil
  | _, _, _, .cons a q, .cons b r => .cons ⟨b.1, b.2.1, b.2.2.1, Rt.cut a.2.2.2 b.2.2.2⟩ (paired_cutN q r)
theorem paired_cutK {K : PySem.W.Frag} {B B0 : Bk} : ∀ {vs0 vs : List (NestedKey × Addr × V)} {ts : List (PyData × T)}, Paired (fun (p : NestedKey × Addr × V) (q : PyData × T) => nk q.1 = some p.1 ∧ okKey 8 p.1 = true ∧ Rp K B0.G (.ref p.2.1) q.1 ∧ Rt K { B0 with l := [] } p.2.2 q.2) vs0 ts →
    Paired (fun (p : NestedKey × Addr × V) (q : PyData × T) => nk q.1 = some p.1 ∧ okKey 8 p.1 = true ∧ Rp K B.G (.ref p.2.1) q.1 ∧ Rt K { B with l := [] } p.2.2 q.2) vs ts →
    Paired (fun (p : NestedKey × Addr × V) (q : PyData × T) => nk q.1 = some p.1 ∧ okKey 8 p.1 = true ∧ Rp K B.G (.ref p.2.1) q.1 ∧ Rt K { B with r := B.r.take B0.r.length, l := [] } p.2.2 q.2) vs ts
  | _, _, _, .nil, .nil => .nil
  | _, _, _, .cons a q, .cons b r => .cons ⟨b.1, b.2.1, b.2.2.1, Rt.cut a.2.2.2 b.2.2.2⟩ (paired_cutK q r)
theorem Wd.cut {K : PySem.W.Frag} {B B0 : Bk} {M : Mem} {D : List Cell} {H H0 : Hp} (w0 : Wd K B0 ⟨D, []⟩ H0) (w : Wd K B M H) (hD : M.D.take D.length = D) : Wd K { B with r := B.r.take B0.r.length, l := [] } ⟨D, []⟩ H := by
  have nr : B.r.Nodup := (List.nodup_append.mp w.nd).1
  have l0 : B0.r.length = D.length := w0.rlen
  refine ⟨w.le, ?_, rfl, ?_, fun i a c h1 h2 => ?_, fun i a ds h1 _ => ?_, fun a ha => ?_⟩
  · show (B.r.take B0.r.length).length = D.length
    have := congrArg List.length hD
    rw [List.length_take] at this
    rw [List.length_take, w.rlen, l0]
    exact this
  · show (B.r.take B0.r.length ++ []).Nodup
    rw [List.append_nil]
    exact nr.sublist (List.take_sublist _ _)
  · have h1' : (B.r.take B0.r.length)[i]? = some a := h1
    have h2' : D[i]? = some c := h2
    rw [List.getElem?_take] at h1'
    split at h1'
    · rename_i hi
      have h3 : M.D[i]? = some c := by
        rw [← hD, List.getElem?_take] at h2'
        split at h2'
        · exact h2'
        · cases h2'
      obtain ⟨z1, z2⟩ := w.dc i a c h1' h3
      obtain ⟨z3, z4⟩ := w0.dc i (B0.r[i]'hi) c (List.getElem?_eq_getElem hi) h2'
      refine ⟨z1, ?_⟩
      cases c with
      | lst ts =>
        obtain ⟨xs, e1, e2⟩ := z2
        obtain ⟨xs0, _, e3⟩ := z4
        exact ⟨xs, e1, paired_cut e3 e2⟩
      | dct kvs =>
        obtain ⟨xs, e1, e2⟩ := z2
        obtain ⟨xs0, _, e3⟩ := z4
        exact ⟨xs, e1, paired_cutD e3 e2⟩
      | held u => exact z2
      | ins c fs =>
        obtain ⟨C, dx, vs, hc, e1, e2⟩ := z2
        obtain ⟨_, _, _, _, _, e3⟩ := z4
        exact ⟨C, dx, vs, hc, e1, paired_cutS e3 e2⟩
      | tup ts =>
        obtain ⟨o, xs, e1, ho, e2⟩ := z2
        obtain ⟨_, _, _, _, e3⟩ := z4
        exact ⟨o, xs, e1, ho, paired_cut e3 e2⟩
      | exc f2 e2 => exact z2
      | dnd kvs =>
        obtain ⟨xs, e1, e2⟩ := z2
        obtain ⟨xs0, _, e3⟩ := z4
        exact ⟨xs, e1, paired_cutK e3 e2⟩
      | dnk kvs =>
        obtain ⟨xs, e1, e2⟩ := z2
        obtain ⟨xs0, _, e3⟩ := z4
        exact ⟨xs, e1, paired_cutN e3 e2⟩
    · cases h1'
  · have h1' : ([] : List Addr)[i]? = some a := h1
    simp at h1'
  · have ha' : a ∈ B.r.take B0.r.length ++ [] := ha
    rw [List.append_nil] at ha'
    exact w.tr a (List.mem_append_left _ (List.mem_of_mem_take ha'))
theorem Ext.cut {B B0 : Bk} {H H0 : Hp} (e : Ext B0 H0 B H) : Ext B0 H0 { B with r := B.r.take B0.r.length, l := B0.l } H := by
  have er : B.r.take B0.r.length = B0.r := by
    obtain ⟨c, hc⟩ := e.r
    rw [← hc, List.take_left]
  exact ⟨e.g, by show B0.r <+: B.r.take B0.r.length; rw [er]; exact List.prefix_refl _, List.prefix_refl _, e.fr, e.tr, fun a z => .inl (by have z' : a ∈ B.r.take B0.r.length := z; rw [er] at z'; exact z'), fun a z => .inl z, e.gf⟩
end L3
set_option Elab.async false
set_option linter.all false
set_option maxRecDepth 100000
namespace L3
open PySem PySem.Spec L2 PyProof.Rows
theorem KT.lookN {K : PySem.W.Frag} {B : Bk} {vs : List (Key × V)} {ts : List (Key × T)} {k : Key} (h : KT K B vs ts) : (valV vs k).isSome = (lookT ts k).isSome := by
  induction h with
  | nil => rfl
  | @cons p q ps qs f _ ih =>
    by_cases z : q.1 = k
    · have e' : lookT (q :: qs) k = some q.2 := by simp [lookT, List.find?_cons, z]
      rw [e', valV_pos (f.1.trans z)]
      rfl
    · have e' : lookT (q :: qs) k = lookT qs k := by simp [lookT, List.find?_cons, z]
      rw [e', valV_neg fun y => z (f.1.symm.trans y), ih]
def oDIn (n : Bool) : F2 := fun x y M Q => match keyOf x, y with
  | some k, .mr i => (match M.D[i]? with
    | some (.dct kvs) => Q (.bl (if n then !(lookT kvs k).isSome else (lookT kvs k).isSome)) M
    | _ => False)
  | _, _ => False
@[simp] theorem x_din {n : Bool} {j : Int} {i : Nat} {M : Mem} {Q : Kt} : oDIn n (.d (.int j)) (.mr i) M Q = (match M.D[i]? with
    | some (.dct kvs) => Q (.bl (if n then !(lookT kvs (.inl j)).isSome else (lookT kvs (.inl j)).isSome)) M
    | _ => False) := rfl
@[simp] theorem x_keyI {j : Int} : keyOf (.d (.int j)) = some (.inl j) := rfl
section
variable {X : Cx} {o i : Expr} {mo mi : Me} {pos : Pos}
def mDNew : Me := fun _ M Q => Q (.mr M.D.length) { M with D := M.D ++ [.dct []] }
@[simp] theorem x_dnew {τ : En} {M : Mem} {Q : Kt} : mDNew τ M Q = Q (.mr M.D.length) { M with D := M.D ++ [.dct []] } := rfl
end
end L3
set_option Elab.async false
set_option linter.all false
set_option maxRecDepth 100000
namespace Sh
open PySem PySem.Spec L2 L3
theorem pig : ∀ (n : Nat) (l : List Nat), l.Nodup → (∀ x ∈ l, x < n) → l.length ≤ n
  | 0, l, _, h => by
    cases l with
    | nil => simp
    | cons a l => exact absurd (h a List.mem_cons_self) (by omega)
  | n + 1, l, nd, h => by
    have h1 := pig n (l.erase n) (nd.erase n) fun x hx => by
      have := (nd.mem_erase_iff).mp hx
      have := h x this.2
      omega
    have h2 := List.length_erase (a := n) (l := l)
    split at h2 <;> omega
structure Kn (P : Int → T → Prop) (kvs : List (Key × T)) : Prop where
  nd : (kvs.map (·.1)).Nodup
  ok : ∀ p ∈ kvs, ∃ j : Int, p.1 = .inl j ∧ 0 ≤ j ∧ j < 64 ∧ P j p.2
theorem Kn.nil {P : Int → T → Prop} : Kn P [] := ⟨List.nodup_nil, fun p h => nomatch h⟩
theorem Kn.put {P : Int → T → Prop} {kvs : List (Key × T)} {j : Int} {t : T} (h : Kn P kvs) (h0 : 0 ≤ j) (h1 : j < 64) (hp : P j t) : Kn P (putT kvs (.inl j) t) := by
  unfold putT
  split
  · refine ⟨?_, fun p hm => ?_⟩
    · have e : (kvs.map fun kv => if kv.1 = (.inl j : Key) then (kv.1, t) else kv).map (·.1) = kvs.map (·.1) := by
        rw [List.map_map]
        refine List.map_congr_left fun kv _ => ?_
        show (if kv.1 = (.inl j : Key) then (kv.1, t) else kv).1 = kv.1
        split <;> rfl
      rw [e]
      exact h.nd
    · obtain ⟨kv, hk, rfl⟩ := List.mem_map.mp hm
      by_cases z : kv.1 = (.inl j : Key)
      · rw [if_pos z]
        exact ⟨j, z, h0, h1, hp⟩
      · rw [if_neg z]
        exact h.ok kv hk
  · rename_i hn
    refine ⟨?_, fun p hm => ?_⟩
    · rw [List.map_append]
      refine List.nodup_append.mpr ⟨h.nd, by simp, fun a ha b hb => ?_⟩
      rw [List.mem_singleton.mp hb]
      rintro rfl
      obtain ⟨kv, hk, e⟩ := List.mem_map.mp ha
      exact hn (List.any_eq_true.mpr ⟨kv, hk, decide_eq_true e⟩)
    · rcases List.mem_append.mp hm with z | z
      · exact h.ok p z
      · rw [List.mem_singleton.mp z]
        exact ⟨j, rfl, h0, h1, hp⟩
theorem Kn.look {P : Int → T → Prop} {kvs : List (Key × T)} {j : Int} {t : T} (h : Kn P kvs) (e : lookT kvs (.inl j) = some t) : P j t := by
  unfold lookT at e
  cases hf : kvs.find? fun kv => decide (kv.1 = (.inl j : Key)) with
  | none => rw [hf] at e; cases e
  | some p =>
    rw [hf] at e
    cases e
    have h0 := List.find?_some hf
    have h1 : p.1 = (.inl j : Key) := of_decide_eq_true h0
    obtain ⟨i, a, _, _, d⟩ := h.ok p (List.mem_of_find?_eq_some hf)
    rw [h1] at a
    cases a
    exact d
def kN : Key → Nat
  | .inl j => j.toNat
  | _ => 0
theorem Kn.len {P : Int → T → Prop} {kvs : List (Key × T)} (h : Kn P kvs) : kvs.length ≤ 64 := by
  have := pig 64 (kvs.map fun p => kN p.1) ?_ fun x hx => ?_
  · simpa using this
  · have nd := h.nd
    unfold List.Nodup at nd ⊢
    rw [List.pairwise_map] at nd ⊢
    refine List.Pairwise.imp_of_mem (fun {a b} ha hb hne => ?_) nd
    obtain ⟨i, e1, i0, _, _⟩ := h.ok a ha
    obtain ⟨j, e2, j0, _, _⟩ := h.ok b hb
    rw [e1, e2] at hne ⊢
    intro z
    have z' : i.toNat = j.toNat := z
    exact hne (by rw [show i = j by omega])
  · obtain ⟨p, hp, rfl⟩ := List.mem_map.mp hx
    obtain ⟨j, e, j0, j1, _⟩ := h.ok p hp
    rw [e]
    show j.toNat < 64
    omega
end Sh
set_option Elab.async false
set_option linter.all false
set_option maxRecDepth 100000
namespace Wl
open PySem PySem.Spec L2 L3
theorem w_an {R : List T → Mem → Prop} {τ : En} {M : Mem} (h : R [] M) : aNil τ M R := h
theorem w_c {x : PyData} {τ : En} {M : Mem} {Q : Kt} (h : Q (.d x) M) : mC x τ M Q := h
theorem ifT {p q : Prop} {b : Bool} (h : b = true) (x : p) : if b = true then p else q := by
  rw [if_pos h]
  exact x
theorem ifF {p q : Prop} {b : Bool} (h : ¬ b = true) (x : q) : if b = true then p else q := by
  rw [if_neg h]
  exact x
end Wl
set_option Elab.async false
set_option linter.all false
set_option maxRecDepth 100000
set_option maxHeartbeats 2000000
namespace L3
open PySem PySem.Spec L2
/-- the exception of the class cls, its dict at d, is e -/
def Rx (K : PySem.W.Frag) (mg : Str → Option Value) (G : Hp) (cls : Value) (d : Option Addr) (e : Exn) : Prop := mg e.cls = some cls ∧ ExR K G d e
abbrev Wx := Exn → Mem → Prop
abbrev Wxs := Exn → En → Mem → Prop
abbrev MeX := Wx → Me
abbrev MaX := Wx → Ma
abbrev MsX := Wxs → Ms
def GoW (K : PySem.W.Frag) (mg : Str → Option Value) (Wt : Wx) (W : WX) (σ : St) (B : Bk) (H : Hp) : Prop := ∀ e cls d M' B' H', Wt e M' → Wd K B' M' H' → Ext B H B' H' → Rx K mg B'.G cls d e → W cls d σ H'
def GoS (K : PySem.W.Frag) (mg : Str → Option Value) (Wt : Wxs) (W : WX) (B : Bk) (H : Hp) : Prop := ∀ e cls d τ' M' B' σ' H', Wt e τ' M' → Wd K B' M' H' → Ext B H B' H' → Sl K B' σ' τ' → Rx K mg B'.G cls d e → W cls d σ' H'
theorem GoS.at {K : PySem.W.Frag} {mg : Str → Option Value} {Wt : Wxs} {W : WX} {B : Bk} {H : Hp} {σ : St} {τ : En} (g : GoS K mg Wt W B H) (s : Sl K B σ τ) : GoW K mg (fun e M => Wt e τ M) W σ B H := fun e c d M' B' H' h w y r => g e c d τ M' B' σ H' h w y (s.mono y) r
section
variable {X : Cx} {a b e : Expr} {es : List Expr} {m : Me} {mx my : MeX} {mr : Ma} {mrx : MaX} {mc : Mb} {pos : Pos}
end
section
variable {X : Cx} {e c tg : Expr} {m : Me} {mx : MeX} {mc : Mb} {st : Stmt} {sts a b : List Stmt} {s : Ms} {sx rx : MsX} {pos : Pos} {g : Mg}
end
/-- what the written part says of an exception class -/
structure ExF (K : PySem.W.Frag) (C : Addr) : Prop where
  kp : PySem.W.keepIn K (.ref C) = true
  su : PySem.W.subIn K (.ref C) (.type "BaseException") = some true
  ty : PySem.W.typeIn K (.ref C) = some (.type "type")
  cl : (PySem.W.clsIn K C).isSome = true
  ga : PySem.W.findIn K (.ref C) "__getattribute__" = some (some (.builtin "BaseException.__getattribute__"))
  gt : PySem.W.findIn K (.ref C) "__getattr__" = some none
  ha : PySem.W.findIn K (.ref C) "__class__" = some (some (.builtin "object.__class__"))
  hn : PySem.W.specialIn K (.builtin "object.__class__") "__get__" = some (some (.builtin "getset_descriptor.__get__"))
  tk : PySem.W.takesIn K (.builtin "object.__class__") = some true
  mo : PySem.W.mroIn K C (.type "object") = some true
abbrev tailVE : List Value := [.type "ValueError", .type "Exception", .type "BaseException", .type "object"]
section
variable {X : Cx}
end
abbrev FX := List T → List Cell → (T → List Cell → Prop) → (Exn → List Cell → Prop) → Prop
structure FnX (P : Program) (w : World) (K : PySem.W.Frag) (mg : Str → Option Value) (base : Heap) (k : Nat) (f : Addr) (fd : FuncData) (ps : List Str) (sp : Sp) : Prop where
  len : ∀ vs H Q E, sp vs H Q E → vs.length = ps.length
  run : ∀ (A : Around) (outer : List Env) (sh : Shared) (H : Hp) (args : Args) (us : List Value) (vs : List V) (Q : VK) (E : XK), Gd A → Room k A → Env0 P w K mg base A outer sh H → BindsTo sh fd args (ps.zip us) → Vals vs us → sp vs H Q E →
    codeAny (model P w) A (.call (.ref f) args) (CR (L2.CX P w) outer P w H sh Q E) sh
theorem FnX.mono {P : Program} {w : World} {K : PySem.W.Frag} {mg : Str → Option Value} {base : Heap} {j k : Nat} {f : Addr} {fd : FuncData} {ps : List Str} {sp : Sp} (F : FnX P w K mg base j f fd ps sp) (h : j ≤ k) : FnX P w K mg base k f fd ps sp :=
  ⟨F.len, fun A outer sh H args us vs Q E gd rm => F.run A outer sh H args us vs Q E gd (rm.mono h)⟩
theorem Ext.leave {B B' : Bk} {H H' : Hp} (lB : B.l = []) (e : Ext B H B' H') : Ext B H { B' with l := [] } H' :=
  ⟨e.g, e.r, by rw [lB]; exact List.nil_prefix, e.fr, e.tr, e.rn, fun a z => absurd z (by simp), e.gf⟩
/-- back in the frame that called: its own lists are there again -/
theorem back_wd {K : PySem.W.Frag} {M : Mem} {B B1 : Bk} {H H1 : Hp} {D' : List Cell} (w : Wd K B M H) (w1 : Wd K B1 ⟨D', []⟩ H1) (e1 : Ext { B with l := [] } H B1 H1) :
    Wd K { B1 with l := B.l } { M with D := D' } H1 ∧ Ext B H { B1 with l := B.l } H1 := by
  have l1 : B1.l = [] := List.length_eq_zero_iff.mp w1.llen
  have own : ∀ a ∈ B.l, H a ≠ none := fun a z => w.tr a (List.mem_append_right _ z)
  have nr1 : ∀ a ∈ B.l, a ∉ B1.r := fun a z y => by
    rcases e1.rn a y with q | q
    · exact w.rl q z
    · exact own a z q
  have stay : ∀ {a : Addr} {o : HO}, a ∈ B.l → H a = some o → H1 a = some o := fun {a o} z e => e1.fr a o e (fun y => w.rl y z) fun y => by cases y
  refine ⟨⟨w1.le, w1.rlen, w.llen, ?_, w1.dc, fun i a ds h1 h2 => ?_, fun a ha => ?_⟩, ⟨e1.g, e1.r, List.prefix_refl _, fun a o e n1 n2 => e1.fr a o e n1 (by intro y; cases y), e1.tr, e1.rn, fun a z => .inl z, fun a o e => (e1.gf a o e).elim .inl fun z => z.elim (fun z => .inr (.inl z)) (by intro z; cases z)⟩⟩
  · show (B1.r ++ B.l).Nodup
    have n1 := w1.nd
    rw [l1, List.append_nil] at n1
    refine List.nodup_append.mpr ⟨n1, (List.nodup_append.mp w.nd).2.1, fun x hx y hy z => ?_⟩
    subst z
    exact nr1 x hy hx
  · obtain ⟨q1, xs, q2, q3⟩ := w.lc i a ds h1 h2
    have ml := mem_of_get h1
    refine ⟨?_, xs, stay ml q2, RpA.mono e1.g q3⟩
    show B1.G a = none
    cases z : B1.G a with
    | none => rfl
    | some o =>
      rcases e1.gf a o z with y | y | y
      · rw [show B.G a = none from q1] at y; cases y
      · exact absurd y (own a ml)
      · cases y
  · have ha' : a ∈ B1.r ++ B.l := ha
    rcases List.mem_append.mp ha' with z | z
    · exact w1.tr a (List.mem_append_left _ z)
    · exact fun y => own a z (e1.tr a y)
section
variable {X : Cx} {j k : Nat} {x : Str} {st : Stmt} {f : Addr} {fd : FuncData} {ps ks : List Str} {m : FX} {p pos : Pos} {e : Expr} {es : List Expr} {mr : Ma} {kws : List Keyword}
end
end L3
set_option Elab.async false
set_option linter.all false
set_option maxRecDepth 100000
set_option maxHeartbeats 2000000
namespace L3
open PySem PySem.Spec L2
section
variable {X : Cx} {x n : Str} {cs : List Str} {i : Nat} {body suite : List Stmt} {b₀ : Stmt} {np pos pos' : Pos} {mb : MsX} {ms : Addr → Value → Option Addr → Exn → Ms} {mo : Ms}
end
section
variable {X : Cx} {a : Addr} {oe : Obj} {cls : Value} {d : Option Addr} {e : Exn} {pn : List (Addr × Obj)} {i : Nat} {x n : Str} {p p2 p3 pos : Pos}
end
end L3
namespace L3
open PySem PySem.Spec L2
theorem exf_of {K : PySem.W.Frag} {C : Addr} (kp : PySem.W.keepIn K (.ref C) = true) (su : PySem.W.subIn K (.ref C) (.type "BaseException") = some true) (ty : PySem.W.typeIn K (.ref C) = some (.type "type")) (cl : PySem.W.isClsIn K C = true)
    (ga : PySem.W.findIn K (.ref C) "__getattribute__" = some (some (.builtin "BaseException.__getattribute__"))) (gt : PySem.W.findIn K (.ref C) "__getattr__" = some none) (ha : PySem.W.findIn K (.ref C) "__class__" = some (some (.builtin "object.__class__")))
    (hn : PySem.W.specialIn K (.builtin "object.__class__") "__get__" = some (some (.builtin "getset_descriptor.__get__"))) (tk : PySem.W.takesIn K (.builtin "object.__class__") = some true) (mo : PySem.W.mroIn K C (.type "object") = some true) : ExF K C :=
  ⟨kp, su, ty, cl, ga, gt, ha, hn, tk, mo⟩
theorem all_cons {α : Type} {P : α → Prop} {a : α} {l : List α} (h : P a) (t : ∀ x ∈ l, P x) : ∀ x ∈ a :: l, P x := fun x hx => by
  rcases List.mem_cons.mp hx with e | e
  · rw [e]; exact h
  · exact t x e
section
variable {X : Cx} {a : Addr} {oe : Obj} {cls : Value} {d : Option Addr} {e : Exn} {pn : List (Addr × Obj)} {i : Nat} {x n : Str} {p p2 p3 pos : Pos}
end
end L3
namespace L3
open PySem PySem.Spec L2
theorem w_ret {m : Me} {E : Es} {τ : En} {M : Mem} (h : m τ M E.rt) : mRet m E τ M := h
theorem w_set {i : Nat} {m : Me} {E : Es} {τ : En} {M : Mem} (h : m τ M fun t M1 => E.nx (τ.set i (some t)) M1) : mSet i m E τ M := h
theorem w_next {E : Es} {τ : En} {M : Mem} (h : E.nx τ M) : mNext E τ M := h
theorem w_ac {m : Me} {a : Ma} {τ : En} {M : Mem} {R : List T → Mem → Prop} (h : m τ M fun x M1 => a τ M1 fun xs M2 => R (x :: xs) M2) : aCons m a τ M R := h
theorem w_lst {a : Ma} {τ : En} {M : Mem} {Q : Kt} (h : a τ M fun ts M1 => match datas ts with
    | some ds => ds.length ≤ sizeLine ∧ Q (.lst ds) M1
    | none => False) : mLst a τ M Q := h
theorem w_call {f : FA} {a : Ma} {τ : En} {M : Mem} {Q : Kt} (h : a τ M fun ts M1 => f ts M1 Q) : mCall f a τ M Q := h
theorem w_op {f : F2} {m r : Me} {τ : En} {M : Mem} {Q : Kt} (h : m τ M fun x M1 => r τ M1 fun y M2 => f x y M2 Q) : mOp f m r τ M Q := h
end L3
set_option Elab.async false
set_option linter.all false
set_option maxRecDepth 100000
set_option maxHeartbeats 2000000
namespace L3
open PySem PySem.Spec L2 PyProof.Rows
section
variable {X : Cx} {pn : List (Addr × Obj)} {sg : L2.St} {H : Hp} {s : Shared}
mutual
theorem nk_data : ∀ k : NestedKey, nk k.data = some k
  | .none => rfl
  | .num i => rfl
  | .text x => rfl
  | .tup ks => by rw [NestedKey.data, nk, nks_datas ks]; rfl
theorem nks_datas : ∀ ks : List NestedKey, nks (NestedKey.datas ks) = some ks
  | [] => rfl
  | k :: ks => by rw [NestedKey.datas, nks, nk_data k, nks_datas ks]
end
end
/-- at b stands the tuple that is the key k -/
def KeyAt (K : PySem.W.Frag) (H : Hp) (b : Addr) (k : NestedKey) : Prop := okKey 8 k = true ∧ ∃ d, nk d = some k ∧ Rp K H (.ref b) d
theorem KeyAt.of {K : PySem.W.Frag} {H : Hp} {b : Addr} {k : NestedKey} (h : okKey 8 k = true) (r : Rp K H (.ref b) k.data) : KeyAt K H b k := ⟨h, _, nk_data k, r⟩
def lookE (es : List (NestedKey × Addr × V)) (k : NestedKey) : Option V := (es.find? fun e => decide (e.1 = k)).map (·.2.2)
def putE (es : List (NestedKey × Addr × V)) (k : NestedKey) (b : Addr) (v : V) : List (NestedKey × Addr × V) :=
  if (lookE es k).isSome then es.map fun e => if e.1 = k then (e.1, e.2.1, v) else e else es ++ [(k, b, v)]
abbrev PrE (es : List (NestedKey × Addr × V)) (xs : List (NestedKey × Addr × Value)) : Prop := Paired (fun (p : NestedKey × Addr × V) (q : NestedKey × Addr × Value) => p.1 = q.1 ∧ p.2.1 = q.2.1 ∧ RelV p.2.2 q.2.2) es xs
theorem PrE.look {es : List (NestedKey × Addr × V)} {xs : List (NestedKey × Addr × Value)} (r : PrE es xs) (k : NestedKey) : RelO (lookE es k) ((atKey xs k).map (·.2)) := by
  unfold PrE at r
  induction r with
  | nil => trivial
  | @cons p q ps qs f _ ih =>
    by_cases z : p.1 = k
    · have e1 : lookE (p :: ps) k = some p.2.2 := by simp [lookE, List.find?_cons, z]
      have e2 : (atKey (q :: qs) k).map (·.2) = some q.2.2 := by simp [atKey, List.find?_cons, f.1.symm.trans z]
      rw [e1, e2]
      exact f.2.2
    · have z2 : ¬ q.1 = k := fun y => z (f.1.trans y)
      have e1 : lookE (p :: ps) k = lookE ps k := by simp [lookE, List.find?_cons, z]
      have e2 : (atKey (q :: qs) k).map (·.2) = (atKey qs k).map (·.2) := by simp [atKey, List.find?_cons, z2]
      rw [e1, e2]
      exact ih
theorem PrE.repl {es : List (NestedKey × Addr × V)} {xs : List (NestedKey × Addr × Value)} (r : PrE es xs) (k : NestedKey) {v : V} {u : Value} (rv : RelV v u) :
    PrE (es.map fun e => if e.1 = k then (e.1, e.2.1, v) else e) (xs.map (putAt k u)) := by
  unfold PrE at r
  induction r with
  | nil => exact .nil
  | @cons p q ps qs f _ ih =>
    refine .cons ?_ ih
    by_cases z : p.1 = k
    · have e1 : (fun e : NestedKey × Addr × V => if e.1 = k then (e.1, e.2.1, v) else e) p = (p.1, p.2.1, v) := if_pos z
      have e2 : putAt k u q = (q.1, q.2.1, u) := if_pos (f.1.symm.trans z)
      rw [e1, e2]
      exact ⟨f.1, f.2.1, rv⟩
    · have e1 : (fun e : NestedKey × Addr × V => if e.1 = k then (e.1, e.2.1, v) else e) p = p := if_neg z
      have e2 : putAt k u q = q := if_neg fun y => z (f.1.trans y)
      rw [e1, e2]
      exact f
theorem PrE.put {es : List (NestedKey × Addr × V)} {xs : List (NestedKey × Addr × Value)} (r : PrE es xs) (k : NestedKey) (b : Addr) {v : V} {u : Value} (rv : RelV v u) : PrE (putE es k b v) (storedH xs k b u) := by
  have e : (lookE es k).isSome = (atKey xs k).isSome := by
    have := (r.look k).isSome_eq
    rw [Option.isSome_map] at this
    exact this
  unfold putE storedH
  rw [e]
  by_cases q : (atKey xs k).isSome = true
  · rw [if_pos q, if_pos q]
    exact r.repl k rv
  · rw [if_neg q, if_neg q]
    exact Paired.snoc r ⟨rfl, rfl, rv⟩
theorem PrE.keys {es : List (NestedKey × Addr × V)} {xs : List (NestedKey × Addr × Value)} (r : PrE es xs) : es.map (·.1) = xs.map (·.1) := by
  unfold PrE at r
  induction r with
  | nil => rfl
  | cons f _ ih => rw [List.map_cons, List.map_cons, ih, f.1]
section
variable {P : Program} {w : World} {H : Hp} {h h' : Heap} {a : Addr} {es : List (NestedKey × Addr × V)}
end
section
variable {X : Cx} {pn : List (Addr × Obj)} {sg : L2.St} {H : Hp} {s : Shared} {a b : Addr} {es : List (NestedKey × Addr × V)} {k : NestedKey} {v : V} {u : Value} {A : Around} {E : Value → Shared → Prop}
end
def lookN (kvs : List (NestedKey × T)) (k : NestedKey) : Option T := (kvs.find? fun kv => decide (kv.1 = k)).map (·.2)
def putN (kvs : List (NestedKey × T)) (k : NestedKey) (t : T) : List (NestedKey × T) :=
  if (lookN kvs k).isSome then kvs.map fun kv => if kv.1 = k then (kv.1, t) else kv else kvs ++ [(k, t)]
abbrev NT (K : PySem.W.Frag) (B : Bk) (es : List (NestedKey × Addr × V)) (kvs : List (NestedKey × T)) : Prop := Paired (fun (p : NestedKey × Addr × V) (q : NestedKey × T) => p.1 = q.1 ∧ okKey 8 q.1 = true ∧ Rp K B.G (.ref p.2.1) q.1.data ∧ Rt K { B with l := [] } p.2.2 q.2) es kvs
theorem NT.look {K : PySem.W.Frag} {B : Bk} {es : List (NestedKey × Addr × V)} {kvs : List (NestedKey × T)} (r : NT K B es kvs) (k : NestedKey) : (lookE es k).isSome = (lookN kvs k).isSome ∧ ∀ t, lookN kvs k = some t → ∃ v, lookE es k = some v ∧ Rt K { B with l := [] } v t := by
  unfold NT at r
  induction r with
  | nil => exact ⟨rfl, fun t e => (nomatch e)⟩
  | @cons p q ps qs f _ ih =>
    by_cases z : q.1 = k
    · have e1 : lookE (p :: ps) k = some p.2.2 := by simp [lookE, List.find?_cons, f.1.trans z]
      have e2 : lookN (q :: qs) k = some q.2 := by simp [lookN, List.find?_cons, z]
      rw [e1, e2]
      exact ⟨rfl, fun t e => by cases e; exact ⟨_, rfl, f.2.2.2⟩⟩
    · have z2 : ¬ p.1 = k := fun y => z (f.1.symm.trans y)
      have e1 : lookE (p :: ps) k = lookE ps k := by simp [lookE, List.find?_cons, z2]
      have e2 : lookN (q :: qs) k = lookN qs k := by simp [lookN, List.find?_cons, z]
      rw [e1, e2]
      exact ih
theorem NT.repl {K : PySem.W.Frag} {B : Bk} {es : List (NestedKey × Addr × V)} {kvs : List (NestedKey × T)} (r : NT K B es kvs) (k : NestedKey) {v : V} {t : T} (rv : Rt K { B with l := [] } v t) :
    NT K B (es.map fun e => if e.1 = k then (e.1, e.2.1, v) else e) (kvs.map fun kv => if kv.1 = k then (kv.1, t) else kv) := by
  unfold NT at r
  induction r with
  | nil => exact .nil
  | @cons p q ps qs f _ ih =>
    refine .cons ?_ ih
    by_cases z : q.1 = k
    · have e1 : (fun e : NestedKey × Addr × V => if e.1 = k then (e.1, e.2.1, v) else e) p = (p.1, p.2.1, v) := if_pos (f.1.trans z)
      have e2 : (fun kv : NestedKey × T => if kv.1 = k then (kv.1, t) else kv) q = (q.1, t) := if_pos z
      rw [e1, e2]
      exact ⟨f.1, f.2.1, f.2.2.1, rv⟩
    · have e1 : (fun e : NestedKey × Addr × V => if e.1 = k then (e.1, e.2.1, v) else e) p = p := if_neg fun y => z (f.1.symm.trans y)
      have e2 : (fun kv : NestedKey × T => if kv.1 = k then (kv.1, t) else kv) q = q := if_neg z
      rw [e1, e2]
      exact f
theorem NT.put {K : PySem.W.Frag} {B : Bk} {es : List (NestedKey × Addr × V)} {kvs : List (NestedKey × T)} (r : NT K B es kvs) {k : NestedKey} {b : Addr} (hk : okKey 8 k = true) (hb : Rp K B.G (.ref b) k.data) {v : V} {t : T} (rv : Rt K { B with l := [] } v t) :
    NT K B (putE es k b v) (putN kvs k t) := by
  unfold putE putN
  rw [(r.look k).1]
  split
  · exact r.repl k rv
  · exact Paired.snoc r ⟨rfl, hk, hb, rv⟩
theorem NT.at {K : PySem.W.Frag} {B : Bk} {M : Mem} {H : Hp} {es : List (NestedKey × Addr × V)} {kvs : List (NestedKey × T)} (w : Wd K B M H) (r : NT K B es kvs) : ∀ e ∈ es, KeyAt K H e.2.1 e.1 := by
  unfold NT at r
  induction r with
  | nil => intro e he; cases he
  | @cons p q ps qs f _ ih =>
    intro e he
    rcases List.mem_cons.mp he with z | he
    · subst z
      rw [← f.1] at f
      exact .of f.2.1 (w.rp f.2.2.1)
    · exact ih e he
section
variable {X : Cx} {o i e f value : Expr} {mo mi mv mz : Me} {pos pos' apos cpos : Pos} {kk : Nat}
end
end L3
set_option Elab.async false
set_option linter.all false
set_option maxRecDepth 100000
set_option maxHeartbeats 2000000
namespace L3
open PySem PySem.Spec L2 PyProof.Rows
end L3
set_option Elab.async false
set_option linter.all false
set_option maxRecDepth 100000
set_option maxHeartbeats 2000000
namespace L3
open PySem PySem.Spec L2 PyProof.Rows
end L3
set_option Elab.async false
set_option linter.all false
set_option maxRecDepth 100000
set_option maxHeartbeats 2000000
namespace L3
open PySem PySem.Spec L2
def T.lo (n : Nat) : T → Bool
  | .mr i => decide (i < n)
  | _ => true
def Cell.lo (n : Nat) : Cell → Bool
  | .lst ts => ts.all (T.lo n)
  | .dct kvs => kvs.all fun p => T.lo n p.2
  | .dnk kvs => kvs.all fun p => T.lo n p.2
  | .held _ => true
  | .ins _ fs => fs.all fun p => T.lo n p.2
  | .tup ts => ts.all (T.lo n)
  | .exc _ _ => true
  | .dnd kvs => kvs.all fun p => T.lo n p.2
def clo (n : Nat) (D : List Cell) : Prop := (D.take n).all (Cell.lo n) = true
theorem Rt.cutL {K : PySem.W.Frag} {B : Bk} {n : Nat} {v : V} {t : T} (h0 : T.lo n t = true) (h : Rt K { B with l := [] } v t) : Rt K { B with r := B.r.take n, l := [] } v t := by
  cases t with
  | d x => exact h
  | mr i =>
    obtain ⟨a, e, q⟩ := h
    have hi : i < n := of_decide_eq_true h0
    refine ⟨a, e, ?_⟩
    show (B.r.take n)[i]? = some a
    rw [List.getElem?_take, if_pos hi]
    exact q
  | lr i => exact h
  | scr ns => exact h
  | wt xs => exact h
  | exo a c d e => exact h
  | q x => exact h
theorem paired_cutL {K : PySem.W.Frag} {B : Bk} {n : Nat} : ∀ {vs : List V} {ts : List T}, ts.all (T.lo n) = true → Paired (Rt K { B with l := [] }) vs ts → Paired (Rt K { B with r := B.r.take n, l := [] }) vs ts
  | _, _, _, .nil => .nil
  | _, _, h, .cons b r => by
    rw [List.all_cons, Bool.and_eq_true] at h
    exact .cons (Rt.cutL h.1 b) (paired_cutL h.2 r)
theorem paired_cutLD {K : PySem.W.Frag} {B : Bk} {n : Nat} : ∀ {vs : List (Key × V)} {ts : List (Key × T)}, (ts.all fun p => T.lo n p.2) = true → Paired (fun (p : Key × V) (q : Key × T) => p.1 = q.1 ∧ Rt K { B with l := [] } p.2 q.2) vs ts → Paired (fun (p : Key × V) (q : Key × T) => p.1 = q.1 ∧ Rt K { B with r := B.r.take n, l := [] } p.2 q.2) vs ts
  | _, _, _, .nil => .nil
  | _, _, h, .cons b r => by
    rw [List.all_cons, Bool.and_eq_true] at h
    exact .cons ⟨b.1, Rt.cutL h.1 b.2⟩ (paired_cutLD h.2 r)
theorem paired_cutLS {K : PySem.W.Frag} {B : Bk} {n : Nat} : ∀ {vs : List (Str × V)} {ts : List (Str × T)}, (ts.all fun p => T.lo n p.2) = true → Paired (fun (p : Str × V) (q : Str × T) => p.1 = q.1 ∧ Rt K { B with l := [] } p.2 q.2) vs ts → Paired (fun (p : Str × V) (q : Str × T) => p.1 = q.1 ∧ Rt K { B with r := B.r.take n, l := [] } p.2 q.2) vs ts
  | _, _, _, .nil => .nil
  | _, _, h, .cons b r => by
    rw [List.all_cons, Bool.and_eq_true] at h
    exact .cons ⟨b.1, Rt.cutL h.1 b.2⟩ (paired_cutLS h.2 r)
theorem paired_cutLN {K : PySem.W.Frag} {B : Bk} {n : Nat} : ∀ {vs : List (NestedKey × Addr × V)} {ts : List (NestedKey × T)}, (ts.all fun p => T.lo n p.2) = true →
    Paired (fun (p : NestedKey × Addr × V) (q : NestedKey × T) => p.1 = q.1 ∧ okKey 8 q.1 = true ∧ Rp K B.G (.ref p.2.1) q.1.data ∧ Rt K { B with l := [] } p.2.2 q.2) vs ts →
    Paired (fun (p : NestedKey × Addr × V) (q : NestedKey × T) => p.1 = q.1 ∧ okKey 8 q.1 = true ∧ Rp K B.G (.ref p.2.1) q.1.data ∧ Rt K { B with r := B.r.take n, l := [] } p.2.2 q.2) vs ts
  | _, _, _, .nil => .nil
  | _, _, h, .cons b r => by
    rw [List.all_cons, Bool.and_eq_true] at h
    exact .cons ⟨b.1, b.2.1, b.2.2.1, Rt.cutL h.1 b.2.2.2⟩ (paired_cutLN h.2 r)
theorem paired_cutLK {K : PySem.W.Frag} {B : Bk} {n : Nat} : ∀ {vs : List (NestedKey × Addr × V)} {ts : List (PyData × T)}, (ts.all fun p => T.lo n p.2) = true →
    Paired (fun (p : NestedKey × Addr × V) (q : PyData × T) => nk q.1 = some p.1 ∧ okKey 8 p.1 = true ∧ Rp K B.G (.ref p.2.1) q.1 ∧ Rt K { B with l := [] } p.2.2 q.2) vs ts →
    Paired (fun (p : NestedKey × Addr × V) (q : PyData × T) => nk q.1 = some p.1 ∧ okKey 8 p.1 = true ∧ Rp K B.G (.ref p.2.1) q.1 ∧ Rt K { B with r := B.r.take n, l := [] } p.2.2 q.2) vs ts
  | _, _, _, .nil => .nil
  | _, _, h, .cons b r => by
    rw [List.all_cons, Bool.and_eq_true] at h
    exact .cons ⟨b.1, b.2.1, b.2.2.1, Rt.cutL h.1 b.2.2.2⟩ (paired_cutLK h.2 r)
theorem Wd.cutL {K : PySem.W.Frag} {B : Bk} {M : Mem} {H : Hp} {n : Nat} (w : Wd K B M H) (hD : clo n M.D) : Wd K { B with r := B.r.take n, l := [] } ⟨M.D.take n, []⟩ H := by
  have nr : B.r.Nodup := (List.nodup_append.mp w.nd).1
  refine ⟨w.le, ?_, rfl, ?_, fun i a c h1 h2 => ?_, fun i a ds h1 _ => ?_, fun a ha => ?_⟩
  · show (B.r.take n).length = (M.D.take n).length
    rw [List.length_take, List.length_take, w.rlen]
  · show (B.r.take n ++ []).Nodup
    rw [List.append_nil]
    exact nr.sublist (List.take_sublist _ _)
  · have h1' : (B.r.take n)[i]? = some a := h1
    have h2' : (M.D.take n)[i]? = some c := h2
    have hc : Cell.lo n c = true := List.all_eq_true.mp hD c (List.mem_of_getElem? h2')
    rw [List.getElem?_take] at h1' h2'
    split at h1'
    · rename_i hi
      rw [if_pos hi] at h2'
      obtain ⟨z1, z2⟩ := w.dc i a c h1' h2'
      refine ⟨z1, ?_⟩
      cases c with
      | lst ts =>
        obtain ⟨xs, e1, e2⟩ := z2
        exact ⟨xs, e1, paired_cutL hc e2⟩
      | dct kvs =>
        obtain ⟨xs, e1, e2⟩ := z2
        exact ⟨xs, e1, paired_cutLD hc e2⟩
      | held u => exact z2
      | ins c fs =>
        obtain ⟨C, dx, vs, hc1, e1, e2⟩ := z2
        exact ⟨C, dx, vs, hc1, e1, paired_cutLS hc e2⟩
      | tup ts =>
        obtain ⟨o, xs, e1, ho, e2⟩ := z2
        exact ⟨o, xs, e1, ho, paired_cutL hc e2⟩
      | exc f2 e2 => exact z2
      | dnd kvs =>
        obtain ⟨xs, e1, e2⟩ := z2
        exact ⟨xs, e1, paired_cutLK hc e2⟩
      | dnk kvs =>
        obtain ⟨xs, e1, e2⟩ := z2
        exact ⟨xs, e1, paired_cutLN hc e2⟩
    · cases h1'
  · have h1' : ([] : List Addr)[i]? = some a := h1
    simp at h1'
  · have ha' : a ∈ B.r.take n ++ [] := ha
    rw [List.append_nil] at ha'
    exact w.tr a (List.mem_append_left _ (List.mem_of_mem_take ha'))
def mDefC (n N : Nat) (body : Ms) : FD := fun ts D Q => ts.length = n ∧ body { nx := fun _ M => clo D.length M.D ∧ Q .non (M.D.take D.length), rt := fun t M => (∃ x, t = .d x) ∧ clo D.length M.D ∧ Q t (M.D.take D.length) } (ts.map some ++ List.replicate (N - n) none) ⟨D, []⟩
theorem okC_def {P : Program} {w : World} {K : PySem.W.Frag} {mg : Str → Option Value} {base : Heap} {x qual : Str} {st : Stmt} {f : Addr} {fd : FuncData} {N ps : List Str} {k : Nat} {m : Ms}
    (F : Fun K x qual st f fd) (S : FnScope N ps (defScope st))
    (body : ∀ (cdv : Value) (A : Around) (outer : List Env) (sh : Shared) (H : Hp) (E : XK), Gd (A.deeper (PyProof.Rows.envOfC qual (defScope st) sh.heap.objs.size f cdv)) → Room k (A.deeper (PyProof.Rows.envOfC qual (defScope st) sh.heap.objs.size f cdv)) →
      MSs (cxOf CX0 P w K mg base N qual (defScope st) f cdv A outer sh H E).nox (defBody st) m) :
    FnG P w K mg base (k + 1) f fd ps (spM K (mDefC ps.length N.length m)) := by
  refine fng_of F S (fun vs H Q E h => ?_) fun cdv A outer sh H vs Q E gd rm h => ?_
  · obtain ⟨ts, D, B, Q1, ⟨h1, _⟩, _, r, _⟩ := h
    exact (paired_len r).trans h1
  · obtain ⟨ts, D, B, Q1, ⟨h1, h2⟩, wd, r, kk⟩ := h
    refine ⟨_, body cdv A outer sh H E gd rm, ?_⟩
    have lB : B.l = [] := List.length_eq_zero_iff.mp wd.llen
    have lr : B.r.length = D.length := wd.rlen
    have s0 := start_sl (N := N) r
    rw [h1] at s0
    refine ⟨_, _, ⟨D, []⟩, B, h2, wd, s0, ⟨fun τ' M' B' σ' H' q w' e' s' => ?_, fun v t M' B' H' q w' e' r' => ?_, fun _ _ _ _ _ q => q.elim, fun _ _ _ _ _ q => q.elim⟩⟩
    · have e2 := e'.cut
      rw [lB, lr] at e2
      exact kk .non .non _ _ H' q.2 (Wd.cutL w' q.1) e2 .non
    · obtain ⟨⟨x, rfl⟩, q1, q2⟩ := q
      have e2 := e'.cut
      rw [lB, lr] at e2
      exact kk v (.d x) _ _ H' q2 (Wd.cutL w' q1) e2 r'
def fDefC (m : FD) : FA := fun ts M Q => ∃ n, n ≤ M.D.length ∧ clo n M.D ∧ (∀ t ∈ ts, noL t = true ∧ T.lo n t = true) ∧ m ts (M.D.take n) fun t D' => D'.length = n ∧ Q t { M with D := D' ++ M.D.drop n }
theorem paired_deckL {K : PySem.W.Frag} {B : Bk} {n : Nat} : ∀ {vs : List V} {ts : List T}, Paired (Rt K B) vs ts → (∀ t ∈ ts, noL t = true ∧ T.lo n t = true) → Paired (Rt K { B with r := B.r.take n, l := [] }) vs ts
  | _, _, .nil, _ => .nil
  | _, _, .cons p q, h => .cons (Rt.cutL (h _ (List.mem_cons_self ..)).2 (p.deck (h _ (List.mem_cons_self ..)).1)) (paired_deckL q fun t z => h t (List.mem_cons_of_mem _ z))
theorem sp_ofC {K : PySem.W.Frag} {m : FD} {vs : List V} {ts : List T} {M : Mem} {B : Bk} {H : Hp} {Q : Kt} {Q' : VK} {E : XK} (h : fDefC m ts M Q) (w : Wd K B M H) (r : Paired (Rt K B) vs ts)
    (k : ∀ v t' M' B' H', Q t' M' → Wd K B' M' H' → Ext B H B' H' → Rt K B' v t' → Q' v H') : spM K m vs H Q' E := by
  obtain ⟨n, hn, hc, hts, h⟩ := h
  refine ⟨ts, M.D.take n, { B with r := B.r.take n, l := [] }, _, h, w.cutL hc, paired_deckL r hts, fun v t D' B1 H1 q w1 e1 r1 => ?_⟩
  obtain ⟨hl, q⟩ := q
  have l1 : B1.l = [] := List.length_eq_zero_iff.mp w1.llen
  have rl1 : B1.r.length = n := by rw [w1.rlen]; exact hl
  have er : B1.r = B.r.take n := by
    have hp : B.r.take n <+: B1.r := e1.r
    exact (hp.eq_of_length (by rw [rl1, List.length_take, w.rlen]; omega)).symm
  have pre : B1.r <+: B.r := by rw [er]; exact List.take_prefix _ _
  have own : ∀ a ∈ B.r ++ B.l, H a ≠ none := fun a z => w.tr a z
  have nG : ∀ a, H a ≠ none → B.G a = none → B1.G a = none := fun a ha hb => by
    cases z : B1.G a with
    | none => rfl
    | some o =>
      rcases e1.gf a o z with y | y | y
      · rw [show B.G a = none from hb] at y; cases y
      · exact absurd y ha
      · cases y
  have e' : Ext B H { B1 with r := B.r, l := B.l } H1 :=
    ⟨e1.g, List.prefix_refl _, List.prefix_refl _, fun a o e n1 n2 => e1.fr a o e (fun y => n1 (List.mem_of_mem_take y)) (by intro y; cases y), e1.tr, fun a z => .inl z, fun a z => .inl z, fun a o e => (e1.gf a o e).elim .inl fun z => z.elim (fun z => .inr (.inl z)) (by intro z; cases z)⟩
  have ndr : B.r.Nodup := (List.nodup_append.mp w.nd).1
  refine k v t { M with D := D' ++ M.D.drop n } { B1 with r := B.r, l := B.l } H1 q ⟨w1.le, ?_, w.llen, w.nd, fun i a c h1 h2 => ?_, fun i a ds h1 h2 => ?_, fun a ha => fun y => own a ha (e1.tr a y)⟩ e' ?_
  · show B.r.length = (D' ++ M.D.drop n).length
    rw [List.length_append, List.length_drop, hl, w.rlen]
    omega
  · have h1' : B.r[i]? = some a := h1
    have h2' : (D' ++ M.D.drop n)[i]? = some c := h2
    rcases Nat.lt_or_ge i n with z | z
    · rw [List.getElem?_append_left (by omega)] at h2'
      have h3 : B1.r[i]? = some a := by
        rw [er, List.getElem?_take, if_pos z]
        exact h1'
      obtain ⟨q1, q2⟩ := w1.dc i a c h3 h2'
      exact ⟨q1, CellAt.mono (B := B1) (fun _ _ e => e) pre rfl q2⟩
    · rw [List.getElem?_append_right (by omega), List.getElem?_drop, hl, show n + (i - n) = i by omega] at h2'
      obtain ⟨q1, q2⟩ := w.dc i a c h1' h2'
      have ha : H a ≠ none := own a (List.mem_append_left _ (mem_of_get h1'))
      have nt : a ∉ B.r.take n := fun y => by
        obtain ⟨j, hj, e⟩ := List.getElem_of_mem y
        rw [List.getElem_take] at e
        have hj2 : j < n := by rw [List.length_take] at hj; omega
        have hj3 : j < B.r.length := by rw [List.length_take] at hj; omega
        obtain ⟨hi, e2⟩ := List.getElem?_eq_some_iff.mp h1'
        have := (List.getElem_inj (h₀ := hj3) (h₁ := hi) ndr).mp (e.trans e2.symm)
        omega
      refine ⟨nG a ha q1, CellAt.mono (B := B) e1.g (List.prefix_refl _) ?_ q2⟩
      cases z : H a with
      | none => exact absurd z ha
      | some o => exact e1.fr a o z nt (by intro y; cases y)
  · obtain ⟨q1, xs, q2, q3⟩ := w.lc i a ds h1 h2
    have ml : a ∈ B.l := mem_of_get h1
    exact ⟨nG a (own a (List.mem_append_right _ ml)) q1, xs, e1.fr a _ q2 (fun y => w.rl (List.mem_of_mem_take y) ml) (by intro y; cases y), RpA.mono e1.g q3⟩
  · cases t with
    | d x => exact r1
    | mr i =>
      obtain ⟨a, e, z⟩ := r1
      refine ⟨a, e, ?_⟩
      obtain ⟨c, hc⟩ := pre
      show B.r[i]? = some a
      rw [← hc]
      rw [List.getElem?_append_left (List.getElem?_eq_some_iff.mp z).1]
      exact z
    | lr i =>
      obtain ⟨a, _, z⟩ := r1
      rw [l1] at z
      simp at z
    | scr ns => exact r1
    | wt xs => exact r1
    | exo a c d e => exact r1
    | q x => exact r1
section
variable {X : Cx} {j k : Nat} {f : Addr} {fd : FuncData} {ps ks : List Str} {m : FD} {st : Stmt} {x : Str} {p pos : Pos} {e : Expr} {es : List Expr} {mr mk : Ma} {kws : List Keyword}
theorem me_callC (F : FnG X.prog X.w X.K X.mg X.base k f fd ps (spM X.K m)) (gd : Gd X.A) (rm : Room k X.A) (hg : Gl X x) (hm : X.mg x = some (.ref f)) (hk : PySem.W.keepIn X.K (.ref f) = true) (hb : Binds X.K fd ps [])
    (ha : MA X (e :: es) mr) (hdb : (x == ("__debug__" : Str)) = false := by decide) (he : starEach (e :: es) X.env = (false, eval e X.env) :: starEach es X.env := by rfl) (hpl : (backTo pos (starEach es X.env)).any (·.1) = false := by rfl) :
    ME X (.Call (.Name x p) (e :: es) [] pos) (mCall (fDefC m) mr) := by
  refine ⟨fun pn sh sg hp Q' iv ⟨τ, M, B, Q, h, w, s, kk⟩ => wpAny_Call_Name_kw (ld_glob iv hg hm ?_ hdb)⟩
  let P := fun (vs : List V) (H1 : Hp) => spM X.K m vs H1 Q' E0
  refine PySem.W.callWith_K (h₀ := X.base) iv.ok.mod.kin hk (thn (ha.run pos pn sh sg hp P iv ⟨τ, M, B, _, h, w, s, fun vs ts M1 B1 H1 h1 w1 e1 r1 => ?_⟩) fun us s1 ⟨vs, H1, i1, r, q⟩ => ⟨i1.kIn, ?_⟩) he hpl
  · exact sp_ofC h1 w1 r1 fun v t M2 B2 H2 h2 w2 e2 r2 => kk v t M2 B2 H2 h2 w2 (e1.trans e2) r2
  · have hl : (us ++ []).length = ps.length := by
      rw [List.append_nil, ← r.length]
      exact F.len _ _ _ _ q
    have hbb := hb s1 us i1.kIn hl
    rw [List.append_nil] at hbb
    exact run_g (args := ⟨us, []⟩) F gd rm hbb i1 r q
theorem me_fnC (h : Kn X.prog X.w X.K X.mg X.base j x st ps m) (gd : Gd X.A) (rm : Room k X.A) (hj : j ≤ k) (hg : Gl X x) (ha : MA X (e :: es) mr) (hdb : (x == ("__debug__" : Str)) = false := by decide)
    (he : starEach (e :: es) X.env = (false, eval e X.env) :: starEach es X.env := by rfl) (hpl : (backTo pos (starEach es X.env)).any (·.1) = false := by rfl) : ME X (.Call (.Name x p) (e :: es) [] pos) (mCall (fDefC m) mr) :=
  let ⟨_, _, F, hm, U, hb⟩ := h
  me_callC F gd (rm.mono hj) hg hm U.kp hb ha hdb he hpl
end
end L3
set_option Elab.async false
set_option linter.all false
set_option maxRecDepth 100000
namespace Wm
open PySem PySem.Spec L2 L3 Sh
theorem two_ok : 2 ≤ sizeLine := sz64' (show 2 ≤ 100000 by decide)
theorem sz3 : 3 ≤ sizeLine := sz64' (show 3 ≤ 100000 by decide)
theorem sz1 : 1 ≤ sizeLine := sz64' (show 1 ≤ 100000 by decide)
theorem sz4' : 4 ≤ sizeLine := sz64' (show 4 ≤ 100000 by decide)
theorem w_test {m : Me} {τ : En} {M : Mem} {R : Bool → Mem → Prop} (h : m τ M fun x M1 => ∃ k, x = .d (.bool k) ∧ R k M1) : mTest m τ M R := h
theorem w_bor {c d : Mb} {τ : En} {M : Mem} {R : Bool → Mem → Prop} (h : c τ M fun k M1 => if k = true then R true M1 else d τ M1 R) : bOr c d τ M R := h
theorem w_bnot {c : Mb} {τ : En} {M : Mem} {R : Bool → Mem → Prop} (h : c τ M fun k M1 => R (!k) M1) : bNot c τ M R := h
theorem w_par {i j : Nat} {r : Ma} {E : Es} {τ : En} {M : Mem} (h : r τ M fun ts M1 => match ts with
  | [t, u] => E.nx ((τ.set i (some t)).set j (some u)) M1
  | _ => False) : mPar i j r E τ M := h
theorem w_and {a b : Me} {τ : En} {M : Mem} {Q : Kt} (h : a τ M fun t M1 => match t with
  | .d (.bool true) => b τ M1 Q
  | .d (.bool false) => Q (.bl false) M1
  | _ => False) : mAnd a b τ M Q := h
theorem w_slT {m : Me} {b : Nat} {n : Int} {τ : En} {M : Mem} {Q : Kt} (hb : τ[b]? = some (some (.int n))) (h : m τ M fun x M1 => oSl x none (some n) M1 Q) : mSl m oNone (oPart (mVar b)) τ M Q := by
  unfold mSl oPart mVar oNone
  have e : (fun x M1 => oSl x none (some n) M1 Q) = (fun x M1 => (fun Q2 => Q2 none M1) fun l M2 => (fun Q1 => ∃ t, τ[b]? = some (some t) ∧ (match t with | .d (.int i) => Q1 (some i) M2 | _ => False)) fun u M3 => oSl x l u M3 Q) := by
    funext x M1
    exact propext ⟨fun z => ⟨.int n, hb, z⟩, fun ⟨t, ht, z⟩ => by
      rw [hb] at ht
      cases ht
      exact z⟩
  rw [e] at h
  exact h
theorem w_asg {m : Me} {g : Mg} {E : Es} {τ : En} {M : Mem} (h : m τ M fun t M1 => g t τ M1 E.nx) : mAsg m g E τ M := h
theorem w_yes {τ : En} {M : Mem} {R : Bool → Mem → Prop} (h : R true M) : bYes τ M R := h
theorem er_map {α β : Type} (f : α → β) : ∀ (l : List α) (k : Nat), (l.map f).eraseIdx k = (l.eraseIdx k).map f
  | [], _ => rfl
  | _ :: _, 0 => rfl
  | a :: l, k + 1 => by
    rw [List.map_cons, List.eraseIdx_cons_succ, List.eraseIdx_cons_succ, List.map_cons, er_map f l k]
theorem w_eqS {a : Str} {M : Mem} {Q : Kt} (q : Q (.bl true) M) : oEq false (.d (.str a)) (.d (.str a)) M Q := by
  rw [x_eqs]
  simpa using q
end Wm
set_option Elab.async false
set_option linter.all false
set_option maxRecDepth 100000
set_option maxHeartbeats 2000000
namespace L3
open PySem PySem.Spec L2
theorem keepD {B2 B4 : Bk} {H2 H4 : Hp} {D : Addr} {vs : List V} (d2 : H2 D = some (.lst vs)) (g2 : B2.G D = none) (n2 : D ∉ B2.r) (l2 : D ∉ B2.l) (e4 : Ext B2 H2 B4 H4) : H4 D = some (.lst vs) ∧ B4.G D = none ∧ D ∉ B4.r ∧ D ∉ B4.l := by
  refine ⟨e4.fr D _ d2 n2 l2, ?_, fun z => ?_, fun z => ?_⟩
  · cases q : B4.G D with
    | none => rfl
    | some o =>
      rcases e4.gf D o q with z | z | z
      · rw [g2] at z; cases z
      · rw [d2] at z; cases z
      · exact absurd z l2
  · rcases e4.rn D z with q | q
    · exact n2 q
    · rw [d2] at q; cases q
  · rcases e4.ln D z with q | q
    · exact l2 q
    · rw [d2] at q; cases q
structure BkLe (B B' : Bk) : Prop where
  g : ∀ a o, B.G a = some o → B'.G a = some o
  r : B.r <+: B'.r
  l : B.l <+: B'.l
theorem BkLe.of {B B' : Bk} {H H' : Hp} (x : Ext B H B' H') : BkLe B B' := ⟨x.g, x.r, x.l⟩
theorem BkLe.refl (B : Bk) : BkLe B B := ⟨fun _ _ e => e, List.prefix_refl _, List.prefix_refl _⟩
theorem BkLe.trans {B B1 B2 : Bk} (x : BkLe B B1) (y : BkLe B1 B2) : BkLe B B2 := ⟨fun a o e => y.g a o (x.g a o e), x.r.trans y.r, x.l.trans y.l⟩
theorem Sl.le {K : PySem.W.Frag} {B B' : Bk} (x : BkLe B B') {σ : L2.St} {τ : En} (s : Sl K B σ τ) : Sl K B' σ τ :=
  ⟨s.len, fun i t e => let ⟨v, h, q⟩ := s.at_ i t e; ⟨v, h, Rt.mono' x.g x.r x.l q⟩⟩
section
variable {X : Cx} {elt tg tg1 e e1 : Expr} {ifs ifs1 : List Expr} {scope : Scope} {own : List (Str × Nat)} {i i1 : Mi} {g g1 : Mg} {os os1 : List Nat} {mc mc1 : Mb} {m : Me} {vs1 : List Nat} {pos : Pos}
variable {n : Nat} {y : Str} {py spos : Pos}
end
end L3
set_option Elab.async false
set_option linter.all false
set_option maxRecDepth 100000
set_option maxHeartbeats 2000000
namespace L3
open PySem PySem.Spec L2 PySem.W PyProof.Rows
end L3
set_option Elab.async false
set_option linter.all false
set_option maxRecDepth 100000
set_option maxHeartbeats 2000000
namespace Itp
open PySem PySem.Spec
open Sem (wp)
open AutoSeq1 (wpAny_loadPart')
theorem sub_self : isSubtype (.type "itertools.permutations") (.type "itertools.permutations") = pure true := by rw [isSubtype_type]; kernel_rfl
def cyc (n : Nat) : List Nat := (List.range n).map fun i => n - i
end Itp
set_option Elab.async false
set_option linter.all false
set_option maxRecDepth 100000
set_option maxHeartbeats 2000000
namespace Itp
open PySem PySem.Spec
open Sem (wp)
open AutoSeq1 (wpAny_loadPart')
end Itp
set_option Elab.async false
set_option linter.all false
set_option maxRecDepth 100000
set_option maxHeartbeats 2000000
namespace Itp
open PySem PySem.Spec
open Sem (wp)
open AutoSeq1 (wpAny_loadPart')
section
variable {prog : Program} {w : World} {A : Around} {E : Value → Shared → Prop} {s : Shared}
/-- the next order of the places -/
def perNext (n : Nat) : Nat → List Nat → List Nat → Option (List Nat × List Nat)
  | 0, _, _ => none
  | i + 1, ix, cy =>
    if (cy.getD i 0 - 1 == 0) = true then perNext n i (ix.take i ++ ix.drop (i + 1) ++ [ix.getD i 0]) (cy.set i (n - i))
    else some ((ix.set i (ix.getD (n - (cy.getD i 0 - 1)) 0)).set (n - (cy.getD i 0 - 1)) (ix.getD i 0), cy.set i (cy.getD i 0 - 1))
end
end Itp
set_option Elab.async false
set_option linter.all false
set_option maxRecDepth 100000
set_option maxHeartbeats 2000000
namespace Itp
open PySem PySem.Spec
open Sem (wp)
def prun (n : Nat) : Nat → List Nat × List Nat → List (List Nat × List Nat)
  | 0, _ => []
  | f + 1, st => st :: match perNext n n st.1 st.2 with
    | some st2 => prun n f st2
    | none => []
def psts (n : Nat) : List (List Nat × List Nat) := prun n 721 (List.range n, cyc n)
end Itp
set_option Elab.async false
set_option linter.all false
set_option maxRecDepth 100000
set_option maxHeartbeats 2000000
namespace L3
open PySem PySem.Spec L2
/-- all orders of the items -/
def permT (xs : List PyData) : List T := (Itp.psts xs.length).map fun s => T.d (.tuple (s.1.map fun j => xs.getD j .none))
section
open PyProof.Rows HT
variable {X : Cx} {pn : List (Addr × Obj)} {sg : L2.St} {hp : Hp} {sh : Shared} {tg : Expr}
end
end L3
set_option Elab.async false
set_option linter.all false
set_option maxRecDepth 100000
set_option maxHeartbeats 2000000
namespace L3
open PySem PySem.Spec L2
def iPerm (r : Ma) : Mi := fun τ M Q => r τ M fun ts M1 => match ts with
  | [t] => (match seqOf t with
    | some xs => xs.length ≤ 6 ∧ Q (permT xs) M1
    | none => False)
  | _ => False
def iPermR (m : Me) : Mi := fun τ M Q => m τ M fun t M1 => match t with
  | .d (.int n) => (0 ≤ n ∧ n ≤ 6) ∧ Q (permT (rgD n)) M1
  | _ => False
section
open PyProof.Rows HT
variable {X : Cx} {tg e a : Expr} {mr : Ma} {ma : Me} {p p2 pos pos2 : Pos}
end
@[simp] theorem x_iperm {a : Ma} {τ : En} {M : Mem} {R : List T → Mem → Prop} : iPerm a τ M R = a τ M fun ts M1 => match ts with
  | [t] => (match seqOf t with
    | some xs => xs.length ≤ 6 ∧ R (permT xs) M1
    | none => False)
  | _ => False := rfl
@[simp] theorem x_ipermR {m : Me} {τ : En} {M : Mem} {R : List T → Mem → Prop} : iPermR m τ M R = m τ M fun t M1 => match t with
  | .d (.int n) => (0 ≤ n ∧ n ≤ 6) ∧ R (permT (rgD n)) M1
  | _ => False := rfl
end L3
set_option Elab.async false
set_option linter.all false
set_option maxRecDepth 100000
set_option maxHeartbeats 2000000
namespace L3
open PySem PySem.Spec L2
section
open PyProof.Rows HT
variable {X : Cx} {e : Expr} {mr : Ma} {p pos kpos cpos : Pos} {j : Nat}
end
end L3
set_option Elab.async false
set_option linter.all false
set_option maxRecDepth 100000
namespace L3
open PySem PySem.Spec L2
section
variable {X : Cx} {a b : Expr} {ma mb : Me} {pos : Pos}
end
end L3
set_option Elab.async false
set_option linter.all false
set_option maxRecDepth 100000
set_option maxHeartbeats 1000000
namespace SrtV
open PySem PySem.Spec PyProof.Rows TS
def Ok (b : Int) (l : List Int) : Prop := Bd (2 * b + 1) (l.map fun x => x + b)
section
variable {P : Program} {w : World} {A : Around} {E : Value → Shared → Prop} {s : Shared} {Q : Bool → Shared → Prop}
end
section
variable {P : Program} {w : World} {A : Around} {E : Value → Shared → Prop} {s : Shared}
end
section
open PyProof.Rows
variable {P : Program} {w : World} {A : Around} {E : Value → Shared → Prop} {s : Shared}
end
end SrtV
namespace L3
open PySem PySem.Spec L2 PyProof.Rows
end L3
set_option Elab.async false
set_option linter.all false
set_option maxRecDepth 100000
namespace L3
open PySem PySem.Spec L2
section
variable {X : Cx}
end
end L3
set_option Elab.async false
set_option linter.all false
set_option maxRecDepth 100000
set_option maxHeartbeats 2000000
namespace SrtS
open PySem PyProof.Rows Srt SrtO
section
variable {prog : Program} {w : World} {A : Around} {E : Value → Shared → Prop} {s : Shared}
end
end SrtS
namespace L3
open PySem PySem.Spec L2 PyProof.Rows
end L3
set_option Elab.async false
set_option linter.all false
set_option maxRecDepth 100000
set_option maxHeartbeats 2000000
namespace L2
open PySem PySem.Spec PyProof.Rows PySem.Calls
end L2
namespace L3
open PySem PySem.Spec L2
section
variable {X : Cx} {e : Expr} {m : Me} {x f : Str} {p pos pos2 : Pos} {k : Nat}
end
end L3
namespace L3
open PySem PySem.Spec L2 PyProof.Rows PySem.Calls
end L3
set_option Elab.async false
set_option linter.all false
set_option maxRecDepth 100000
set_option maxHeartbeats 2000000
namespace L3
open PySem PySem.Spec L2
end L3
set_option Elab.async false
set_option linter.all false
set_option maxRecDepth 100000
set_option maxHeartbeats 2000000
namespace L3
open PySem PySem.Spec L2
open PyProof.Rows (AllBare)
/-- an exception that has come to the frame of its try, the heap as it is now -/
structure Ld (X : Cx) (pins : List (Addr × Obj)) (a : Addr) (cls : Value) (d : Option Addr) (B : Heap) (s0 : Shared) (σ : St) (H : Hp) (s : Shared) : Prop where
  ok : X.Ok
  inv : Inv X pins σ H s0
  nb : ∀ b o, s0.heap.get? b = some o → b ∉ frs X.stack → B.get? b = some o
  up : s0.heap.UpToSlots s.heap
  fl : HandSPX.FlyingZ B (X.env :: X.outer) a (Zc cls d) s.heap
  na : H a = none
  os : s.os = s0.os
  bare : AllBare s.gens
section
variable {X : Cx} {pins : List (Addr × Obj)} {a : Addr} {cls : Value} {d : Option Addr} {B : Heap} {s0 s : Shared} {σ : St} {H : Hp}
theorem Ld.now (l : Ld X pins a cls d B s0 σ H s) : Inv X pins σ H s := l.inv.landed l.nb l.fl.1 l.up l.os l.bare
theorem Ld.on {h' : Heap} (l : Ld X pins a cls d B s0 σ H s) (f : HandSPX.FlyingZ B (X.env :: X.outer) a (Zc cls d) h') (u : s.heap.UpToSlots h') : Ld X pins a cls d B s0 σ H { s with heap := h' } :=
  ⟨l.ok, l.inv, l.nb, l.up.trans u, f, l.na, l.os, l.bare⟩
theorem Ld.in_ (l : Ld X pins a cls d B s0 σ H s) (hf : X.env.frame = some X.env.locals) : ∃ oe : Obj, s.heap.get? a = some oe ∧ Zc cls d oe ∧ (∃ vs, oe.data = .fields vs) ∧ Inv (X.suite a ((a, oe) :: (X.pn ++ pins))) [] σ H s := by
  obtain ⟨oe, vs, h1, h2, h3⟩ := l.fl.there
  have out : a ∉ frs (X.env :: X.outer) := fun z => by
    obtain ⟨_, o2, g1, g2⟩ := l.fl.2.2.1.mem z
    rw [h1] at g1
    injection g1 with g1
    exact g2 vs (g1 ▸ h3)
  refine ⟨oe, h1, h2, ⟨vs, h3⟩, l.now.suite h1 h3 l.na (fun z => out ?_) fun z => out ?_⟩
  · rw [z]
    exact List.mem_filterMap.mpr ⟨_, .head _, hf⟩
  · obtain ⟨e, i, j⟩ := List.mem_filterMap.mp z
    exact List.mem_filterMap.mpr ⟨e, .tail _ i, j⟩
/-- clauses with names, and what they wish together -/
inductive HsN (X : Cx) : List ExceptHandler → (Ends → WX) → Prop
  | nil : HsN X [] fun _ _ _ _ _ => False
  | cons {x n : Str} {c : Value} {i : Nat} {ts : Addr → Value → Option Addr → TS} {b : Stmt} {su : List Stmt} {p1 p2 : Pos} {hds : List ExceptHandler} {u : Ends → WX}
      (hi : X.N[i]? = some n) (hl : X.env.kindOf n = some .local) (hc : Names X x c)
      (hs : ∀ (a : Addr) (oe : Obj) (cls : Value) (d : Option Addr) (pn : List (Addr × Obj)), Zc cls d oe → (∃ vs, oe.data = .fields vs) → PSs (X.suite a ((a, oe) :: pn)) (b :: su) (ts a cls d))
      (r : HsN X hds u) : HsN X (.ExceptHandler (some (.Name x p1)) (some n) (b :: su) p2 :: hds) fun D => wAs X.K c i ts (u D) D
theorem HsN.run {D : Ends} (hf : X.env.frame = some X.env.locals) (hN : X.N.Nodup) {hds : List ExceptHandler} {u : Ends → WX} (k : HsN X hds u) (l : Ld X pins a cls d B s0 σ H s) :
    u D cls d σ H → wpAny (model X.prog X.w) X.A (handleBy (.ref a) X.env hds) (SP X pins D) X.xe s := by
  induction k with
  | nil => exact fun z => z.elim
  | @cons x n c i ts b su p1 p2 hds u hi hl hc hs r ih =>
    rintro ⟨t, ht, yes, no⟩
    obtain ⟨oe, h1, h2, _, S⟩ := l.in_ hf
    refine wpAny_handleBy_cons (codeAny_handlers_test ?_) (fun z => nomatch z)
    have ty : PySem.W.Looks (model X.prog X.w) s.heap (typeOf (.ref a)) cls := fun _ _ _ _ g q => wpAny_typeOf_ref (g a oe h1) (h2.1.symm ▸ q)
    have mt := PySem.W.exm_one (M := model X.prog X.w) l.now.kIn ty ht
    have nm : ∀ {Q F : Value → Shared → Prop}, Q c s → wpAny (model X.prog X.w) (X.A.mark (some (.ref a))) (eval (.Name x p1) X.env) Q F s := fun {Q F} q => by
      rcases hc with ⟨g, nd, g1 | ⟨g1, g2, g3⟩⟩
      · exact ld_glob (X := X.suite a ((a, oe) :: (X.pn ++ pins))) S g g1 q nd
      · exact ld_blt (X := X.suite a ((a, oe) :: (X.pn ++ pins))) S g g1 g2 q g3 nd
    refine nm (mt.here ?_)
    cases t with
    | false => exact ih (no rfl)
    | true =>
      refine codeAny_handlers_suite_as (HandSPX.lands_againZ l.fl fun h' f' u' => ?_)
      have l2 := l.on f' u'
      obtain ⟨oe2, _, z2, dt2, S2⟩ := l2.in_ hf
      refine store_ok (X := X.suite a ((a, oe2) :: (X.pn ++ pins))) (v := .ref a) S2 hN hi (.inl hl) rfl (fun s5 S5 => ?_) (.inr hl)
      have go := (hs a oe2 cls d (X.pn ++ pins) z2 dt2).run [] s5 _ H _ S5 (yes rfl a l.na)
      refine wpAny_mono go (fun f s6 hsp => ?_) fun _ _ z => z.elim
      have leave : ∀ {τ : St} {G : Hp} {Q : Shared → Prop}, Inv (X.suite a ((a, oe2) :: (X.pn ++ pins))) [] τ G s6 → (∀ s7, Inv X pins (τ.set i none) G s7 → Q s7) →
          wpAny (model X.prog X.w) X.A (do bindName X.env n .none; unbindBehindTheSuite X.env n p2) (fun _ s7 => Q s7) X.xe s6 := fun {τ G Q} iv q => gone_ok (iv.unsuite l.ok) hN hi hl q
      cases f with
      | ret v =>
        obtain ⟨w, τ, G, iv, rv, q⟩ := hsp
        exact leave iv fun s7 j => ⟨w, _, G, j, rv, q⟩
      | next =>
        obtain ⟨τ, G, iv, q⟩ := hsp
        exact leave iv fun s7 j => ⟨_, G, j, q⟩
      | brk =>
        obtain ⟨τ, G, iv, q⟩ := hsp
        exact leave iv fun s7 j => ⟨_, G, j, q⟩
      | cont =>
        obtain ⟨τ, G, iv, q⟩ := hsp
        exact leave iv fun s7 j => ⟨_, G, j, q⟩
end
section
variable {X : Cx} {x1 x2 n1 n2 : Str} {c1 c2 : List Str} {i1 i2 : Nat} {body u1 u2 : List Stmt} {b1 b2 : Stmt} {p1 p2 q1 q2 pos : Pos} {mb : MsX} {m1 m2 : Addr → Value → Option Addr → Exn → Ms}
end
end L3
namespace L3
open PySem PySem.Spec L2
def CVast (i j : Int) : Prop := i.natAbs < 2 ^ 2000 ∧ j.natAbs < 2 ^ 2000
def oMulV : F2 := oI CVast fun i j => .int (i * j)
theorem opr_mulV {X : Cx} : OpR X (binaryOp .Mult) (L2.rI CVast fun i j => .int (i * j)) := by
  intro pn sh sg hp x y v u Q iv rx ry ⟨i, j, e1, e2, c, q⟩
  exact op_mulW pn sh sg hp x y v u Q iv rx ry ⟨i, j, e1, e2, wide_mul c.1 c.2 (by omega) (by omega) (by omega), q⟩
theorem me_mulV {X : Cx} {a b : Expr} {ma mb : Me} {pos : Pos} (ha : ME X a ma) (hb : ME X b mb) : ME X (.BinOp a .Mult b pos) (mOp oMulV ma mb) := me_op opr_mulV (opl_I fun _ _ _ => .int _) ha hb
theorem w_mulV {a b : Int} {M : Mem} {Q : Kt} (z : CVast a b) (h : Q (.int (a * b)) M) : oMulV (.d (.int a)) (.d (.int b)) M Q := ⟨z, h⟩
end L3
set_option Elab.async false
set_option linter.all false
set_option maxRecDepth 100000
set_option maxHeartbeats 2000000
namespace L3
open PySem PySem.Spec L2
abbrev Ents := List (NestedKey × Addr × V)
def keyVs (es : Ents) : List V := es.map fun e => V.ref e.2.1
section
variable {X : Cx}
end
theorem NT.keys {K : PySem.W.Frag} {B : Bk} {es : Ents} {kvs : List (NestedKey × T)} (r : NT K B es kvs) : RpA K B.G (keyVs es) (kvs.map fun kv => kv.1.data) := by
  unfold NT at r
  induction r with
  | nil => exact .nil
  | cons f _ ih => exact .cons f.2.2.1 ih
section
variable {P : Program} {w : World} {K : PySem.W.Frag} {tg : Expr} {d : Addr} {o : Obj} {es : Ents} {ds : Array DictEntry} {ep : Nat}
end
end L3
set_option Elab.async false
set_option linter.all false
set_option maxRecDepth 100000
set_option maxHeartbeats 2000000
namespace Itc
open PySem PySem.Spec
open Sem (wp)
open AutoSeq1 (wpAny_loadPart')
theorem sub_self : isSubtype (.type "itertools.combinations") (.type "itertools.combinations") = pure true := by rw [isSubtype_type]; kernel_rfl
end Itc
set_option Elab.async false
set_option linter.all false
set_option maxRecDepth 100000
set_option maxHeartbeats 2000000
namespace Itc
open PySem PySem.Spec
open Sem (wp)
open AutoSeq1 (wpAny_loadPart')
end Itc
set_option Elab.async false
set_option linter.all false
set_option maxRecDepth 100000
set_option maxHeartbeats 2000000
namespace Itc
open PySem PySem.Spec
open Sem (wp)
open AutoSeq1 (wpAny_loadPart')
section
variable {prog : Program} {w : World} {A : Around} {E : Value → Shared → Prop} {s : Shared}
end
end Itc
set_option Elab.async false
set_option linter.all false
set_option maxRecDepth 100000
set_option maxHeartbeats 2000000
namespace Itc
open PySem PySem.Spec
open Sem (wp)
open AutoSeq1 (wpAny_loadPart')
section
variable {prog : Program} {w : World} {A : Around} {E : Value → Shared → Prop} {s : Shared}
end
end Itc
set_option Elab.async false
set_option linter.all false
set_option maxRecDepth 100000
set_option maxHeartbeats 2000000
namespace L3
open PySem PySem.Spec L2
section
open PyProof.Rows HT
variable {X : Cx} {pn : List (Addr × Obj)} {sg : L2.St} {hp : Hp} {sh : Shared} {tg : Expr}
end
end L3
set_option Elab.async false
set_option linter.all false
set_option maxRecDepth 100000
set_option maxHeartbeats 2000000
namespace L3
open PySem PySem.Spec L2
section
open PyProof.Rows HT
variable {X : Cx} {tg e e2 : Expr} {mr : Ma} {p pos : Pos}
end
end L3
set_option Elab.async false
set_option linter.all false
set_option maxRecDepth 100000
set_option maxHeartbeats 2000000
namespace L3
open PySem PySem.Spec L2 PySem.W PyProof.Rows
section
variable {X : Cx} {e : Expr} {mr : Ma} {p pos kpos cpos : Pos} {j k : Nat}
end
end L3
set_option Elab.async false
set_option linter.all false
set_option maxRecDepth 100000
set_option maxHeartbeats 2000000
namespace L3
open PySem PySem.Spec L2
section
open PyProof.Rows HT
variable {X : Cx} {e : Expr} {te : L2.St → Hp → (Int → Int → Hp → Prop) → Prop}
end
end L3
set_option Elab.async false
set_option linter.all false
set_option maxRecDepth 100000
set_option maxHeartbeats 2000000
namespace L3
open PySem PySem.Spec L2
section
open PyProof.Rows
variable {prog : Program} {w : World} {A : Around} {E : Value → Shared → Prop} {s : Shared} {l : Addr}
end
section
variable {X : Cx} {e : Expr} {es : List Expr} {mr : Ma} {p pos : Pos}
end
end L3
set_option Elab.async false
set_option linter.all false
set_option maxRecDepth 100000
set_option maxHeartbeats 2000000
namespace L3
open PySem PySem.Spec L2 PyProof.Rows
section
variable {X : Cx} {pins : List (Addr × Obj)} {σ : L2.St} {H : Hp} {s : Shared} {a : Addr} {oe : Obj} {vs : Array Value} {cls : Value} {d : Option Addr}
theorem exh_ok {P : Program} {w : World} {h : Heap} (e : h.get? a = some oe) (z : Zc cls d oe) (hd : oe.data = .fields vs) : ObjOk P w H h a (exh a cls d) :=
  ⟨⟨oe, vs, e, z, hd⟩, ⟨oe, e⟩, fun _ _ ⟨o, v, q, r⟩ k => ⟨o, v, k o q, r⟩⟩
end
section
variable {X : Cx} {x n : Str} {c : Value} {i : Nat} {body : List Stmt} {np np2 rp pos pos' : Pos} {tb : WX → TS} {Wout : WX}
end
end L3
set_option Elab.async false
set_option linter.all false
set_option maxRecDepth 100000
set_option maxHeartbeats 2000000
namespace L3
open PySem PySem.Spec L2
def rIr (K : PySem.W.Frag) (m : Me) : TI := fun σ H R => ∃ τ M B Q, m τ M Q ∧ Wd K B M H ∧ Sl K B σ τ ∧ ∀ t M' B' H', Q t M' → Wd K B' M' H' → Ext B H B' H' → ∃ n ds, t = .mr n ∧ M'.D[n]? = some (.lst ds) ∧ ∀ a, B'.r[n]? = some a → R (Itl K a) H'
theorem mi_deckR {X : Cx} {e tg : Expr} {m : Me} (he : ME X e m) : PI X tg e (rIr X.K m) := by
  refine ⟨fun pn sh sg hp R iv ⟨τ, M, B, Q, h, w, s, k⟩ => ?_⟩
  let P := fun (x : V) (H1 : Hp) => ∃ t M1 B1, Q t M1 ∧ Wd X.K B1 M1 H1 ∧ Ext B hp B1 H1 ∧ Rt X.K B1 x t
  refine thn (he.run pn sh sg hp P iv ⟨τ, M, B, _, h, w, s, fun v t M1 B1 H1 h1 w1 e1 r1 => ⟨t, M1, B1, h1, w1, e1, r1⟩⟩) fun v s1 ⟨x, H1, i1, rx, t, M1, B1, h1, w1, e1, r1⟩ => ?_
  obtain ⟨n, ds, rfl, hL, k2⟩ := k t M1 B1 H1 h1 w1 e1
  obtain ⟨a', rfl, ha'⟩ := r1
  cases rx
  obtain ⟨_, xs, e, _⟩ := w1.dc _ _ _ ha' hL
  exact pie_l i1 (.of e) (k2 a' ha')
theorem paired_rt {F : V → T → Prop} {xs : List V} {ts : List T} (h : Paired F xs ts) {i : Nat} (hi : i < ts.length) : ∃ u, xs[i]? = some u ∧ F u ts[i] := by
  induction h generalizing i with
  | nil => cases hi
  | cons f _ ih =>
    cases i with
    | zero => exact ⟨_, rfl, f⟩
    | succ i => exact ih (by simpa using hi)
section
variable {X : Cx} {e tg : Expr} {m o : Me} {elt : Expr} {ifs : List Expr} {scope : Scope} {own : List (Str × Nat)} {g : Mg} {os : List Nat} {mc : Mb} {pos : Pos}
end
section
variable {X : Cx} {x n : Str} {cs : List Str} {f : Str} {i : Nat} {body : List Stmt} {np np2 rp pos pos' : Pos} {mb : MsX}
end
section
open PyProof.Rows
end
end L3
set_option Elab.async false
set_option linter.all false
set_option maxRecDepth 100000
set_option maxHeartbeats 2000000
namespace L3
open PySem PySem.Spec L2
end L3
set_option Elab.async false
set_option linter.all false
set_option maxRecDepth 100000
namespace L3
open PySem PySem.Spec L2
mutual
/-- data as a value of all kinds -/
def up : PyData → Dt
  | .none => .non
  | .bool b => .bl b
  | .int i => .int i
  | .str x => .str x
  | .list xs => .lst (ups xs)
  | .tuple xs => .tup (ups xs)
  | .dict _ => .non
def ups : List PyData → List Dt
  | [] => []
  | x :: xs => up x :: ups xs
end
section
variable {K : PySem.W.Frag} {B : Bk} {M : Mem} {H : Hp}
mutual
theorem Rp.up {G : Hp} : ∀ {v : V} {x : PyData}, Rp K G v x → Rq K G v (up x)
  | _, _, .non => .non
  | _, _, .bl b => .bl b
  | _, _, .int i => .int i
  | _, _, .str x => .str x
  | _, _, .lst e q => .lst e (RpA.up q)
  | _, _, .tup e q => .tup e (RpA.up q)
theorem RpA.up {G : Hp} : ∀ {v : List V} {x : List PyData}, RpA K G v x → RqA K G v (ups x)
  | _, _, .nil => .nil
  | _, _, .cons p q => .cons (Rp.up p) (RpA.up q)
end
theorem RqA.length {G : Hp} : ∀ {v : List V} {x : List Dt}, RqA K G v x → v.length = x.length
  | _, _, .nil => rfl
  | _, _, .cons _ q => by rw [List.length_cons, List.length_cons, RqA.length q]
theorem RqA.append {G : Hp} : ∀ {v w : List V} {x y : List Dt}, RqA K G v x → RqA K G w y → RqA K G (v ++ w) (x ++ y)
  | _, _, _, _, .nil, q => q
  | _, _, _, _, .cons p q, r => .cons p (RqA.append q r)
theorem RqA.get {G : Hp} : ∀ {v : List V} {x : List Dt} {i : Nat} {d : Dt}, RqA K G v x → x[i]? = some d → ∃ u, v[i]? = some u ∧ Rq K G u d
  | _, _, _, _, .nil, e => by simp at e
  | _, _, 0, _, .cons p _, e => by simp at e; subst e; exact ⟨_, rfl, p⟩
  | _, _, i + 1, _, .cons _ q, e => by
    obtain ⟨u, h1, h2⟩ := RqA.get (i := i) q (by simpa using e)
    exact ⟨u, by simpa using h1, h2⟩
theorem RqA.take {G : Hp} : ∀ {v : List V} {x : List Dt} (n : Nat), RqA K G v x → RqA K G (v.take n) (x.take n)
  | _, _, 0, _ => .nil
  | _, _, _ + 1, .nil => .nil
  | _, _, n + 1, .cons p q => .cons p (RqA.take n q)
theorem RqA.drop {G : Hp} : ∀ {v : List V} {x : List Dt} (n : Nat), RqA K G v x → RqA K G (v.drop n) (x.drop n)
  | _, _, 0, r => r
  | _, _, _ + 1, .nil => .nil
  | _, _, n + 1, .cons _ q => RqA.drop n q
theorem RqA.atI {G : Hp} {v : List V} {x : List Dt} {i : Int} {d : Dt} (r : RqA K G v x) (e : L2.atI x i = some d) : ∃ u, L2.atI v i = some u ∧ Rq K G u d := by
  obtain ⟨j, h1, _, h3⟩ := atI_of (RqA.length r) e
  obtain ⟨u, h4, h5⟩ := RqA.get r h3
  exact ⟨u, by unfold L2.atI; rw [h1]; exact h4, h5⟩
theorem RqA.cut {G : Hp} {xs : List V} {ds : List Dt} {lo hi : Option Int} (r : RqA K G xs ds) : RqA K G (cutV xs lo hi) (cutT ds lo hi) := by
  unfold cutV cutT
  rw [RqA.length r]
  exact RqA.take _ (RqA.drop _ r)
/-- a tree as a value of all kinds -/
def tq : T → Option Dt
  | .d x => some (up x)
  | .q x => some x
  | _ => none
def tqs : List T → Option (List Dt)
  | [] => some []
  | t :: ts => match tq t, tqs ts with
    | some x, some xs => some (x :: xs)
    | _, _ => none
theorem tq_rt {v : V} {t : T} {x : Dt} (r : Rt K B v t) (e : tq t = some x) : Rq K B.G v x := by
  cases t with
  | d y => cases e; exact Rp.up r
  | q y => cases e; exact r
  | mr i => cases e
  | lr i => cases e
  | scr ns => cases e
  | wt xs => cases e
  | exo a c d e' => cases e
theorem tqs_rt : ∀ {vs : List V} {ts : List T} {xs : List Dt}, Paired (Rt K B) vs ts → tqs ts = some xs → RqA K B.G vs xs
  | _, _, _, .nil, e => by
    cases e
    exact .nil
  | _, _, _, .cons (b := t) p q, e => by
    unfold tqs at e
    cases h : tq t with
    | none => rw [h] at e; cases e
    | some x =>
      rw [h] at e
      cases h2 : tqs _ with
      | none => rw [h2] at e; cases e
      | some r =>
        rw [h2] at e
        cases e
        exact .cons (tq_rt p h) (tqs_rt q h2)
/-- a value of all kinds as a tree: what is no list, tuple, dict, object is data -/
def inj : Dt → T
  | .non => .d .none
  | .bl b => .d (.bool b)
  | .int i => .d (.int i)
  | .str x => .d (.str x)
  | x => .q x
theorem inj_rt {v : V} {x : Dt} (r : Rq K B.G v x) : Rt K B v (inj x) := by
  cases r with
  | non => exact Rp.non
  | bl b => exact Rp.bl b
  | int i => exact Rp.int i
  | str s => exact Rp.str s
  | lst e q => exact Rq.lst e q
  | tup e q => exact Rq.tup e q
  | dic e k v q => exact Rq.dic e k v q
  | obj c e => exact Rq.obj c e
  | obj1 c e e2 q => exact Rq.obj1 c e e2 q
  | ins c e => exact Rq.ins c e
@[simp] theorem tq_inj (x : Dt) : tq (inj x) = some x := by cases x <;> rfl
end
def mQTup (r : Ma) : Me := fun τ M Q => r τ M fun ts M1 => ∃ ds, tqs ts = some ds ∧ ds.length ≤ sizeLine ∧ Q (.q (.tup ds)) M1
def mQLst (r : Ma) : Me := fun τ M Q => r τ M fun ts M1 => ∃ ds, tqs ts = some ds ∧ ds.length ≤ sizeLine ∧ Q (.q (.lst ds)) M1
section
variable {X : Cx} {a b c e : Expr} {es : List Expr} {ma mb mc m : Me} {pos : Pos} {mr : Ma}
theorem me_qtup {x1 : Nat} (h : MA X es mr) : ME X (.Tuple es x1 pos) (mQTup mr) := PE.of (pe_tupC h) fun σ H Q' ⟨τ, M, B, Q, h, w, s, k⟩ => by
  refine ⟨τ, M, B, _, h, w, s, fun v t M1 B1 H1 h1 w1 e1 r1 => ?_⟩
  obtain ⟨ds, hd, hl, hq⟩ := h1
  have q := tqs_rt r1 hd
  refine ⟨by rw [RqA.length q]; exact hl, fun p o hp ho => ?_⟩
  obtain ⟨w2, e2⟩ := w1.alloc hp (.frz o (.tup v))
  exact k _ _ M1 _ _ hq w2 (e1.trans e2) (Rq.tup (.inl ⟨o, upd_same, ho⟩) (RqA.mono e2.g q))
theorem me_qlst (h : MA X es mr) : ME X (.List es pos) (mQLst mr) := PE.of (pe_lst h) fun σ H Q' ⟨τ, M, B, Q, h, w, s, k⟩ => by
  refine ⟨τ, M, B, _, h, w, s, fun v t M1 B1 H1 h1 w1 e1 r1 => ?_⟩
  obtain ⟨ds, hd, hl, hq⟩ := h1
  have q := tqs_rt r1 hd
  refine ⟨by rw [RqA.length q]; exact hl, fun p hp => ?_⟩
  obtain ⟨w2, e2⟩ := w1.alloc hp (.lst v)
  exact k _ _ M1 _ _ hq w2 (e1.trans e2) (Rq.lst upd_same (RqA.mono e2.g q))
def oQAdd : F2 := fun x y M Q => match tq x, tq y with
  | some (.lst a), some (.lst b) => a.length + b.length ≤ sizeLine ∧ Q (.q (.lst (a ++ b))) M
  | some (.tup a), some (.tup b) => a.length + b.length ≤ sizeLine ∧ Q (.q (.tup (a ++ b))) M
  | some (.int i), some (.int j) => Q (.d (.int (i + j))) M
  | _, _ => False
theorem opl_qadd {K : PySem.W.Frag} : OpL K (rAdd K) oQAdd := by
  intro x y t u M B H Q Q' h w rx ry k
  unfold oQAdd at h
  split at h
  · rename_i e1 e2
    cases tq_rt rx e1 with
    | lst e1 q1 =>
      cases tq_rt ry e2 with
      | lst e2 q2 =>
        refine .inr (.inr (.inl ⟨_, _, _, _, rfl, rfl, w.le _ _ e1, w.le _ _ e2, ?_, fun p hp => ?_⟩))
        · rw [RqA.length q1, RqA.length q2]
          exact h.1
        · obtain ⟨w', x'⟩ := w.alloc hp (.lst (_ ++ _))
          exact k _ _ M _ _ h.2 w' x' (Rq.lst upd_same (RqA.mono x'.g (RqA.append q1 q2)))
  · rename_i e1 e2
    cases tq_rt rx e1 with
    | tup e1 q1 =>
      cases tq_rt ry e2 with
      | tup e2 q2 =>
        obtain ⟨hl, q⟩ := h
        refine .inr (.inr (.inr ⟨_, _, _, _, rfl, rfl, SqT.mono w.le e1, SqT.mono w.le e2, ?_, fun z => ?_, fun _ z => ?_, fun _ z p o hp ho => ?_⟩))
        · rw [RqA.length q1, RqA.length q2]
          exact hl
        · subst z
          cases q1
          exact k _ _ M B H q w (.refl _ _) (Rq.tup e2 q2)
        · subst z
          cases q2
          rw [List.append_nil] at q
          exact k _ _ M B H q w (.refl _ _) (Rq.tup e1 q1)
        · obtain ⟨w', x'⟩ := w.alloc hp (.frz o (.tup (_ ++ _)))
          exact k _ _ M _ _ q w' x' (Rq.tup (.inl ⟨o, upd_same, ho⟩) (RqA.mono x'.g (RqA.append q1 q2)))
  · rename_i e1 e2
    cases tq_rt rx e1
    cases tq_rt ry e2
    exact .inl ⟨_, _, rfl, rfl, k _ _ M B H h w (.refl _ _) (Rp.int _)⟩
  · exact h.elim
theorem me_qadd (ha : ME X a ma) (hb : ME X b mb) : ME X (.BinOp a .Add b pos) (mOp oQAdd ma mb) := me_op opr_add opl_qadd ha hb
def oQIx : F2 := fun x y M Q => match tq x, y with
  | some (.lst xs), .d (.int j) => ∃ t, atI xs j = some t ∧ Q (inj t) M
  | some (.tup xs), .d (.int j) => ∃ t, atI xs j = some t ∧ Q (inj t) M
  | _, _ => False
theorem opl_qix {K : PySem.W.Frag} : OpL K (rIx2 K) oQIx := by
  intro x y t u M B H Q Q' h w rx ry k
  unfold oQIx at h
  split at h
  · rename_i hx
    cases ry
    cases tq_rt rx hx with
    | lst e q =>
      obtain ⟨d, h1, h2⟩ := h
      obtain ⟨v, h3, h4⟩ := RqA.atI q h1
      exact .inl ⟨_, _, _, v, rfl, rfl, .of (w.le _ _ e), h3, k _ _ M B H h2 w (.refl _ _) (inj_rt h4)⟩
  · rename_i hx
    cases ry
    cases tq_rt rx hx with
    | tup e q =>
      obtain ⟨d, h1, h2⟩ := h
      obtain ⟨v, h3, h4⟩ := RqA.atI q h1
      exact .inr ⟨_, _, _, v, rfl, rfl, SqT.mono w.le e, h3, k _ _ M B H h2 w (.refl _ _) (inj_rt h4)⟩
  · exact h.elim
theorem me_qix (ha : ME X a ma) (hb : ME X b mb) (hs : PlainIx b) : ME X (.Subscript a b pos) (mOp oQIx ma mb) := PE.of (pe_ix ixr ha hb hs) fun _ _ _ h => two opl_qix h
end
def fQLen : FA := fun ts M Q => match ts with
  | [t] => (match tq t with
    | some (.lst xs) => Q (.int xs.length) M
    | some (.tup xs) => Q (.int xs.length) M
    | _ => False)
  | _ => False
theorem cal_qlen {K : PySem.W.Frag} : CaL K (rLen K) fQLen := by
  intro xs ts M B H Q Q' h w r k
  unfold fQLen at h
  split at h
  · obtain ⟨v, rfl, r1⟩ := paired_one r
    split at h
    · rename_i e
      cases tq_rt r1 e with
      | lst e q =>
        refine .inl ⟨_, _, rfl, .inl (.of (w.le _ _ e)), ?_⟩
        rw [RqA.length q]
        exact k _ _ M B H h w (.refl _ _) (Rp.int _)
    · rename_i e
      cases tq_rt r1 e with
      | tup e q =>
        refine .inl ⟨_, _, rfl, .inr (SqT.mono w.le e), ?_⟩
        rw [RqA.length q]
        exact k _ _ M B H h w (.refl _ _) (Rp.int _)
    · exact h.elim
  · exact h.elim
def fQTuple : FA := fun ts M Q => match ts with
  | [t] => (match tq t with
    | some (.lst xs) => Q (.q (.tup xs)) M
    | some (.tup xs) => Q (.q (.tup xs)) M
    | _ => False)
  | _ => False
theorem cal_qtuple {K : PySem.W.Frag} : CaL K (rTuple K) fQTuple := by
  intro xs ts M B H Q Q' h w r k
  unfold fQTuple at h
  split at h
  · obtain ⟨v, rfl, r1⟩ := paired_one r
    split at h
    · rename_i e
      cases tq_rt r1 e with
      | @lst _ ys _ e q =>
        refine ⟨_, _, rfl, .inl ⟨.of (w.le _ _ e), fun l o hl ho => ?_⟩⟩
        obtain ⟨w4, e4⟩ := w.alloc hl (.frz o (.tup ys))
        exact k _ _ M _ _ h w4 e4 (Rq.tup (.inl ⟨o, upd_same, ho⟩) (RqA.mono e4.g q))
    · rename_i e
      cases tq_rt r1 e with
      | tup e q => exact ⟨_, _, rfl, .inr ⟨SqT.mono w.le e, k _ _ M B H h w (.refl _ _) (Rq.tup e q)⟩⟩
    · exact h.elim
  · exact h.elim
def fQList : FA := fun ts M Q => match ts with
  | [t] => (match tq t with
    | some (.lst xs) => Q (.q (.lst xs)) M
    | some (.tup xs) => Q (.q (.lst xs)) M
    | _ => False)
  | _ => False
theorem cal_qlist {K : PySem.W.Frag} : CaL K (rList K) fQList := by
  intro xs ts M B H Q Q' h w r k
  unfold fQList at h
  split at h
  · obtain ⟨v, rfl, r1⟩ := paired_one r
    split at h
    · rename_i e
      cases tq_rt r1 e with
      | @lst _ ys _ e q =>
        refine ⟨_, _, rfl, .inl (.of (w.le _ _ e)), fun l hl => ?_⟩
        obtain ⟨w4, e4⟩ := w.alloc hl (.lst ys)
        exact k _ _ M _ _ h w4 e4 (Rq.lst upd_same (RqA.mono e4.g q))
    · rename_i e
      cases tq_rt r1 e with
      | @tup _ ys _ e q =>
        refine ⟨_, _, rfl, .inr (SqT.mono w.le e), fun l hl => ?_⟩
        obtain ⟨w4, e4⟩ := w.alloc hl (.lst ys)
        exact k _ _ M _ _ h w4 e4 (Rq.lst upd_same (RqA.mono e4.g q))
    · exact h.elim
  · exact h.elim
section
variable {X : Cx} {e : Expr} {es : List Expr} {mr : Ma} {p pos : Pos}
theorem me_qlen (hg : Gl X "len") (hm : X.mg "len" = none) (ha : MA X (e :: es) mr) (he : starEach (e :: es) X.env = (false, eval e X.env) :: starEach es X.env := by rfl) (hpl : (backTo pos (starEach es X.env)).any (·.1) = false := by rfl) : ME X (.Call (.Name "len" p) (e :: es) [] pos) (mCall fQLen mr) := me_callB cr_len cal_qlen hg hm (by decide +kernel) ha (by decide) (by decide) he hpl
theorem me_qtuple (hg : Gl X "tuple") (hm : X.mg "tuple" = none) (ha : MA X (e :: es) mr) (he : starEach (e :: es) X.env = (false, eval e X.env) :: starEach es X.env := by rfl) (hpl : (backTo pos (starEach es X.env)).any (·.1) = false := by rfl) : ME X (.Call (.Name "tuple" p) (e :: es) [] pos) (mCall fQTuple mr) := me_callTy call_tupleC cal_qtuple hg hm (by decide +kernel) ha (by decide) (by decide) he hpl
theorem me_qlist (hg : Gl X "list") (hm : X.mg "list" = none) (ha : MA X (e :: es) mr) (he : starEach (e :: es) X.env = (false, eval e X.env) :: starEach es X.env := by rfl) (hpl : (backTo pos (starEach es X.env)).any (·.1) = false := by rfl) : ME X (.Call (.Name "list" p) (e :: es) [] pos) (mCall fQList mr) := me_callTy call_list_of cal_qlist hg hm (by decide +kernel) ha (by decide) (by decide) he hpl
end
abbrev Mqs := List Dt → En → Mem → (En → Mem → Prop) → Prop
def qsNil : Mqs := fun xs τ M Q => xs = [] ∧ Q τ M
def qsCons (g : Mg) (r : Mqs) : Mqs := fun xs τ M Q => match xs with
  | x :: ys => g (inj x) τ M fun τ1 M1 => r ys τ1 M1 Q
  | [] => False
def gQTu (n : Nat) (r : Mqs) : Mg := fun t τ M Q => match tq t with
  | some (.tup xs) => xs.length = n ∧ r xs τ M Q
  | _ => False
def rQs (K : PySem.W.Frag) (os : List Nat) (m : Mqs) : TGs := fun vs σ H Q' => ∃ ds τ M B Q, m ds τ M Q ∧ Wd K B M H ∧ Sl K B σ τ ∧ RqA K B.G vs ds ∧ ∀ τ' M' B' σ' H', Q τ' M' → Wd K B' M' H' → Ext B H B' H' → Sl K B' σ' τ' → Ag os σ σ' → Q' σ' H'
abbrev MQs (X : Cx) (es : List Expr) (os : List Nat) (m : Mqs) : Prop := PGs X es (rQs X.K os m)
section
variable {X : Cx} {e : Expr} {es : List Expr} {g : Mg} {gr : Mqs} {pos : Pos}
theorem mqs_nil : MQs X [] [] qsNil := PGs.of pgs_nil fun v σ H Q' ⟨ds, τ, M, B, Q, h, w, s, r, k⟩ => by
  obtain ⟨rfl, q⟩ := h
  cases r
  exact ⟨rfl, k _ M B _ H q w (.refl _ _) s ⟨rfl, fun _ _ => rfl⟩⟩
theorem mqs_cons {o1 o2 : List Nat} (h1 : MG X e o1 g) (h2 : MQs X es o2 gr) (hs : (assignEach (e :: es) X.env).map (·.2) = assign e X.env :: (assignEach es X.env).map (·.2) := by rfl) : MQs X (e :: es) (o1 ++ o2) (qsCons g gr) :=
  PGs.of (pgs_cons h1 h2 hs) fun v σ H Q' ⟨ds, τ, M, B, Q, h, w, s, r, k⟩ => by
  unfold qsCons at h
  split at h
  · cases r with
    | cons p q =>
      refine ⟨_, _, rfl, _, τ, M, B, _, h, w, s, inj_rt p, fun τ1 M1 B1 σ1 H1 h1 w1 e1 s1 a1 => ?_⟩
      exact ⟨_, τ1, M1, B1, Q, h1, w1, s1, RqA.mono e1.g q, fun τ2 M2 B2 σ2 H2 h2 w2 e2 s2 a2 => k τ2 M2 B2 σ2 H2 h2 w2 (e1.trans e2) s2 (a1.trans a2)⟩
  · exact h.elim
theorem mg_qtup {os : List Nat} {k : Nat} {n : Nat} (hc : X.calm = true) (h : MQs X es os gr) (hn : (assignEach es X.env).length = n := by rfl) (hst : (assignEach es X.env).findIdx? (·.1) = none := by rfl) : MG X (.Tuple es k pos) os (gQTu n gr) :=
  PG.of (pg_tup hc h hn hst) fun v σ H Q' ⟨t, τ, M, B, Q, h, w, s, r, k⟩ => by
  unfold gQTu at h
  split at h
  · rename_i he
    cases tq_rt r he with
    | tup e q => exact ⟨_, _, rfl, SqT.mono w.le e, (RqA.length q).trans h.1, _, τ, M, B, Q, h.2, w, s, q, k⟩
  · exact h.elim
end
def iQSeq (m : Me) : Mi := fun τ M Q => m τ M fun t M1 => match tq t with
  | some (.lst xs) => Q (xs.map inj) M1
  | some (.tup xs) => Q (xs.map inj) M1
  | _ => False
section
variable {X : Cx} {e c tg : Expr} {m : Me} {mr : Ma} {pos : Pos}
theorem walkQ_l {K : PySem.W.Frag} {B : Bk} {a : Addr} {vs : List V} {ds : List Dt} (e : SqL K B.G a vs) (q : RqA K B.G vs ds) : WalkT K B (Itl K a) (ds.map inj) := by
  unfold WalkT
  rw [List.length_map, ← RqA.length q]
  refine walk_list.mono (fun H g => SqL.mono g e) fun i H x H' hi g y => .inl ⟨y.1, ?_⟩
  have hd : i < ds.length := by rw [← RqA.length q]; exact hi
  obtain ⟨u, h1, h2⟩ := RqA.get q (List.getElem?_eq_getElem hd)
  refine ⟨_, by rw [List.getElem?_map, List.getElem?_eq_getElem hd]; rfl, ?_⟩
  rw [y.2] at h1
  cases h1
  exact inj_rt h2
theorem walkQ_t {K : PySem.W.Frag} {B : Bk} {a : Addr} {vs : List V} {ds : List Dt} (e : SqT K B.G a vs) (q : RqA K B.G vs ds) : WalkT K B (Itt K a) (ds.map inj) := by
  unfold WalkT
  rw [List.length_map, ← RqA.length q]
  refine walk_tup.mono (fun H g => SqT.mono0 g e) fun i H x H' hi g y => .inl ⟨y.1, ?_⟩
  have hd : i < ds.length := by rw [← RqA.length q]; exact hi
  obtain ⟨u, h1, h2⟩ := RqA.get q (List.getElem?_eq_getElem hd)
  refine ⟨_, by rw [List.getElem?_map, List.getElem?_eq_getElem hd]; rfl, ?_⟩
  rw [y.2] at h1
  cases h1
  exact inj_rt h2
theorem mi_qseq (he : ME X e m) : MI X tg e (iQSeq m) := by
  refine ⟨fun pn sh sg hp R iv ⟨τ, M, B, Q, h, w, s, k⟩ => ?_⟩
  let P := fun (x : V) (H1 : Hp) => ∃ t M1 B1, (match tq t with | some (.lst xs) => Q (xs.map inj) M1 | some (.tup xs) => Q (xs.map inj) M1 | _ => False) ∧ Wd X.K B1 M1 H1 ∧ Ext B hp B1 H1 ∧ Rt X.K B1 x t
  refine thn (he.run pn sh sg hp P iv ⟨τ, M, B, _, h, w, s, fun v t M1 B1 H1 h1 w1 e1 r1 => ⟨t, M1, B1, h1, w1, e1, r1⟩⟩) fun v s1 ⟨x, H1, i1, rx, t, M1, B1, h1, w1, e1, r1⟩ => ?_
  split at h1
  · rename_i ht
    cases tq_rt r1 ht with
    | lst e q =>
      cases rx
      exact pie_l i1 (.of (w1.le _ _ e)) (k _ M1 B1 H1 _ h1 w1 e1 (walkQ_l (.of e) q))
  · rename_i ht
    cases tq_rt r1 ht with
    | tup e q =>
      cases rx
      exact pie_t i1 (SqT.mono w1.le e) (k _ M1 B1 H1 _ h1 w1 e1 (walkQ_t e.t q))
  · exact h1.elim
end
end L3
set_option Elab.async false
set_option linter.all false
set_option maxRecDepth 100000
set_option maxHeartbeats 1000000
namespace L3
open PySem PySem.Spec L2
mutual
/-- what stands in the heap, dicts too -/
inductive Sw (h : Heap) : Value → PyData → Prop
  | non : Sw h .none .none
  | bl (b : Bool) : Sw h (.bool b) (.bool b)
  | int (i : Int) (t : Tok) : Sw h (.int i t) (.int i)
  | str (x : Str) (t : Tok) : Sw h (.str x t) (.str x)
  | lst {a : Addr} {o : Obj} {us : List Value} {n : Nat} {ds : List PyData} : h.get? a = some o → o.cls = .type "list" → o.data = .seq us.toArray n → SwA h us ds → Sw h (.ref a) (.list ds)
  | tup {a : Addr} {o : Obj} {us : List Value} {n : Nat} {ds : List PyData} : h.get? a = some o → o.cls = .type "tuple" → o.data = .seq us.toArray n → SwA h us ds → Sw h (.ref a) (.tuple ds)
  | dic {a : Addr} {o : Obj} {es : Array DictEntry} {n : Nat} {kvs : List (PyData × PyData)} : h.get? a = some o → o.cls = .type "dict" → o.data = .dict es n → (a == sysModules) = false →
      SwA h (es.toList.map DictEntry.key) (kvs.map Prod.fst) → SwA h (es.toList.map DictEntry.val) (kvs.map Prod.snd) → Sw h (.ref a) (.dict kvs)
inductive SwA (h : Heap) : List Value → List PyData → Prop
  | nil : SwA h [] []
  | cons {u : Value} {us : List Value} {d : PyData} {ds : List PyData} : Sw h u d → SwA h us ds → SwA h (u :: us) (d :: ds)
end
/-- read, and shown within what stands -/
def Shows (P : Program) (w : World) (h : Heap) (u : Value) (d : PyData) : Prop := (∃ as, Reads h u d as) ∧ ∃ bs, ReadAtMost h d.depth bs ∧ ReprK P w bs h d.depth u d.shown
def ShowsA (P : Program) (w : World) (h : Heap) (us : List Value) (ds : List PyData) : Prop := (∃ as, ReadsAll h us ds as) ∧ ∃ bs, ReadAtMost h (PyData.depthAll ds) bs ∧ ReprAllK P w bs h (PyData.depthAll ds) us (PyData.shownAll ds)
section
variable {P : Program} {w : World} {h : Heap}
theorem shows_lst {a : Addr} {o : Obj} {us : List Value} {n : Nat} {ds : List PyData} (g : h.get? a = some o) (c : o.cls = .type "list") (e : o.data = .seq us.toArray n) (k : ShowsA P w h us ds) : Shows P w h (.ref a) (.list ds) := by
  obtain ⟨⟨as, r⟩, bs, hb, q⟩ := k
  have R : Reads h (.ref a) (.list ds) (a :: as) := .list g c e r
  have far : a ∉ bs := not_mem_of_deeper R (by simp only [PyData.depth]; omega) hb
  refine ⟨⟨_, R⟩, a :: bs, .cons R (by simp only [PyData.depth]; omega) hb, ?_⟩
  simp only [PyData.depth, PyData.shown]
  cases us with
  | nil =>
    cases ds with
    | nil =>
      simp only [PyData.shownAll, listText_nil]
      exact .listEmpty g c e
    | cons x l => cases (show ReadsAll h [] (x :: l) as from r)
  | cons x l => exact .list g c e far (by rw [q.length_eq, List.size_toArray]) fun i y z => q.item i y (by rwa [List.getElem?_toArray] at z)
theorem shows_tup {a : Addr} {o : Obj} {us : List Value} {n : Nat} {ds : List PyData} (g : h.get? a = some o) (c : o.cls = .type "tuple") (e : o.data = .seq us.toArray n) (k : ShowsA P w h us ds) : Shows P w h (.ref a) (.tuple ds) := by
  obtain ⟨⟨as, r⟩, bs, hb, q⟩ := k
  have R : Reads h (.ref a) (.tuple ds) as := .tuple g c e r
  have far : a ∉ bs := not_mem_of_deeper R (by simp only [PyData.depth]; omega) hb
  refine ⟨⟨_, R⟩, a :: bs, .cons R (by simp only [PyData.depth]; omega) hb, ?_⟩
  simp only [PyData.depth, PyData.shown]
  exact .tuple g c e far q
theorem shows_dic {a : Addr} {o : Obj} {es : Array DictEntry} {n : Nat} {kvs : List (PyData × PyData)} (g : h.get? a = some o) (c : o.cls = .type "dict") (e : o.data = .dict es n) (ns : (a == sysModules) = false)
    (k1 : ShowsA P w h (es.toList.map DictEntry.key) (kvs.map Prod.fst)) (k2 : ShowsA P w h (es.toList.map DictEntry.val) (kvs.map Prod.snd)) : Shows P w h (.ref a) (.dict kvs) := by
  obtain ⟨⟨as, r⟩, bs, hb, q⟩ := k1
  obtain ⟨⟨as2, r2⟩, cs, hc, q2⟩ := k2
  have R : Reads h (.ref a) (.dict kvs) _ := .dict g c e r r2
  have all : ReadAtMost h (PyData.depthKv kvs) (bs ++ cs) := .append (.mono hb (PyData.depthAll_keys_le kvs)) (.mono hc (PyData.depthAll_vals_le kvs))
  have far : a ∉ bs ++ cs := not_mem_of_deeper R (by simp only [PyData.depth]; omega) all
  refine ⟨⟨_, R⟩, a :: (bs ++ cs), .cons R (by simp only [PyData.depth]; omega) all, ?_⟩
  simp only [PyData.depth, PyData.shown, PyData.shownKv_eq]
  exact .dict g c e ns far (.of_two _ _ _ (q.more_le (fun b hm => List.mem_append_left _ hm) (PyData.depthAll_keys_le kvs)) (q2.more_le (fun b hm => List.mem_append_right _ hm) (PyData.depthAll_vals_le kvs)))
mutual
theorem Sw.shows : ∀ {u : Value} {d : PyData}, Sw h u d → d.showable = true → d.shown.length ≤ sizeLine → Shows P w h u d
  | _, _, .non, _, _ => ⟨⟨_, .none⟩, [], (fun _ z => nomatch z), by simp only [PyData.shown]; exact .of_is .none _ _ _⟩
  | _, _, .bl b, _, _ => ⟨⟨_, .bool b⟩, [], (fun _ z => nomatch z), by simp only [PyData.shown]; exact .of_is (.bool b) _ _ _⟩
  | _, _, .int i t, s, _ => ⟨⟨_, .int i t⟩, [], (fun _ z => nomatch z), by simp only [PyData.shown]; exact .of_is (.int t (of_decide_eq_true s)) _ _ _⟩
  | _, _, .str x t, _, z => ⟨⟨_, .str x t⟩, [], (fun _ z => nomatch z), by simp only [PyData.shown]; exact .of_is (.str x t z) _ _ _⟩
  | _, _, .lst g c e k, s, z => shows_lst g c e (SwA.shows k s fun t m => Nat.le_trans (listText_mem_le m) z)
  | _, _, .tup g c e k, s, z => shows_tup g c e (SwA.shows k s fun t m => Nat.le_trans (tupleText_mem_le m) z)
  | _, _, .dic (kvs := kvs) g c e n k1 k2, s, z => by
    obtain ⟨s1, s2⟩ := PyData.showableKv_split _ s
    refine shows_dic g c e n (SwA.shows k1 s1 fun t m => ?_) (SwA.shows k2 s2 fun t m => ?_)
    · obtain ⟨p, m1, m2⟩ := PyData.shownKv_key_le kvs t m
      exact Nat.le_trans m2 (Nat.le_trans (dictText_mem_le m1) z)
    · obtain ⟨p, m1, m2⟩ := PyData.shownKv_val_le kvs t m
      exact Nat.le_trans m2 (Nat.le_trans (dictText_mem_le m1) z)
theorem SwA.shows : ∀ {us : List Value} {ds : List PyData}, SwA h us ds → PyData.showableAll ds = true → (∀ t ∈ PyData.shownAll ds, t.length ≤ sizeLine) → ShowsA P w h us ds
  | _, _, .nil, _, _ => ⟨⟨_, .nil⟩, [], (fun _ z => nomatch z), .nil⟩
  | _, _, .cons (d := d) (ds := ds) k r, s, z => by
    have s' : d.showable = true ∧ PyData.showableAll ds = true := by simpa [PyData.showableAll] using s
    obtain ⟨⟨as, r1⟩, bs, hb, q1⟩ := Sw.shows k s'.1 (z _ (by simp only [PyData.shownAll]; exact List.mem_cons_self))
    obtain ⟨⟨as2, r2⟩, cs, hc, q2⟩ := SwA.shows r s'.2 fun t m => z t (by simp only [PyData.shownAll]; exact List.mem_cons_of_mem _ m)
    have l1 : d.depth ≤ PyData.depthAll (d :: ds) := by simp only [PyData.depthAll]; exact Nat.le_max_left _ _
    have l2 : PyData.depthAll ds ≤ PyData.depthAll (d :: ds) := by simp only [PyData.depthAll]; exact Nat.le_max_right _ _
    refine ⟨⟨_, .cons r1 r2⟩, bs ++ cs, .append (.mono hb l1) (.mono hc l2), ?_⟩
    have e : PyData.shownAll (d :: ds) = d.shown :: PyData.shownAll ds := by simp only [PyData.shownAll]
    rw [e]
    exact .cons ((q1.more fun b hm => List.mem_append_left _ hm).level_le l1) (q2.more_le (fun b hm => List.mem_append_right _ hm) l2)
end
/-- repr of a value that stands in the heap -/
theorem Sw.repr {s : Shared} {A : Around} {E : Value → Shared → Prop} {Q : Value → Shared → Prop} {a : Addr} {d : PyData} (k : Sw s.heap (.ref a) d) (sh : d.showable = true) (sz : d.shown.length ≤ sizeLine) (hg : A.guards = some []) (hu : A.units + (d.depth + 1) < cLine)
    (hQ : ∀ h' u tk, (∀ b o, s.heap.get? b = some o → h'.get? b = some o) → Q (.str d.shown u) { s with heap := h', toks := tk }) : wpAny (model P w) A (call (.builtin "repr") [.ref a]) Q E s := by
  have st : ∀ b o, s.heap.get? b = some o → s.heap.get? b = some o := fun _ _ z => z
  have room : A.in1.units + d.depth < cLine := by show A.units + 1 + d.depth < cLine; omega
  have hq : ∀ h' u tk, (∀ b o, s.heap.get? b = some o → h'.get? b = some o) → ∃ x t, Value.str d.shown u = .str x t ∧ Q (.str x t) { s with heap := h', toks := tk } := fun h' u tk z => ⟨_, _, rfl, hQ h' u tk z⟩
  cases k with
  | @lst _ o us n ds g c e k =>
    obtain ⟨⟨as, r⟩, bs, hb, q⟩ := SwA.shows (P := P) (w := w) k sh fun t m => Nat.le_trans (listText_mem_le m) sz
    have far : a ∉ bs := not_mem_of_deeper (.list g c e r) (by simp only [PyData.depth]; omega) hb
    simp only [PyData.depth] at room
    simp only [PyData.shown] at hQ
    refine call_repr_slot (by omega) ⟨o, g, c⟩ F.slot_list_repr.toG ?_
    cases us with
    | nil =>
      cases (show ReadsAll s.heap [] ds as from r)
      simp only [PyData.shownAll, listText_nil] at hQ
      exact call_list_repr_empty ⟨o, g, c⟩ g e ⟨_, _, rfl, hQ s.heap _ _ fun _ _ z => z⟩
    | cons x l => exact call_list_reprK g c e far (by rw [q.length_eq, List.size_toArray]) (fun i y z => q.item i y (by rwa [List.getElem?_toArray] at z)) hg (fun b _ => .nil b) room st (fun h' u tk z => ⟨_, _, rfl, hQ h' u tk z⟩) sz
  | @tup _ o us n ds g c e k =>
    obtain ⟨⟨as, r⟩, bs, hb, q⟩ := SwA.shows (P := P) (w := w) k sh fun t m => Nat.le_trans (tupleText_mem_le m) sz
    have far : a ∉ bs := not_mem_of_deeper (.tuple g c e r) (by simp only [PyData.depth]; omega) hb
    simp only [PyData.depth] at room
    simp only [PyData.shown] at hQ
    refine call_repr_slot (by omega) ⟨o, g, c⟩ F.slot_tuple_repr ?_
    exact call_tuple_reprK g c e far q hg (fun b _ => .nil b) room st (fun h' u tk z => ⟨_, _, rfl, hQ h' u tk z⟩) sz
  | @dic _ o es n kvs g c e ns k1 k2 =>
    obtain ⟨s1, s2⟩ := PyData.showableKv_split _ sh
    obtain ⟨⟨as, r1⟩, bs, hb, q1⟩ := SwA.shows (P := P) (w := w) k1 s1 fun t m => by
      obtain ⟨p, m1, m2⟩ := PyData.shownKv_key_le kvs t m
      exact Nat.le_trans m2 (Nat.le_trans (dictText_mem_le m1) sz)
    obtain ⟨⟨as2, r2⟩, cs, hc, q2⟩ := SwA.shows (P := P) (w := w) k2 s2 fun t m => by
      obtain ⟨p, m1, m2⟩ := PyData.shownKv_val_le kvs t m
      exact Nat.le_trans m2 (Nat.le_trans (dictText_mem_le m1) sz)
    have all : ReadAtMost s.heap (PyData.depthKv kvs) (bs ++ cs) := .append (.mono hb (PyData.depthAll_keys_le kvs)) (.mono hc (PyData.depthAll_vals_le kvs))
    have far : a ∉ bs ++ cs := not_mem_of_deeper (.dict g c e r1 r2) (by simp only [PyData.depth]; omega) all
    simp only [PyData.depth] at room
    have sz' := sz
    simp only [PyData.shown, PyData.shownKv_eq] at hQ sz'
    refine call_repr_slot (by omega) ⟨o, g, c⟩ F.slot_dict_repr ?_
    exact call_dict_reprK g c e ns far (.of_two _ _ _ (q1.more_le (fun b hm => List.mem_append_left _ hm) (PyData.depthAll_keys_le kvs)) (q2.more_le (fun b hm => List.mem_append_right _ hm) (PyData.depthAll_vals_le kvs)))
      hg (fun b _ => .nil b) room st (fun h' u tk z => ⟨_, _, rfl, hQ h' u tk z⟩) sz'
end
/-- a key as data -/
def keyP : Key → PyData
  | .inl i => .int i
  | .inr x => .str x
mutual
/-- a value of all kinds as data, where no object stands in it -/
def pd : Dt → Option PyData
  | .non => some .none
  | .bl b => some (.bool b)
  | .int i => some (.int i)
  | .str x => some (.str x)
  | .lst xs => (pds xs).map .list
  | .tup xs => (pds xs).map .tuple
  | .dic ks xs => (pds xs).map fun ys => .dict ((ks.map keyP).zip ys)
  | .obj _ _ _ => none
def pds : List Dt → Option (List PyData)
  | [] => some []
  | x :: xs => match pd x, pds xs with
    | some y, some ys => some (y :: ys)
    | _, _ => none
end
theorem pds_len : ∀ {xs : List Dt} {ys : List PyData}, pds xs = some ys → xs.length = ys.length
  | [], ys, e => by cases e; rfl
  | x :: xs, ys, e => by
    unfold pds at e
    split at e
    · rename_i h1 h2
      cases e
      rw [List.length_cons, List.length_cons, pds_len h2]
    · cases e
section
variable {X : Cx} {pins : List (Addr × Obj)} {σ : L2.St} {H : Hp} {s : Shared}
theorem swa_keys {P : Program} {w : World} {h : Heap} : ∀ {es : List DictEntry} {vs : List (Key × Value)}, Pairs (mixKind P w) es vs → SwA h (es.map DictEntry.key) ((vs.map (·.1)).map keyP) ∧ es.map DictEntry.val = vs.map (·.2)
  | _, _, .nil => ⟨.nil, rfl⟩
  | _, _, .cons (e := e) (kv := kv) k v r => by
    obtain ⟨r1, r2⟩ := swa_keys (h := h) r
    refine ⟨.cons ?_ r1, by rw [List.map_cons, List.map_cons, r2, v]⟩
    rcases keyIs_shape (show keyIs kv.1 e.key = true from k) with ⟨i, t, h1, h2⟩ | ⟨x, t, h1, h2⟩
    · show Sw h e.key (keyP kv.1)
      rw [h1, h2]; exact .int i t
    · show Sw h e.key (keyP kv.1)
      rw [h1, h2]; exact .str x t
theorem kv_vals {kvs : List (Key × V)} {vs : List (Key × Value)} (h : KV kvs vs) : vs.map (·.1) = kvs.map (·.1) ∧ Vals (kvs.map (·.2)) (vs.map (·.2)) := by
  induction h with
  | nil => exact ⟨rfl, .nil⟩
  | cons f _ ih => exact ⟨by rw [List.map_cons, List.map_cons, ih.1, f.1], .cons f.2 ih.2⟩
mutual
theorem Rq.sw (I : Inv X pins σ H s) : ∀ (x : Dt) (v : V) (u : Value) (y : PyData), Rq X.K H v x → RelV v u → pd x = some y → Sw s.heap u y
  | .non, _, _, _, h, r, e => by cases h; cases r; cases e; exact .non
  | .bl b, _, _, _, h, r, e => by cases h; cases r; cases e; exact .bl b
  | .int i, _, _, _, h, r, e => by cases h; obtain ⟨t, rfl⟩ := r; cases e; exact .int i t
  | .str x, _, _, _, h, r, e => by cases h; obtain ⟨t, rfl⟩ := r; cases e; exact .str x t
  | .lst xs, _, _, _, h, r, e => by
    cases h with
    | lst hs ha =>
      cases r
      obtain ⟨its, rv, ⟨o, n, ho, hc, _, hd⟩, _⟩ := I.list (.of hs)
      unfold pd at e
      obtain ⟨ys, e1, e2⟩ := Option.map_eq_some_iff.mp e
      subst e2
      exact .lst ho hc hd (RqA.sw I xs _ _ _ ha rv e1)
  | .tup xs, _, _, _, h, r, e => by
    cases h with
    | tup hs ha =>
      cases r
      obtain ⟨its, rv, ⟨o, ho, hc, n, hd⟩, _⟩ := I.tuple hs.t
      unfold pd at e
      obtain ⟨ys, e1, e2⟩ := Option.map_eq_some_iff.mp e
      subst e2
      exact .tup ho hc hd (RqA.sw I xs _ _ _ ha rv e1)
  | .dic ks xs, _, _, _, h, r, e => by
    cases h with
    | @dic a kvs _ vs _ hs hk hv ha =>
      cases r
      obtain ⟨_, ns, us, ku, o, es, ep, ho, ⟨hc, _, _⟩, hd, _, hp, _⟩ := (I.hok a _ hs : ObjOk X.prog X.w H s.heap a (.dK kvs))
      unfold pd at e
      obtain ⟨ys, e1, e2⟩ := Option.map_eq_some_iff.mp e
      subst e2
      obtain ⟨k1, k2⟩ := swa_keys (h := s.heap) hp
      obtain ⟨v1, v2⟩ := kv_vals ku
      have l : (ks.map keyP).length = ys.length := by
        rw [List.length_map, ← pds_len e1, ← RqA.length ha, ← hv, ← hk, List.length_map, List.length_map]
      refine .dic ho hc hd ns ?_ ?_
      · rw [List.map_fst_zip (Nat.le_of_eq l), ← hk, ← v1]
        exact k1
      · rw [List.map_snd_zip (Nat.le_of_eq l.symm), k2]
        subst hv
        exact RqA.sw I xs _ _ _ ha v2 e1
  | .obj _ _ _, _, _, _, _, _, e => by cases e
theorem RqA.sw (I : Inv X pins σ H s) : ∀ (xs : List Dt) (vs : List V) (us : List Value) (ys : List PyData), RqA X.K H vs xs → Vals vs us → pds xs = some ys → SwA s.heap us ys
  | [], _, _, _, h, r, e => by cases h; cases r; cases e; exact .nil
  | x :: xs, _, _, _, h, r, e => by
    cases h with
    | cons h1 h2 =>
      cases r with
      | cons r1 r2 =>
        unfold pds at e
        split at e
        · rename_i p1 p2
          cases e
          exact .cons (Rq.sw I x _ _ _ h1 r1 p1) (RqA.sw I xs _ _ _ h2 r2 p2)
        · cases e
end
end
structure OkShowQ (x : PyData) : Prop where
  sh : x.showable = true
  dp : x.depth ≤ 100
  ln : x.shown.length ≤ sizeLine
/-- .. a list of the deck too, as it stands now -/
def tqM (t : T) (M : Mem) : Option Dt := match t with
  | .mr n => (match M.D[n]? with
    | some (.lst ts) => (tqs ts).map .lst
    | _ => none)
  | t => tq t
theorem tqM_rt {K : PySem.W.Frag} {B : Bk} {M : Mem} {H : Hp} (w : Wd K B M H) {v : V} {t : T} {x : Dt} (r : Rt K B v t) (e : tqM t M = some x) : Rq K H v x := by
  unfold tqM at e
  split at e
  · split at e
    · rename_i n _ ts hD
      obtain ⟨a, rfl, ha⟩ := r
      obtain ⟨xs, e1, e2⟩ := Option.map_eq_some_iff.mp e
      subst e2
      obtain ⟨_, vs, h1, h2⟩ := w.dc _ _ _ ha hD
      exact .lst h1 (RqA.mono w.le (tqs_rt (B := { B with l := [] }) h2 e1))
    · cases e
  · exact Rq.mono w.le (tq_rt r e)
def fQRepr : FA := fun ts M Q => match ts with
  | [t] => ∃ x y, tqM t M = some x ∧ pd x = some y ∧ OkShowQ y ∧ Q (.str y.shown) M
  | _ => False
def rReprQ (K : PySem.W.Frag) : List V → Hp → VK → Prop := fun xs H Q => ∃ v x y, xs = [v] ∧ Rq K H v x ∧ pd x = some y ∧ OkShowQ y ∧ Q (.str y.shown) H
theorem cal_qrepr {K : PySem.W.Frag} : CaL K (rReprQ K) fQRepr := by
  intro xs ts M B H Q Q' h w r k
  unfold fQRepr at h
  split at h
  · obtain ⟨v, rfl, r1⟩ := paired_one r
    obtain ⟨x, y, e, e2, o, q⟩ := h
    exact ⟨v, x, y, rfl, tqM_rt w r1 e, e2, o, k _ _ M B H q w (.refl _ _) (Rp.str _)⟩
  · exact h.elim
theorem cr_qrepr {X : Cx} {k : Nat} (gd : Gd X.A) (rm : Room k X.A) : CallR X (.builtin "repr") (rReprQ X.K) := by
  intro pn sh sg hp xs us Q iv rv h
  obtain ⟨v, x, y, rfl, hd, e, ok, q⟩ := h
  cases rv with
  | cons r1 rr =>
    cases rr
    have un := rm.un
    have dp := ok.dp
    have fin : ∀ (h' : Heap) (u : Tok) (tk : Nat), (∀ b o, sh.heap.get? b = some o → h'.get? b = some o) → EP X pn sg Q (.str y.shown u) { sh with heap := h', toks := tk } := fun h' u tk z => ⟨.str y.shown, hp, iv.kept z, ⟨_, rfl⟩, q⟩
    have sw := Rq.sw iv x v _ y hd r1 e
    cases sw with
    | non => exact PySem.P.repr_of_none (fin _ _ _ fun _ _ z => z)
    | bl b => exact PySem.P.repr_of_bool (fin _ _ _ fun _ _ z => z)
    | int i t => exact PySem.P.repr_of_int (of_decide_eq_true ok.sh) (fin _ _ _ fun _ _ z => z)
    | str z t => exact PySem.P.repr_of_str (fin _ _ _ fun _ _ z => z) ok.ln
    | lst g c d r => exact Sw.repr (.lst g c d r) ok.sh ok.ln gd (by omega) fin
    | tup g c d r => exact Sw.repr (.tup g c d r) ok.sh ok.ln gd (by omega) fin
    | dic g c d n k1 k2 => exact Sw.repr (.dic g c d n k1 k2) ok.sh ok.ln gd (by omega) fin
theorem me_qrepr {X : Cx} {e : Expr} {es : List Expr} {mr : Ma} {p pos : Pos} {k : Nat} (gd : Gd X.A) (rm : Room k X.A) (hg : Gl X "repr") (hm : X.mg "repr" = none) (ha : MA X (e :: es) mr) (he : starEach (e :: es) X.env = (false, eval e X.env) :: starEach es X.env := by rfl) (hpl : (backTo pos (starEach es X.env)).any (·.1) = false := by rfl) : ME X (.Call (.Name "repr" p) (e :: es) [] pos) (mCall fQRepr mr) := me_callB (cr_qrepr gd rm) cal_qrepr hg hm (by decide +kernel) ha (by decide) (by decide) he hpl
end L3
set_option Elab.async false
set_option linter.all false
set_option maxRecDepth 100000
set_option maxHeartbeats 2000000
namespace PySem.YK
open PySem PySem.Spec PySem.HandSPX
section
variable {prog : Program} {w : World} {A : Around} {E : Value → Shared → Prop} {R : Result → Shared → Prop} {h : Heap} {g : Array GenState} {d : Drawn} {t : Nat} {os : OsState} {M : Model}
variable {nm q : Str} {C N : Addr} {bs bm bmB : List Value} {hdct : Bool} {sn : List Str} {sub : List Value} {ab : Bool} {col : Option Bool} {dd : Option Addr} {k0 k1 k2 k3 k5 : Option Value} {B newId initId : String}
end
end PySem.YK
set_option Elab.async false
set_option linter.all false
set_option maxRecDepth 100000
set_option maxHeartbeats 2000000
namespace L2
open PySem PySem.Spec PyProof.Rows
section
variable {X : Cx} {pins : List (Addr × Obj)} {σ : St} {H : Hp} {s : Shared}
end
section
variable {X : Cx} {e : Expr} {es : List Expr} {kws : List Keyword} {ta : TA} {p pos : Pos} {x : Str} {C fI : Addr} {k : Nat} {fd : FuncData} {ps : List Str} {f arg : Str}
/-- C(): a new exception of a class without an __init__ of its own -/
theorem pe_mk0 {bmB : List Value} {B newId initId : String} (F : ExcBaseFacts B newId initId bmB) (q : PySem.W.excIn X.K C bmB newId = true) (gC : X.mg x = some (.ref C)) (kC : PySem.W.keepIn X.K (.ref C) = true) (hg : Gl X x) (hdb : (x == ("__debug__" : Str)) = false := by decide) :
    PE X (.Call (.Name x p) [] [] pos) (fun σ H Q => ∀ a, H a = none → Q (.ref a) (upd H a (L3.exh a (.ref C) none))) := by
  refine ⟨fun pins s σ H Q I h => ?_⟩
  refine wpAny_Call_Name_kw (ld_glob I hg gC ?_ hdb)
  refine PySem.W.callWith_K0 I.kIn kC ?_
  show wpAny _ _ (call (.ref C) []) _ _ _
  obtain ⟨bm, N, nm, qn, bs, hdct, sn, sub, ab, col, dd, k0, k1, k2, k3, k5, mN, hC, hN, hni, T⟩ := exc_obj I.kIn q
  refine wpAny_call_exc_subT F T hC hN hni (fun h' a hm => ?_) (by show 0 ≤ sizeLine; exact Nat.zero_le _)
  have hn : H a = none := I.hok.gone hm.new
  obtain ⟨t, ht, _, _⟩ := hm.there
  exact ⟨.ref a, upd H a (L3.exh a (.ref C) none), I.laidN hm.keeps hm.new hn (L3.exh_ok ht ⟨rfl, rfl⟩ rfl), rfl, h a hn⟩
end
/-- isinstance(x, c), x an exception of a class of ours that stands as a value -/
def rIsQ (K : PySem.W.Frag) : List V → Hp → VK → Prop := fun xs H Q => ∃ (a C : Addr) (d : Option Addr) (c : V) (cv : Value) (b : Bool), L3.ExF K C ∧ xs = [.ref a, c] ∧ (∀ u, RelV c u → u = cv) ∧ PySem.W.kitOne K (.ref C) cv = some b ∧
  H a = some (L3.exh a (.ref C) d) ∧ (d = none ∨ ∃ dd fs, d = some dd ∧ H dd = some (.xd fs)) ∧ Q (.bl b) H
theorem call_isQ {X : Cx} : CallR X (.builtin "isinstance") (rIsQ X.K) := by
  intro pins s σ H xs us Q iv r h
  obtain ⟨a, C, d, c, cv, b, F, rfl, hcv, e, ha, hd, q⟩ := h
  cases r with
  | cons rx rr =>
    cases rr with
    | cons rt rr =>
      cases rr
      cases rx
      have ec := hcv _ rt
      subst ec
      obtain ⟨⟨oe, vs, hget, hz, hv⟩, _⟩ := (iv.hok a _ ha : ObjOk X.prog X.w H s.heap a (L3.exh a (.ref C) d))
      have J : ∃ od, PySem.W.InstAt s.heap a oe C od := by
        rcases hd with hd | ⟨dd, fs, hd, hx⟩
        · exact ⟨none, hget, hz.1, by unfold PySem.W.notCls; rw [hv] <;> rfl, by rw [hz.2, hd]; trivial⟩
        · obtain ⟨mA, hns, _⟩ := (iv.hok dd _ hx : ObjOk X.prog X.w H s.heap dd (.xd fs))
          obtain ⟨od, ho, _⟩ := lookIn_ns hns
          exact ⟨some od, hget, hz.1, by unfold PySem.W.notCls; rw [hv] <;> rfl, by rw [hz.2, hd]; exact ho⟩
      obtain ⟨od, J⟩ := J
      exact PySem.W.kia_one (PySem.W.kitx_exc F.cl F.ga F.gt F.su F.ha F.hn F.tk F.mo) iv.kIn J e (fun z => nomatch z) fun tk => ⟨.bl b, H, iv.kept (t' := tk) fun _ _ z => z, rfl, q⟩
end L2
namespace L3
open PySem PySem.Spec L2
end L3
set_option Elab.async false
set_option linter.all false
set_option maxRecDepth 100000
set_option maxHeartbeats 2000000
namespace L3
open PySem PySem.Spec L2
/-- the class c without an __init__ -/
def Kx0 (K : PySem.W.Frag) (mg : Str → Option Value) (c : Str) : Prop := ∃ C, mg c = some (.ref C) ∧ CA K c = some C ∧ PySem.W.keepIn K (.ref C) = true ∧ PySem.W.excIn K C tailVE "ValueError.__new__" = true
section
variable {K : PySem.W.Frag} {B : Bk} {M : Mem} {H : Hp}
theorem Wd.obj0 (w : Wd K B M H) {a C : Addr} (ha : H a = none) : ∃ B', Wd K B' M (upd H a (exh a (.ref C) none)) ∧ Ext B H B' (upd H a (exh a (.ref C) none)) ∧ B'.G a = some (exh a (.ref C) none) := by
  obtain ⟨w2, e2⟩ := w.alloc ha (exh a (.ref C) none)
  exact ⟨_, w2, e2, upd_same⟩
theorem Wd.obj1 (w : Wd K B M H) {a dx C : Addr} {f : Str} {v : V} {x : Dt} (ha : H a = none) (hd : H dx = none) (ne : dx ≠ a) (r : Rq K B.G v x) :
    ∃ B', Wd K B' M (upd (upd H dx (.xd [(f, v)])) a (exh a (.ref C) (some dx))) ∧ Ext B H B' (upd (upd H dx (.xd [(f, v)])) a (exh a (.ref C) (some dx))) ∧
      B'.G a = some (exh a (.ref C) (some dx)) ∧ B'.G dx = some (.xd [(f, v)]) ∧ Rq K B'.G v x := by
  obtain ⟨w2, e2⟩ := w.alloc hd (.xd [(f, v)])
  have ha2 : (upd H dx (.xd [(f, v)])) a = none := by rw [upd_ne (Ne.symm ne)]; exact ha
  obtain ⟨w3, e3⟩ := w2.alloc ha2 (exh a (.ref C) (some dx))
  refine ⟨_, w3, e2.trans e3, upd_same, ?_, Rq.mono (e2.trans e3).g r⟩
  exact e3.g dx _ upd_same
end
def mMk0 (c : Str) : Me := fun _ M Q => Q (.q (.obj c [] [])) M
section
variable {X : Cx} {e : Expr} {es : List Expr} {kws : List Keyword} {mr : Ma} {p pos : Pos} {x f arg : Str} {k : Nat}
theorem me_mk0 (T : Kx0 X.K X.mg x) (hg : Gl X x) (hdb : (x == ("__debug__" : Str)) = false := by decide) : ME X (.Call (.Name x p) [] [] pos) (mMk0 x) := by
  obtain ⟨C, gC, hC, kC, q⟩ := T
  refine PE.of (pe_mk0 PySem.F.excBase_ValueError q gC kC hg hdb) fun σ H Q' ⟨τ, M, B, Q, h, w, s, kk⟩ => ?_
  intro a ha
  obtain ⟨B2, w2, e2, g1⟩ := w.obj0 (C := C) ha
  exact kk _ _ M B2 _ h w2 e2 (Rq.obj hC g1)
end
/-- what isinstance says of the objects of the classes in tab, asked for D -/
def IsqT (K : PySem.W.Frag) (D : V) (tab : List (Str × Bool)) : Prop := (∃ cv, ∀ u, RelV D u → u = cv) ∧ ∀ r ∈ tab, ∀ C, CA K r.1 = some C → ExF K C ∧ ∀ cv, RelV D cv → PySem.W.kitOne K (.ref C) cv = some r.2
def tyQ : Dt → Option String
  | .non => some "NoneType"
  | .bl _ => some "bool"
  | .int _ => some "int"
  | .str _ => some "str"
  | .lst _ => some "list"
  | .tup _ => some "tuple"
  | .dic _ _ => some "dict"
  | .obj _ _ _ => none
theorem tyQ_of {K : PySem.W.Frag} {G H : Hp} (le : ∀ a o, G a = some o → H a = some o) {v : V} {x : Dt} {a : String} (r : Rq K G v x) (e : tyQ x = some a) : TyX K H v (.type a) := by
  cases r with
  | non => cases e; exact .base .non
  | bl b => cases e; exact .base (.bl b)
  | int i => cases e; exact .base (.int i)
  | str s => cases e; exact .base (.str s)
  | lst g _ => cases e; exact .base (.lst (le _ _ g))
  | tup g _ =>
    cases e
    rcases g with ⟨o, g, _⟩ | ⟨o, its, n, g1, g2, _⟩
    · exact .fTuple (le _ _ g)
    · exact .kTuple g1 g2
  | dic g _ _ _ => cases e; exact .base (.dK (le _ _ g))
  | obj _ _ => cases e
  | obj1 _ _ _ _ => cases e
  | ins _ _ => cases e
section
variable {X : Cx} {e : Expr} {m : Me} {ty : Str} {T0 : String} {p p2 pos : Pos} {tab : List (Str × Bool)}
theorem cv_of {D : V} {cv : Value} (hcv : ∀ u, RelV D u → u = cv) : RelV D cv := by
  cases D with
  | non => exact (hcv .none rfl) ▸ rfl
  | bl b => exact (hcv (.bool b) rfl) ▸ rfl
  | int z => exact (hcv (.int z 0) ⟨0, rfl⟩) ▸ ⟨0, rfl⟩
  | str z => exact (hcv (.str z 0) ⟨0, rfl⟩) ▸ ⟨0, rfl⟩
  | byt z => exact (hcv (.bytes z 0) ⟨0, rfl⟩) ▸ ⟨0, rfl⟩
  | flt z => exact (hcv (.float z 0) ⟨0, rfl⟩) ▸ ⟨0, rfl⟩
  | ref z => exact (hcv (.ref z) rfl) ▸ rfl
  | ty z => exact (hcv (.type z) rfl) ▸ rfl
theorem isq_obj {K : PySem.W.Frag} {B : Bk} {M : Mem} {H : Hp} {D v : V} {c : Str} {fs : List Str} {xs : List Dt} {b : Bool} {Q : VK} (w : Wd K B M H) (T : IsqT K D tab) (hr : (c, b) ∈ tab) (r : Rq K B.G v (.obj c fs xs)) (ni : fs.length = xs.length) (q : Q (.bl b) H) : rIsQ K [v, D] H Q := by
  obtain ⟨⟨cv, hcv⟩, hT⟩ := T
  cases r with
  | obj hC g =>
    obtain ⟨F, hk⟩ := hT _ hr _ hC
    exact ⟨_, _, _, D, cv, b, F, rfl, hcv, hk cv (cv_of hcv), w.le _ _ g, .inl rfl, q⟩
  | obj1 hC g g2 _ =>
    obtain ⟨F, hk⟩ := hT _ hr _ hC
    exact ⟨_, _, _, D, cv, b, F, rfl, hcv, hk cv (cv_of hcv), w.le _ _ g, .inr ⟨_, _, rfl, w.le _ _ g2⟩, q⟩
  | ins hC g => simp at ni
end
end L3
namespace L3
open PySem PySem.Spec L2 PyProof.Rows PySem.Calls
def exqB (K : PySem.W.Frag) (c : Str) : Bool := match CA K c with
  | some C => decide (PySem.W.keepIn K (.ref C) = true) && (decide (PySem.W.subIn K (.ref C) (.type "BaseException") = some true) && (decide (PySem.W.typeIn K (.ref C) = some (.type "type")) && (decide (PySem.W.isClsIn K C = true) &&
      (decide (PySem.W.findIn K (.ref C) "__getattribute__" = some (some (.builtin "BaseException.__getattribute__"))) && (decide (PySem.W.findIn K (.ref C) "__getattr__" = some none) && (decide (PySem.W.findIn K (.ref C) "__class__" = some (some (.builtin "object.__class__"))) &&
      (decide (PySem.W.specialIn K (.builtin "object.__class__") "__get__" = some (some (.builtin "getset_descriptor.__get__"))) && (decide (PySem.W.takesIn K (.builtin "object.__class__") = some true) && decide (PySem.W.mroIn K C (.type "object") = some true)))))))))
  | none => false
theorem exqB_ok {K : PySem.W.Frag} {c : Str} {C : Addr} (h : exqB K c = true) (e : CA K c = some C) : ExF K C := by
  unfold exqB at h
  rw [e] at h
  simp only [Bool.and_eq_true, decide_eq_true_eq] at h
  obtain ⟨h1, h2, h3, h4, h5, h6, h7, h8, h9, h10⟩ := h
  exact exf_of h1 h2 h3 h4 h5 h6 h7 h8 h9 h10
def isqB (K : PySem.W.Frag) (v : Value) (tab : List (Str × Bool)) : Bool := tab.all fun r => match CA K r.1 with
  | some C => decide (PySem.W.kitOne K (.ref C) v = some r.2)
  | none => false
theorem isqT_of {K : PySem.W.Frag} {D : V} {v : Value} {tab : List (Str × Bool)} (hD : ∀ u, RelV D u → u = v) (h1 : (tab.map (·.1)).all (exqB K) = true) (h2 : isqB K v tab = true) : IsqT K D tab := by
  refine ⟨⟨v, hD⟩, fun r hr C hC => ⟨?_, fun cv rv => ?_⟩⟩
  · rw [List.all_eq_true] at h1
    exact exqB_ok (h1 _ (List.mem_map_of_mem hr)) hC
  · unfold isqB at h2
    rw [List.all_eq_true] at h2
    have := h2 r hr
    rw [hC] at this
    rw [hD _ rv]
    exact of_decide_eq_true this
end L3
set_option Elab.async false
set_option linter.all false
set_option maxRecDepth 100000
set_option maxHeartbeats 1000000
namespace L3
open PySem PySem.Spec L2
def goLcQ (g : Mg) (c : Mb) (m : Me) (τ0 : En) (Q : List Dt → Mem → Prop) : List T → List Dt → Mem → Prop
  | [], acc, M => Q acc M
  | t :: ts, acc, M => g t τ0 M fun τ1 M1 => c τ1 M1 fun k M2 => if k = true then m τ1 M2 fun y M3 => ∃ z, tq y = some z ∧ acc.length < sizeLine ∧ goLcQ g c m τ0 Q ts (acc ++ [z]) M3 else goLcQ g c m τ0 Q ts acc M2
def mQLc (i : Mi) (g : Mg) (c : Mb) (m : Me) (vs : List Nat) : Me := fun τ M Q => i τ M fun ts M1 => goLcQ g c m (wipeT τ vs) (fun acc M2 => Q (.q (.lst acc)) M2) ts [] M1
section
variable {X : Cx} {e c tg : Expr} {m : Me} {mr : Ma} {pos : Pos}
theorem lc_genQ {K : PySem.W.Frag} {i : Mi} {g : Mg} {os : List Nat} {mc : Mb} {vs0 : List Nat} {σ : L2.St} {H : Hp} {Q' : VK} {τ : En} {M : Mem} {B : Bk} {Qf : List Dt → Mem → Prop} (sub : ∀ j ∈ os, j ∈ vs0)
    (h : i τ M fun ts M1 => goLcQ g mc m (wipeT τ vs0) Qf ts [] M1) (w : Wd K B M H) (sl : Sl K B σ τ)
    (k : ∀ (D : Addr) (acc : List Dt) (vs : List V) (M2 : Mem) (B2 : Bk) (H2 : Hp), Qf acc M2 → H D = none → Wd K B2 M2 H2 → Ext B H B2 H2 → H2 D = some (.lst vs) → RqA K B2.G vs acc → B2.G D = none → D ∉ B2.r → D ∉ B2.l → Q' (.ref D) H2) :
    tLc (rI K i) (rG K os g) (rB K mc) (rE K m) vs0 σ H Q' := by
  refine ⟨τ, M, B, _, h, w, sl, fun ts M1 B1 H1 J h1 w1 e1 W D hD => ?_⟩
  obtain ⟨dG, dr, dl⟩ := w1.fresh hD
  have sw := (sl.mono e1).wipe vs0
  refine lc_it W (fun i H2 => ∃ acc vs M2 B2, goLcQ g mc m (wipeT τ vs0) Qf (ts.drop i) acc M2 ∧ Wd K B2 M2 H2 ∧ Ext B1 H1 B2 H2 ∧ H2 D = some (.lst vs) ∧ RqA K B2.G vs acc ∧ B2.G D = none ∧ D ∉ B2.r ∧ D ∉ B2.l) ?_ ?_ ?_ ?_
  · exact ⟨[], [], M1, B1, h1, w1.side hD _, .side hD _, upd_same, .nil, dG, dr, dl⟩
  · rintro i H2 _ ⟨acc, vs, M2, B2, _, w2, e2, _⟩ a o z
    exact w2.le a o (e2.g a o z)
  · rintro i x H2 H3 hlt ⟨acc, vs, M2, B2, h2, w2, e2, d2, r2, g2, n2, l2⟩ y
    obtain ⟨B3, w3, e3, r3⟩ := WalkT.step hlt w2 e2 y
    rw [drop_at hlt, goLcQ] at h2
    have keepD : ∀ {B4 : Bk} {H4 : Hp}, Ext B2 H2 B4 H4 → H4 D = some (.lst vs) ∧ B4.G D = none ∧ D ∉ B4.r ∧ D ∉ B4.l := fun {B4 H4} e4 => by
      refine ⟨e4.fr D _ d2 n2 l2, ?_, fun z => ?_, fun z => ?_⟩
      · cases q : B4.G D with
        | none => rfl
        | some o =>
          rcases e4.gf D o q with z | z | z
          · rw [g2] at z; cases z
          · rw [d2] at z; cases z
          · exact absurd z l2
      · rcases e4.rn D z with q | q
        · exact n2 q
        · rw [d2] at q; cases q
      · rcases e4.ln D z with q | q
        · exact l2 q
        · rw [d2] at q; cases q
    refine ⟨ts[i], wipeT τ vs0, M2, B3, _, h2, w3, (sw.mono e2).mono e3, r3, fun τ4 M4 B4 σ4 H4 h4 w4 e4 s4 a4 => ⟨a4.wipe sub, ?_⟩⟩
    refine ⟨τ4, M4, B4, _, h4, w4, s4, fun k5 M5 B5 H5 h5 w5 e5 => ?_⟩
    have e25 := e3.trans (e4.trans e5)
    cases k5 with
    | false =>
      obtain ⟨q1, q2, q3, q4⟩ := keepD e25
      exact ⟨acc, vs, M5, B5, h5, w5, e2.trans e25, q1, RqA.mono e25.g r2, q2, q3, q4⟩
    | true =>
      refine ⟨τ4, M5, B5, _, h5, w5, s4.mono e5, fun v t M6 B6 H6 h6 w6 e6 r6 => ?_⟩
      obtain ⟨z, hz, h6⟩ := h6
      · have e26 := e25.trans e6
        obtain ⟨q1, q2, q3, q4⟩ := keepD e26
        refine ⟨vs, q1, by rw [RqA.length r2]; exact h6.1, acc ++ [z], vs ++ [v], M6, B6, h6.2, ?_, ?_, upd_same, RqA.append (RqA.mono e26.g r2) (.cons (tq_rt r6 hz) .nil), q2, q3, q4⟩
        · -- the world does not know D
          refine ⟨fun a u z => ?_, w6.rlen, w6.llen, w6.nd, fun j a c z1 z2 => ?_, fun j a ds z1 z2 => ?_, fun a ha => ?_⟩
          · rw [upd_ne (ne_of_none z q2)]
            exact w6.le a u z
          · obtain ⟨p1, p2⟩ := w6.dc j a c z1 z2
            exact ⟨p1, CellAt.mono (fun _ _ e => e) (List.prefix_refl _) (upd_ne fun z => q3 (by rw [← z]; exact mem_of_get z1)) p2⟩
          · obtain ⟨p1, xs, p2, p3⟩ := w6.lc j a ds z1 z2
            exact ⟨p1, xs, (upd_ne fun z => q4 (by rw [← z]; exact mem_of_get z1)).trans p2, p3⟩
          · rw [upd_ne fun z => ?_]
            · exact w6.tr a ha
            · rw [z] at ha
              exact (List.mem_append.mp ha).elim q3 q4
        · have x6 := e2.trans e26
          refine ⟨x6.g, x6.r, x6.l, fun a u z n1 n2 => ?_, fun a z => ?_, x6.rn, x6.ln, x6.gf⟩
          · rw [upd_ne (ne_of_none z hD)]
            exact x6.fr a u z n1 n2
          · by_cases q : a = D
            · rw [q]
              exact hD
            · rw [upd_ne q] at z
              exact x6.tr a z
  · rintro H2 ⟨acc, vs, M2, B2, h2, w2, e2, d2, r2, g2, n2, l2⟩
    rw [List.drop_length] at h2
    exact k D acc vs M2 B2 H2 h2 (e1.tr D hD) w2 (e1.trans e2) d2 r2 g2 n2 l2
theorem lc_ofQ {K : PySem.W.Frag} {i : Mi} {g : Mg} {os : List Nat} {mc : Mb} {vs0 : List Nat} {σ : L2.St} {H : Hp} {Q' : VK} (sub : ∀ j ∈ os, j ∈ vs0) (h : rE K (mQLc i g mc m vs0) σ H Q') : tLc (rI K i) (rG K os g) (rB K mc) (rE K m) vs0 σ H Q' := by
  obtain ⟨τ, M, B, Q, h, w, sl, k⟩ := h
  refine lc_genQ sub h w sl fun D acc vs M2 B2 H2 h2 hD w2 e2 d2 r2 g2 n2 l2 => ?_
  rcases Ext.adoptG (o := .lst vs) hD e2 with x | x
  · exact k _ _ M2 _ H2 h2 (w2.adoptG g2 n2 l2 d2) x (Rq.lst upd_same (RqA.mono (upd_keep g2) r2))
  · exact absurd g2 x
section
variable {elt : Expr} {ifs : List Expr} {scope : Scope} {own : List (Str × Nat)} {i : Mi} {g : Mg} {os : List Nat} {mc : Mb}
theorem me_lcQ (hc : X.calm = true) (hN : X.N.Nodup) (hi : MI X tg e i) (ok : BlkOk X.N X.env.scope scope own)
    (hg : ∀ (s : Shared) (H : Hp) (C : Addr) (cl : List (Str × Addr)) (fp : List Addr), MG (X.blk s H scope (compEnvC scope cl C X.env) fp) tg os g) (ht : ∀ (s : Shared) (H : Hp) (C : Addr) (cl : List (Str × Addr)) (fp : List Addr), MTs (X.blk s H scope (compEnvC scope cl C X.env) fp) ifs mc)
    (he : ∀ (s : Shared) (H : Hp) (C : Addr) (cl : List (Str × Addr)) (fp : List Addr), ME (X.blk s H scope (compEnvC scope cl C X.env) fp) elt m) (sub : ∀ j ∈ os, j ∈ own.map (·.2)) (hs : ∀ x, foldedSetIterable e X.env x = pure x := by intro _; rfl) :
    ME X (.ListComp elt [⟨tg, e, ifs, 0⟩] scope pos) (mQLc i g mc m (own.map (·.2))) := PE.of (pe_lc (te := rE X.K m) (tt := rB X.K mc) (g := rG X.K os g) hc hN hi ok hg ht he hs) fun _ _ _ h => lc_ofQ sub h
variable {n : Nat} {y : Str} {py spos : Pos}
end
end
def keyQ : T → Option Key
  | .d (.int i) => some (.inl i)
  | .d (.str x) => some (.inr x)
  | _ => none
theorem keyQ_rt {K : PySem.W.Frag} {B : Bk} {v : V} {t : T} {k : Key} (r : Rt K B v t) (e : keyQ t = some k) : v = kV k := by
  unfold keyQ at e
  split at e
  · cases e; cases r; rfl
  · cases e; cases r; rfl
  · cases e
def goQD : List (Me × Me) → En → Mem → (List (Key × Dt) → Mem → Prop) → Prop
  | [], _, M, Q => Q [] M
  | (a, b) :: r, τ, M, Q => a τ M fun kt M1 => ∃ k, keyQ kt = some k ∧ b τ M1 fun t M2 => ∃ x, tq t = some x ∧ goQD r τ M2 fun kts M3 => Q ((k, x) :: kts) M3
def mQDic (ps : List (Me × Me)) : Me := fun τ M Q => goQD ps τ M fun kts M1 => ((kts.map (·.1)).Nodup ∧ kts.length ≤ 15) ∧ Q (.q (.dic (kts.map (·.1)) (kts.map (·.2)))) M1
abbrev trsQ (K : PySem.W.Frag) (ps : List (Me × Me)) : List (TE × TE) := ps.map fun p => (rE K p.1, rE K p.2)
theorem qpairs {K : PySem.W.Frag} : ∀ (ps : List (Me × Me)) {σ : L2.St} {τ : En} {M : Mem} {B : Bk} {H : Hp} {Q : List (Key × Dt) → Mem → Prop} {Q' : List (V × V) → Hp → Prop}, goQD ps τ M Q → Wd K B M H → Sl K B σ τ →
    (∀ (kvs : List (Key × V)) (kts : List (Key × Dt)) M' B' H', Q kts M' → Wd K B' M' H' → Ext B H B' H' → kvs.map (·.1) = kts.map (·.1) → RqA K B'.G (kvs.map (·.2)) (kts.map (·.2)) → Q' (kvs.map fun kv => (kV kv.1, kv.2)) H') → tPairs (trsQ K ps) σ H Q'
  | [], σ, τ, M, B, H, Q, Q', h, w, s, k => k [] [] M B H h w (.refl _ _) rfl .nil
  | (a, b) :: r, σ, τ, M, B, H, Q, Q', h, w, s, k => by
    refine ⟨τ, M, B, _, h, w, s, fun v kt M1 B1 H1 ⟨key, hk, h1⟩ w1 e1 r1 => ⟨τ, M1, B1, _, h1, w1, s.mono e1, fun u t M2 B2 H2 ⟨x, hx, h2⟩ w2 e2 r2 => ?_⟩⟩
    have ev := keyQ_rt r1 hk
    subst ev
    refine qpairs r h2 w2 (s.mono (e1.trans e2)) fun kvs kts M3 B3 H3 h3 w3 e3 ek er => ?_
    exact k ((key, u) :: kvs) ((key, x) :: kts) M3 B3 H3 h3 w3 (e1.trans (e2.trans e3)) (by rw [List.map_cons, List.map_cons, ek]) (.cons (Rq.mono e3.g (tq_rt r2 hx)) er)
/-- the world does not know p: what stands there may change -/
theorem Wd.side2 {K : PySem.W.Frag} {B : Bk} {M : Mem} {H : Hp} (w : Wd K B M H) {p : Addr} (hG : B.G p = none) (hr : p ∉ B.r) (hl : p ∉ B.l) (o : HO) : Wd K B M (upd H p o) := by
  refine ⟨fun a u z => ?_, w.rlen, w.llen, w.nd, fun j a c z1 z2 => ?_, fun j a ds z1 z2 => ?_, fun a ha => ?_⟩
  · rw [upd_ne (ne_of_none z hG)]
    exact w.le a u z
  · obtain ⟨p1, p2⟩ := w.dc j a c z1 z2
    exact ⟨p1, CellAt.mono (fun _ _ e => e) (List.prefix_refl _) (upd_ne fun z => hr (by rw [← z]; exact mem_of_get z1)) p2⟩
  · obtain ⟨p1, xs, p2, p3⟩ := w.lc j a ds z1 z2
    exact ⟨p1, xs, (upd_ne fun z => hl (by rw [← z]; exact mem_of_get z1)).trans p2, p3⟩
  · rw [upd_ne fun z => ?_]
    · exact w.tr a ha
    · rw [z] at ha
      exact (List.mem_append.mp ha).elim hr hl
theorem Ext.putG {B B2 : Bk} {H H2 : Hp} {p : Addr} {o : HO} (hp : H p = none) (hG : B2.G p = none) (x : Ext B H B2 H2) : Ext B H { B2 with G := upd B2.G p o } (upd H2 p o) := by
  refine ⟨fun a u e => upd_keep hG a u (x.g a u e), x.r, x.l, fun a u z n1 n2 => ?_, fun a z => ?_, x.rn, x.ln, fun a u e => ?_⟩
  · rw [upd_ne (ne_of_none z hp)]
    exact x.fr a u z n1 n2
  · by_cases q : a = p
    · rw [q]
      exact hp
    · rw [upd_ne q] at z
      exact x.tr a z
  · have e' : upd B2.G p o a = some u := e
    by_cases y : a = p
    · rw [y]
      exact .inr (.inl hp)
    · rw [upd_ne y] at e'
      exact x.gf a u e'
theorem me_qdic {X : Cx} {pos : Pos} {keys : List (Option Expr)} {values : List Expr} {ps : List (Me × Me)} (h : PPs X pos keys values (trsQ X.K ps)) (hall : keys.all (·.isSome) = true) (hl : keys.length = values.length) (h0 : keys ≠ [])
    (h15 : keys.length ≤ 15) : ME X (.Dict keys values pos) (mQDic ps) := PE.of (pe_disp h hall hl h0 h15) fun σ H Q' ⟨τ, M, B, Q, h, w, s, k⟩ => by
  intro p hp
  obtain ⟨hG, hr, hl⟩ := w.fresh hp
  have x0 : Ext B H B (upd H p (.dK [])) := .side hp _
  refine qpairs ps h (w.side hp (.dK [])) s fun kvs kts M2 B2 H2 h2 w2 e2 ek er => ?_
  have hH : H2 p = some (.dK []) := e2.fr p _ upd_same hr hl
  obtain ⟨⟨hnd, h15⟩, hQ⟩ := h2
  have len : kvs.length = kts.length := by rw [← List.length_map (f := (·.1)), ek, List.length_map]
  refine ⟨hH, kvs, rfl, by rw [len]; exact h15, ?_⟩
  rw [merge_nil kvs [] (by rw [List.nil_append, ek]; exact hnd), List.nil_append]
  have nr : p ∉ B2.r := fun z => (e2.rn p z).elim hr fun q => by rw [upd_same] at q; cases q
  have nl : p ∉ B2.l := fun z => (e2.ln p z).elim hl fun q => by rw [upd_same] at q; cases q
  have nG : B2.G p = none := by
    cases q : B2.G p with
    | none => rfl
    | some o =>
      rcases e2.gf p o q with z | z | z
      · rw [hG] at z; cases z
      · rw [upd_same] at z; cases z
      · exact absurd z hl
  have w3 := (w2.side2 nG nr nl (.dK kvs)).adoptG nG nr nl (o := .dK kvs) upd_same
  have x3 : Ext B H { B2 with G := upd B2.G p (.dK kvs) } (upd H2 p (.dK kvs)) := Ext.putG hp nG (x0.trans e2)
  exact k _ _ M2 _ _ hQ w3 x3 (Rq.dic upd_same ek rfl (RqA.mono (upd_keep nG) er))
theorem me_qdic0 {X : Cx} {pos : Pos} : ME X (.Dict [] [] pos) (mQDic []) := PE.of pe_dnewK fun σ H Q' ⟨τ, M, B, Q, h, w, s, k⟩ => by
  intro p hp
  obtain ⟨w2, e2⟩ := w.alloc hp (.dK [])
  exact k _ _ M _ _ h.2 w2 e2 (Rq.dic (kvs := []) upd_same rfl rfl .nil)
end L3
set_option Elab.async false
set_option linter.all false
set_option maxRecDepth 100000
namespace L3
open PySem PySem.Spec L2
end L3
set_option Elab.async false
set_option linter.all false
set_option maxRecDepth 100000
set_option maxHeartbeats 2000000
namespace L3
open PySem PySem.Spec L2 PySem.W
section
variable {X : Cx} {e : Expr} {body : List Stmt} {elts : List Expr} {kk : Nat} {tpos apos cpos pos : Pos} {os : List Nat} {g : Mg} {b : Ms} {s : Nat}
end
end L3
set_option Elab.async false
set_option linter.all false
set_option maxRecDepth 100000
set_option maxHeartbeats 2000000
namespace L3
open PySem PySem.Spec L2 PySem.W
def lookK (kvs : List (PyData × T)) (k : NestedKey) : Option T := (kvs.find? fun kv => decide (nk kv.1 = some k)).map (·.2)
def putK (kvs : List (PyData × T)) (d : PyData) (k : NestedKey) (t : T) : List (PyData × T) :=
  if (lookK kvs k).isSome then kvs.map fun kv => if nk kv.1 = some k then (kv.1, t) else kv else kvs ++ [(d, t)]
abbrev KdT (K : PySem.W.Frag) (B : Bk) (es : List (NestedKey × Addr × V)) (kvs : List (PyData × T)) : Prop := Paired (fun (p : NestedKey × Addr × V) (q : PyData × T) => nk q.1 = some p.1 ∧ okKey 8 p.1 = true ∧ Rp K B.G (.ref p.2.1) q.1 ∧ Rt K { B with l := [] } p.2.2 q.2) es kvs
theorem nk_iff {d : PyData} {p k : NestedKey} (f : nk d = some p) : nk d = some k ↔ p = k := by
  rw [f]
  exact ⟨fun h => Option.some.inj h, fun h => by rw [h]⟩
theorem KdT.look {K : PySem.W.Frag} {B : Bk} {es : List (NestedKey × Addr × V)} {kvs : List (PyData × T)} (r : KdT K B es kvs) (k : NestedKey) : (lookE es k).isSome = (lookK kvs k).isSome ∧ ∀ t, lookK kvs k = some t → ∃ v, lookE es k = some v ∧ Rt K { B with l := [] } v t := by
  unfold KdT at r
  induction r with
  | nil => exact ⟨rfl, fun t e => (nomatch e)⟩
  | @cons p q ps qs f _ ih =>
    by_cases z : p.1 = k
    · have e1 : lookE (p :: ps) k = some p.2.2 := by simp [lookE, List.find?_cons, z]
      have e2 : lookK (q :: qs) k = some q.2 := by simp [lookK, List.find?_cons, (nk_iff f.1).mpr z]
      rw [e1, e2]
      exact ⟨rfl, fun t e => by cases e; exact ⟨_, rfl, f.2.2.2⟩⟩
    · have z2 : ¬ nk q.1 = some k := fun y => z ((nk_iff f.1).mp y)
      have e1 : lookE (p :: ps) k = lookE ps k := by simp [lookE, List.find?_cons, z]
      have e2 : lookK (q :: qs) k = lookK qs k := by simp [lookK, List.find?_cons, z2]
      rw [e1, e2]
      exact ih
theorem KdT.repl {K : PySem.W.Frag} {B : Bk} {es : List (NestedKey × Addr × V)} {kvs : List (PyData × T)} (r : KdT K B es kvs) (k : NestedKey) {v : V} {t : T} (rv : Rt K { B with l := [] } v t) :
    KdT K B (es.map fun e => if e.1 = k then (e.1, e.2.1, v) else e) (kvs.map fun kv => if nk kv.1 = some k then (kv.1, t) else kv) := by
  unfold KdT at r
  induction r with
  | nil => exact .nil
  | @cons p q ps qs f _ ih =>
    refine .cons ?_ ih
    by_cases z : p.1 = k
    · have e1 : (fun e : NestedKey × Addr × V => if e.1 = k then (e.1, e.2.1, v) else e) p = (p.1, p.2.1, v) := if_pos z
      have e2 : (fun kv : PyData × T => if nk kv.1 = some k then (kv.1, t) else kv) q = (q.1, t) := if_pos ((nk_iff f.1).mpr z)
      rw [e1, e2]
      exact ⟨f.1, f.2.1, f.2.2.1, rv⟩
    · have e1 : (fun e : NestedKey × Addr × V => if e.1 = k then (e.1, e.2.1, v) else e) p = p := if_neg z
      have e2 : (fun kv : PyData × T => if nk kv.1 = some k then (kv.1, t) else kv) q = q := if_neg fun y => z ((nk_iff f.1).mp y)
      rw [e1, e2]
      exact f
theorem KdT.put {K : PySem.W.Frag} {B : Bk} {es : List (NestedKey × Addr × V)} {kvs : List (PyData × T)} (r : KdT K B es kvs) {d : PyData} {k : NestedKey} {b : Addr} (hd : nk d = some k) (hk : okKey 8 k = true) (hb : Rp K B.G (.ref b) d) {v : V} {t : T} (rv : Rt K { B with l := [] } v t) :
    KdT K B (putE es k b v) (putK kvs d k t) := by
  unfold putE putK
  rw [(r.look k).1]
  split
  · exact r.repl k rv
  · exact Paired.snoc r ⟨hd, hk, hb, rv⟩
theorem KdT.at {K : PySem.W.Frag} {B : Bk} {M : Mem} {H : Hp} {es : List (NestedKey × Addr × V)} {kvs : List (PyData × T)} (w : Wd K B M H) (r : KdT K B es kvs) : ∀ e ∈ es, KeyAt K H e.2.1 e.1 := by
  unfold KdT at r
  induction r with
  | nil => intro e he; cases he
  | @cons p q ps qs f _ ih =>
    intro e he
    rcases List.mem_cons.mp he with z | he
    · subst z
      exact ⟨f.2.1, _, f.1, w.rp f.2.2.1⟩
    · exact ih e he
section
variable {X : Cx} {o i e f value : Expr} {mo mi mv mz : Me} {pos pos' apos cpos : Pos} {kk : Nat}
end
end L3
set_option Elab.async false
set_option linter.all false
set_option maxRecDepth 100000
set_option maxHeartbeats 2000000
namespace L3
open PySem PySem.Spec L2 PySem.W
section
variable {P : Program} {w : World} {K : PySem.W.Frag} {elts : List Expr} {kk : Nat} {tpos : Pos} {d : Addr} {o : Obj} {es : Ents} {ds : Array DictEntry} {ep : Nat}
end
section
variable {X : Cx} {e : Expr} {body : List Stmt} {elts : List Expr} {kk : Nat} {tpos apos cpos pos : Pos} {os : List Nat} {g : Mg} {b : Ms} {s : Nat}
end
end L3
set_option Elab.async false
set_option linter.all false
set_option maxRecDepth 100000
set_option maxHeartbeats 2000000
namespace L3
open PySem PySem.Spec L2 PySem.W
section
variable {X : Cx} {o e f : Expr} {mo mi mz : Me} {apos cpos pos : Pos}
end
end L3
set_option Elab.async false
set_option linter.all false
set_option maxRecDepth 100000
set_option maxHeartbeats 2000000
namespace L3
open PySem PySem.Spec L2 PySem.W
section
variable {X : Cx} {elt e : Expr} {elts : List Expr} {kk : Nat} {tpos apos cpos pos : Pos} {ifs : List Expr} {scope : Scope} {own : List (Str × Nat)} {os : List Nat} {g : Mg} {mc : Mb} {m : Me} {s : Nat}
end
end L3
set_option Elab.async false
set_option linter.all false
set_option maxRecDepth 100000
set_option maxHeartbeats 1000000
namespace L3
open PySem PySem.Spec L2 PySem.W
end L3
set_option Elab.async false
set_option linter.all false
set_option maxRecDepth 100000
set_option maxHeartbeats 2000000
namespace L3
open PySem PySem.Spec L2 PySem.W PyProof.Rows
section
variable {X : Cx}
end
end L3
set_option Elab.async false
set_option linter.all false
set_option maxRecDepth 100000
set_option maxHeartbeats 2000000
namespace L3
open PySem PySem.Spec L2 PySem.W
end L3
set_option Elab.async false
set_option linter.all false
set_option maxRecDepth 100000
set_option maxHeartbeats 2000000
namespace L3
open PySem PySem.Spec L2 PySem.W
section
variable {K : Type} [DecidableEq K] {prog : Program} {w : World} {A : Around} {E : Value → Shared → Prop} {s : Shared} {knd : HeapKind prog w K}
end
end L3
set_option Elab.async false
set_option linter.all false
set_option maxRecDepth 100000
namespace L3
open PySem PySem.Spec L2 Sh
end L3
set_option Elab.async false
set_option linter.all false
set_option maxRecDepth 100000
set_option maxHeartbeats 4000000
namespace L3
open PySem PySem.Spec L2 PySem.W PyProof.Rows
section
variable {P : Program} {w : World} {A : Around} {E : Value → Shared → Prop} {s : Shared}
end
end L3
set_option Elab.async false
set_option linter.all false
set_option maxRecDepth 100000
namespace L3
open PySem PySem.Spec L2 PySem.W
section
variable {P : Program} {w : World} {K : PySem.W.Frag} {mg : Str → Option Value} {base : Heap} {k : Nat} {f : Addr} {fd : FuncData} {ps : List Str} {m : FX}
end
end L3
set_option Elab.async false
set_option linter.all false
set_option maxRecDepth 100000
namespace L3
open PySem PySem.Spec L2 PySem.W
section
variable {X : Cx}
end
end L3
set_option Elab.async false
set_option linter.all false
set_option maxRecDepth 100000
set_option maxHeartbeats 2000000
namespace SrtV
open PySem PySem.Spec PyProof.Rows TS Srt SrtO
section
variable {P : Program} {w : World} {A : Around} {E : Value → Shared → Prop} {s : Shared}
end
end SrtV
namespace L3
open PySem PySem.Spec L2 PyProof.Rows
end L3
set_option Elab.async false
set_option linter.all false
set_option maxRecDepth 100000
set_option maxHeartbeats 2000000
namespace L3
open PySem PySem.Spec L2 PySem.W
section
open PyProof.Rows HT
variable {X : Cx} {e : Expr} {te : TE} {p pos tpos p1 p2 : Pos} {elts : List Expr} {kk : Nat}
end
end L3
set_option Elab.async false
set_option linter.all false
set_option maxRecDepth 100000
set_option maxHeartbeats 2000000
namespace L3
open PySem PySem.Spec L2 PySem.W
def goEnQ (i j : Nat) (b : Ms) (E : Es) : Nat → List Dt → En → Mem → Prop
  | _, [], τ, M => E.nx τ M
  | k, x :: xs, τ, M => b { E with nx := goEnQ i j b E (k + 1) xs, ct := goEnQ i j b E (k + 1) xs, bk := E.nx } ((τ.set i (some (.int (k : Int)))).set j (some (inj x))) M
def mForEnQ (m : Me) (i j : Nat) (b : Ms) : Ms := fun E τ M => m τ M fun t M1 => match tq t with
  | some (.lst xs) => goEnQ i j b E 0 xs τ M1
  | some (.tup xs) => goEnQ i j b E 0 xs τ M1
  | _ => False
def iEnQ (K : PySem.W.Frag) (te : TE) : TI := fun σ H R => te σ H fun x H1 => ∃ k a xs, [x] = [V.ref a] ∧ srcS K k H1 a xs ∧ ∀ e it, e ≠ a → it ≠ a → R (ItN xs.length (fun H => srcS K k H a xs ∧ a ≠ e ∧ a ≠ it) fun i => [.int (i : Int), xs.getD i .non]) H1
section
open PyProof.Rows HT
variable {X : Cx} {e : Expr} {te : TE} {p pos tpos p1 p2 : Pos} {elts : List Expr} {kk : Nat}
theorem pi_enQ (hg : Gl X "enumerate") (hm : X.mg "enumerate" = none) (he : PE X e te) (hs : starEach [e] X.env = [(false, eval e X.env)] := by rfl) :
    PI X (.Tuple elts kk tpos) (.Call (.Name "enumerate" p) [e] [] pos) (iEnQ X.K te) := by
  refine ⟨fun pn sh sg hp R iv h => ?_⟩
  let P := fun (vs : List V) (H1 : Hp) => ∃ k a xs, vs = [V.ref a] ∧ srcS X.K k H1 a xs ∧ ∀ e it, e ≠ a → it ≠ a → R (ItN xs.length (fun H => srcS X.K k H a xs ∧ a ≠ e ∧ a ≠ it) fun i => [.int (i : Int), xs.getD i .non]) H1
  have hx : PA X [e] (tCons te tNil) := pa_cons he pa_nil hs
  refine Call_ (ld_blt iv hg hm boot_enumerate (PyProof.Rows.callWith_type1 (thn (hx.run pos pn sh sg hp P iv h) fun us s1 ⟨vs, H1, I1, r1, kd, a, xs, e0, hxa, k⟩ => ?_) hs rfl))
  subst e0
  cases r1 with
  | cons r rr =>
    cases rr
    cases r
    exact pie_enumS I1 (k := kd) hxa k
theorem rqa_nth {K : PySem.W.Frag} {G : Hp} : ∀ {vs : List V} {xs : List Dt}, RqA K G vs xs → ∀ {i : Nat} (hi : i < xs.length), Rq K G (vs.getD i .non) xs[i]
  | _, _, .nil, _, h => by cases h
  | _, _, .cons p _, 0, _ => p
  | _, _, .cons _ q, i + 1, h => rqa_nth q (by simpa using h)
theorem ms_forEnQ {cpos : Pos} {m : Me} {b : Ms} {body : List Stmt} {i j : Nat} {x1 x2 : Str} (hp : PassesOwn (model X.prog X.w) X.A X.env X.xe) (hc : X.calm = true) (hN : X.N.Nodup) (hg : Gl X "enumerate") (hm : X.mg "enumerate" = none) (he : ME X e m)
    (h1 : PG X (.Name x1 p1) (gName i)) (h2 : PG X (.Name x2 p2) (gName j)) (hb : MSs X body b)
    (hs1 : (assignEach [.Name x1 p1, .Name x2 p2] X.env).map (·.2) = assign (.Name x1 p1) X.env :: (assignEach [.Name x2 p2] X.env).map (·.2) := by rfl)
    (hs2 : (assignEach [.Name x2 p2] X.env).map (·.2) = assign (.Name x2 p2) X.env :: (assignEach [] X.env).map (·.2) := by rfl)
    (hn : (assignEach [.Name x1 p1, .Name x2 p2] X.env).length = 2 := by rfl) (hst : (assignEach [.Name x1 p1, .Name x2 p2] X.env).findIdx? (·.1) = none := by rfl)
    (hse : starEach [e] X.env = [(false, eval e X.env)] := by rfl) (hs : ∀ x, foldedSetIterable (.Call (.Name "enumerate" p) [e] [] cpos) X.env x = pure x := by intro _; rfl) :
    MS X (.For (.Tuple [.Name x1 p1, .Name x2 p2] kk tpos) (.Call (.Name "enumerate" p) [e] [] cpos) body [] pos) (mForEnQ m i j b) :=
  PS.of (ps_for hp hc (pi_enQ hg hm he hse) (pg_tup hc (pgs_cons h1 (pgs_cons h2 pgs_nil hs2) hs1) hn hst) hb hs) fun D σ H ⟨E, τ, M, B, h, w, sl, go⟩ => by
  refine ⟨τ, M, B, _, h, w, sl, fun v t M1 B1 H1 h1 w1 e1 r1 => ?_⟩
  obtain ⟨xs, kd, a, vs, rfl, hsrc, hq, q⟩ : ∃ xs kd a vs, v = .ref a ∧ srcS X.K kd B1.G a vs ∧ RqA X.K B1.G vs xs ∧ goEnQ i j b E 0 xs τ M1 := by
    split at h1
    · rename_i ht
      cases tq_rt r1 ht with
      | lst e q => exact ⟨_, .l, _, _, rfl, .inl (.inl e), q, h1⟩
    · rename_i ht
      cases tq_rt r1 ht with
      | tup e q => exact ⟨_, .t, _, _, rfl, e.t, q, h1⟩
    · exact h1.elim
  refine ⟨kd, a, vs, rfl, srcS_mono w1.le hsrc, fun en it n1 n2 => ?_⟩
  have lx : vs.length = xs.length := RqA.length hq
  have W : Walk (ItN vs.length (fun H => srcS X.K kd H a vs ∧ a ≠ en ∧ a ≠ it) fun i => [.int (i : Int), vs.getD i .non]) vs.length (fun H2 => ∀ c o, B1.G c = some o → H2 c = some o) fun k H2 x H3 => ∃ T, x = .ref T ∧ H2 T = none ∧ H3 = upd H2 T (.tup [.int (k : Int), vs.getD k .non]) :=
    ⟨fun k H2 hk g2 => ⟨hk, srcS_mono g2 hsrc, n1.symm, n2.symm⟩, fun H2 g2 => ⟨rfl, srcS_mono g2 hsrc, n1.symm, n2.symm⟩, fun k H2 x H3 hk g2 y => y⟩
  refine for_it W (fun k σ2 H2 => ∃ τ2 M2 B2, goEnQ i j b E k (xs.drop k) τ2 M2 ∧ Wd X.K B2 M2 H2 ∧ Sl X.K B2 σ2 τ2 ∧ Ext B1 H1 B2 H2) ⟨τ, M1, B1, q, w1, sl.mono e1, .refl _ _⟩ ?_ ?_ ?_
  · rintro k σ2 H2 _ ⟨τ2, M2, B2, _, w2, _, e2⟩ c o z
    exact w2.le c o (e2.g c o z)
  · rintro k x σ2 H2 H3 hk ⟨τ2, M2, B2, h2, w2, s2, e2⟩ ⟨p, rfl, hpn, rfl⟩
    have hk2 : k < xs.length := by omega
    obtain ⟨w3, e3⟩ := w2.alloc hpn (.tup [.int (k : Int), vs.getD k .non])
    rw [drop_at hk2] at h2
    have e23 := e2.trans e3
    have rk3 : Rt X.K { B2 with G := upd B2.G p (.tup [.int (k : Int), vs.getD k .non]) } (vs.getD k .non) (inj xs[k]) := inj_rt (B := { B2 with G := upd B2.G p (.tup [.int (k : Int), vs.getD k .non]) }) (Rq.mono e23.g (rqa_nth hq hk2))
    have s3 := (s2.mono e3).set i (show Rt X.K _ (.int (k : Int)) (.int (k : Int)) from .int _)
    have s4 := s3.set j rk3
    refine ⟨p, _, rfl, .inl (.inl upd_same), rfl, _, _, rfl, _, _, rfl, rfl, ?_⟩
    refine ⟨_, _, M2, _, h2, w3, s4, ⟨?_, ?_, ?_, ?_⟩⟩
    · exact fun τ5 M5 B5 σ5 H5 q w5 e5 s5 => ⟨τ5, M5, B5, q, w5, s5, e23.trans e5⟩
    · exact fun v t M5 B5 H5 q w5 e5 r5 => go.rt v t M5 B5 H5 q w5 (e1.trans (e23.trans e5)) r5
    · exact fun τ5 M5 B5 σ5 H5 q w5 e5 s5 => go.nx τ5 M5 B5 σ5 H5 q w5 (e1.trans (e23.trans e5)) s5
    · exact fun τ5 M5 B5 σ5 H5 q w5 e5 s5 => ⟨τ5, M5, B5, q, w5, s5, e23.trans e5⟩
  · rintro σ2 H2 ⟨τ2, M2, B2, h2, w2, s2, e2⟩
    rw [lx, List.drop_length] at h2
    exact go.nx τ2 M2 B2 σ2 H2 h2 w2 (e1.trans e2) s2
end
end L3
set_option Elab.async false
set_option linter.all false
set_option maxRecDepth 100000
set_option maxHeartbeats 1000000
namespace L3
open PySem PySem.Spec L2
/-- a field put, told by trees -/
def putI (f : Str) (t : T) : List (Str × T) → List (Str × T)
  | [] => [(f, t)]
  | (g, x) :: r => if g = f then (g, t) :: r else (g, x) :: putI f t r
abbrev PI1 (K : PySem.W.Frag) (B : Bk) : List (Str × V) → List (Str × T) → Prop := Paired fun (p : Str × V) (q : Str × T) => p.1 = q.1 ∧ Rt K { B with l := [] } p.2 q.2
theorem pi_put {K : PySem.W.Frag} {B : Bk} {f : Str} {v : V} {t : T} (r : Rt K { B with l := [] } v t) : ∀ {vs : List (Str × V)} {fs : List (Str × T)}, PI1 K B vs fs → PI1 K B (putF f v vs) (putI f t fs)
  | _, _, .nil => .cons ⟨rfl, r⟩ .nil
  | _, _, .cons (a := a) (b := b) p q => by
    obtain ⟨g, x⟩ := a
    obtain ⟨g2, y⟩ := b
    obtain ⟨e, ry⟩ := p
    cases (show g = g2 from e)
    unfold putF putI
    by_cases h : g = f
    · rw [if_pos h, if_pos h]
      exact .cons ⟨rfl, r⟩ q
    · rw [if_neg h, if_neg h]
      exact .cons ⟨rfl, ry⟩ (pi_put r q)
theorem pi_len {K : PySem.W.Frag} {B : Bk} {vs : List (Str × V)} {fs : List (Str × T)} (h : PI1 K B vs fs) : vs.length = fs.length := Paired.length h
/-- what the written part says of the class c; c has no f of its own -/
def KIc (K : PySem.W.Frag) (c : Str) : Prop := ∀ C, CA K c = some C → Cls K C
def KIf (K : PySem.W.Frag) (c f : Str) : Prop := ∀ C, CA K c = some C → NoAttr K C f
/-- o.f = v -/
def mSetI (c f : Str) (o v : Me) : Ms := fun E τ M => v τ M fun y M1 => o τ M1 fun t M2 => ∃ n fs, t = .mr n ∧ M2.D[n]? = some (.ins c fs) ∧ noL y = true ∧ fs.length < 1000 ∧ E.nx τ { M2 with D := M2.D.set n (.ins c (putI f y fs)) }
theorem ms_setI {X : Cx} {o value : Expr} {mo mv : Me} {c f : Str} {pos pos' : Pos} (T : KIc X.K c) (N : KIf X.K c f) (ho : ME X o mo) (hv : ME X value mv) (hs : swapsWith value (some (.Attribute o f pos')) pos.line X.env = pure false := by rfl) : MS X (.Assign [.Attribute o f pos'] value pos) (mSetI c f mo mv) := by
  refine PS.of (ps_fld ho hv hs) fun D σ H ⟨E, τ, M, B, h, w, sl, g⟩ => ?_
  refine ⟨τ, M, B, _, h, w, sl, fun y t M1 B1 H1 h1 w1 e1 r1 => ⟨τ, M1, B1, _, h1, w1, sl.mono e1, fun x u M2 B2 H2 ⟨n, fs, eu, hD, hn, hl, q⟩ w2 e2 r2 => ?_⟩⟩
  subst eu
  obtain ⟨a, rfl, ha⟩ := r2
  obtain ⟨_, C, dx, vs, hC, hH, hp⟩ := w2.dc n a _ ha hD
  have ry := Rt.deck hn (Rt.mono e2 r1)
  obtain ⟨w3, e3⟩ := w2.setD ha hD (o := .ins C dx (putF f y vs)) (c := .ins c (putI f t fs)) fun H' eH => ⟨C, dx, _, hC, eH, pi_put ry hp⟩
  exact ⟨a, C, dx, vs, rfl, hH, T C hC, N C hC, by rw [pi_len hp]; exact hl, g.nx τ _ B2 σ _ q w3 (e1.trans (e2.trans e3)) (sl.mono (e1.trans (e2.trans e3)))⟩
/-- the class c, its __init__: a def that is known -/
def KnI (P : Program) (w : World) (K : PySem.W.Frag) (mg : Str → Option Value) (base : Heap) (k : Nat) (c : Str) (ps : List Str) (m : FD) : Prop :=
  ∃ C f fd, mg c = some (.ref C) ∧ CA K c = some C ∧ Mk K C f ∧ FnG P w K mg base k f fd ps (spM K m) ∧ Binds K fd ps []
theorem gd_make {A : Around} (g : Gd A) (C : Addr) (us : List Value) : Gd (A.under (.builtin "type.__call__" ⟨.ref C :: us, []⟩)) := by
  unfold Gd at g ⊢
  unfold Around.under
  dsimp only
  rw [g]
  rfl
theorem run_makeG {X : Cx} {k : Nat} {C f : Addr} {fd : FuncData} {ps : List Str} {sp : Sp} {pins : List (Addr × Obj)} {σ : St} {H : Hp} {s : Shared} {Q : VK} {us : List Value} {vs : List V} (M : Mk X.K C f) (F : FnG X.prog X.w X.K X.mg X.base k f fd ps sp) (gd : Gd X.A) (hr : Room (k + 1) X.A) (hb : Binds X.K fd ps [])
    (I : Inv X pins σ H s) (r : Vals vs us) (h : ∀ x dx, H x = none → H dx = none → dx ≠ x → sp (.ref x :: vs) (upd (upd H dx (.own x)) x (.ins C dx [])) (fun v H2 => v = .non ∧ Q (.ref x) H2) E0) :
    wpAny (model X.prog X.w) X.A (call (.ref C) us) (EP X pins σ Q) X.xe s := by
  have hq := h (s.heap.objs.size + 1) s.heap.objs.size (I.hok.fresh (Nat.le_succ _)) (I.hok.fresh (Nat.le_refl _)) (Nat.ne_of_lt (Nat.lt_succ_self _))
  have I2 := Inv.made (C := C) I
  have r2 : Vals (V.ref (s.heap.objs.size + 1) :: vs) (Value.ref (s.heap.objs.size + 1) :: us) := .cons rfl r
  have hl : ((Value.ref (s.heap.objs.size + 1) :: us) ++ []).length = ps.length := by
    rw [List.append_nil, ← r2.length]
    exact F.len _ _ _ _ hq
  have hbb := hb _ (Value.ref (s.heap.objs.size + 1) :: us) I2.kIn hl
  rw [List.append_nil] at hbb
  refine wpAny_call (make_map (f := f) I.kIn M.makes M.init (beq_iff_eq.mp M.fn) (codeAny_mono (F.run _ X.stack _ _ ⟨Value.ref (s.heap.objs.size + 1) :: us, []⟩ (Value.ref (s.heap.objs.size + 1) :: us) _ _ E0 (gd_make gd C us) (hr.make C us []) (I2.env0.make C us []) hbb r2 hq) fun r s' hq' => ?_))
  cases r with
  | error e => exact False.elim hq'
  | ok fl =>
    cases fl with
    | ret u =>
      obtain ⟨v, H', I3, rv, ev, q3⟩ := I2.after hq'
      subst ev
      exact ⟨rv, ⟨V.ref (s.heap.objs.size + 1), H', I3, rfl, q3⟩⟩
    | next => exact False.elim hq'
    | brk => exact False.elim hq'
    | cont => exact False.elim hq'
/-- .. that is only handed about from now on -/
def mNewQ (c : Str) (d : FD) (r : Ma) : Me := fun τ M Q => r τ M fun ts M1 => (∀ t ∈ ts, noL t = true) ∧ d (.mr M1.D.length :: ts) (M1.D ++ [.ins c []]) fun t D2 => t = .non ∧ D2.take M1.D.length = M1.D ∧ clo M1.D.length D2 ∧ (∃ fs, D2[M1.D.length]? = some (.ins c fs)) ∧ Q (.q (.obj c ["!"] [])) M1
section
variable {X : Cx} {e : Expr} {es : List Expr} {mr : Ma} {p pos : Pos} {x : Str} {j k : Nat} {ps : List Str} {d : FD}
theorem Wd.newI {K : PySem.W.Frag} {B : Bk} {M : Mem} {H : Hp} (w : Wd K B M H) {x dx C : Addr} {c : Str} (hC : CA K c = some C) (hx : H x = none) (hd : H dx = none) (ne : dx ≠ x) :
    ∃ B', Wd K B' { M with D := M.D ++ [.ins c []] } (upd (upd H dx (.own x)) x (.ins C dx [])) ∧ Ext B H B' (upd (upd H dx (.own x)) x (.ins C dx [])) ∧ B'.r = B.r ++ [x] := by
  obtain ⟨w2, e2⟩ := w.alloc hd (.own x)
  have hx2 : (upd H dx (.own x)) x = none := by rw [upd_ne (Ne.symm ne)]; exact hx
  obtain ⟨w3, e3⟩ := w2.newD hx2 (o := .ins C dx []) (c := .ins c []) fun H' eH => ⟨C, dx, [], hC, eH, .nil⟩
  exact ⟨_, w3, e2.trans e3, rfl⟩
theorem paired_noL {K : PySem.W.Frag} {B : Bk} : ∀ {vs : List V} {ts : List T}, Paired (Rt K B) vs ts → (∀ t ∈ ts, noL t = true) → Paired (Rt K { B with l := [] }) vs ts
  | _, _, .nil, _ => .nil
  | _, _, .cons p q, h => .cons (p.deck (h _ List.mem_cons_self)) (paired_noL q fun t z => h t (List.mem_cons_of_mem _ z))
theorem me_newQ (T : KnI X.prog X.w X.K X.mg X.base j x ps d) (gd : Gd X.A) (rm : Room k X.A) (hj : j + 1 ≤ k) (hg : Gl X x) (ha : MA X (e :: es) mr) (hdb : (x == ("__debug__" : Str)) = false := by decide)
    (he : starEach (e :: es) X.env = (false, eval e X.env) :: starEach es X.env := by rfl) (hpl : (backTo pos (starEach es X.env)).any (·.1) = false := by rfl) : ME X (.Call (.Name x p) (e :: es) [] pos) (mNewQ x d mr) := by
  obtain ⟨C, f, fd, gC, hC, M0, F, hb⟩ := T
  refine ⟨fun pn sh sg hp Q' iv ⟨τ, M, B, Q, h, w, s, kk⟩ => wpAny_Call_Name_kw (ld_glob iv hg gC ?_ hdb)⟩
  let P := fun (vs : List V) (H1 : Hp) => ∀ x dx, H1 x = none → H1 dx = none → dx ≠ x → spM X.K d (.ref x :: vs) (upd (upd H1 dx (.own x)) x (.ins C dx [])) (fun v H2 => v = .non ∧ Q' (.ref x) H2) E0
  refine PySem.W.callWith_K (h₀ := X.base) iv.ok.mod.kin M0.kp (thn (ha.run pos pn sh sg hp P iv ⟨τ, M, B, _, h, w, s, fun vs ts M1 B1 H1 h1 w1 e1 r1 => ?_⟩) fun us s1 ⟨vs, H1, i1, r, q⟩ => ⟨i1.kIn, run_makeG M0 F gd (rm.mono hj) hb i1 r q⟩) he hpl
  intro y dx hy hd ne
  obtain ⟨hts, h1⟩ := h1
  obtain ⟨B2, w2, e2, er⟩ := w1.leave.newI hC hy hd ne
  have er : B2.r = B1.r ++ [y] := er
  have ry : Rt X.K B2 (.ref y) (.mr M1.D.length) := ⟨y, rfl, by rw [er, ← w1.rlen]; exact get_snoc⟩
  refine ⟨_, _, B2, _, h1, w2, .cons ry (Rts.mono e2 (paired_noL r1 hts)), fun v t D2 B3 H3 ⟨et, hk, hc, ⟨fs, hi⟩, q⟩ w3 e3 r3 => ?_⟩
  subst et
  cases (show Rp X.K B3.G v .none from r3)
  refine ⟨rfl, ?_⟩
  have hy3 := get_prefix e3.r (show B2.r[M1.D.length]? = some y by rw [er, ← w1.rlen]; exact get_snoc)
  obtain ⟨hG, C2, dx2, vs, hC2, hH, _⟩ := w3.dc _ _ _ hy3 hi
  have wc := w3.cutL hc
  rw [show (⟨D2, []⟩ : Mem).D.take M1.D.length = M1.D from hk] at wc
  have ec := (e2.trans e3).cut
  have l3 : B3.l = [] := List.length_eq_zero_iff.mp w3.llen
  have nr : y ∉ B3.r.take M1.D.length := fun z => by
    obtain ⟨i, hi2, e⟩ := List.getElem_of_mem z
    rw [List.getElem_take] at e
    have n3 : B3.r.Nodup := (List.nodup_append.mp w3.nd).1
    obtain ⟨hlt, e4⟩ := List.getElem?_eq_some_iff.mp hy3
    have hi3 : i < B3.r.length := by rw [List.length_take] at hi2; omega
    have hi4 : i < M1.D.length := by rw [List.length_take] at hi2; omega
    have := (List.getElem_inj (h₀ := hi3) (h₁ := hlt) n3).mp (e.trans e4.symm)
    omega
  have wa := wc.adoptG hG nr (by simp) hH
  have rl : B1.r.length = M1.D.length := w1.rlen
  have ec2 : Ext { B1 with l := [] } H1 { B3 with r := B3.r.take M1.D.length, l := [] } H3 := by
    have : ({ B1 with l := [] } : Bk).r.length = M1.D.length := rl
    rw [this] at ec
    exact ec
  rcases Ext.adoptG (o := .ins C2 dx2 vs) hy ec2 with z | z
  · obtain ⟨w5, e5⟩ := back_wd w1 wa z
    exact kk _ _ _ _ H3 q w5 (e1.trans e5) (Rq.ins hC2 upd_same)
  · exact absurd hG z
end
end L3
namespace L3
open PySem
/-- the statement at j of a class's body -/
def clsS (s : Stmt) (j : Nat) : Stmt := match s with
  | .ClassDef _ _ _ body _ _ _ _ _ _ _ => body.getD j (.Pass ⟨0, 0, 0, 0⟩)
  | s => s
end L3
set_option Elab.async false
set_option linter.all false
set_option maxRecDepth 100000
set_option maxHeartbeats 1000000
namespace L3
open PySem PySem.Spec L2
mutual
def down : Dt → Option PyData
  | .non => some .none
  | .bl b => some (.bool b)
  | .int i => some (.int i)
  | .str x => some (.str x)
  | .lst xs => (downs xs).map .list
  | .tup xs => (downs xs).map .tuple
  | .dic _ _ => none
  | .obj _ _ _ => none
def downs : List Dt → Option (List PyData)
  | [] => some []
  | x :: xs => match down x, downs xs with
    | some y, some ys => some (y :: ys)
    | _, _ => none
end
section
variable {K : PySem.W.Frag} {G : Hp}
mutual
theorem Rq.down : ∀ (x : Dt) (v : V) (d : PyData), Rq K G v x → down x = some d → Rp K G v d
  | .non, _, _, h, e => by cases h; cases e; exact .non
  | .bl b, _, _, h, e => by cases h; cases e; exact .bl b
  | .int i, _, _, h, e => by cases h; cases e; exact .int i
  | .str x, _, _, h, e => by cases h; cases e; exact .str x
  | .lst xs, _, _, h, e => by
    unfold L3.down at e
    obtain ⟨ys, e1, e2⟩ := Option.map_eq_some_iff.mp e
    subst e2
    cases h with
    | lst a b => exact .lst a (RqA.down xs _ _ b e1)
  | .tup xs, _, _, h, e => by
    unfold L3.down at e
    obtain ⟨ys, e1, e2⟩ := Option.map_eq_some_iff.mp e
    subst e2
    cases h with
    | tup a b => exact .tup a (RqA.down xs _ _ b e1)
  | .dic _ _, _, _, _, e => by cases e
  | .obj _ _ _, _, _, _, e => by cases e
theorem RqA.down : ∀ (xs : List Dt) (vs : List V) (ds : List PyData), RqA K G vs xs → downs xs = some ds → RpA K G vs ds
  | [], _, _, h, e => by cases h; cases e; exact .nil
  | x :: xs, _, _, h, e => by
    cases h with
    | cons a b =>
      unfold downs at e
      split at e
      · rename_i p1 p2
        cases e
        exact .cons (Rq.down x _ _ a p1) (RqA.down xs _ _ b p2)
      · cases e
end
end
def tdn : T → Option PyData
  | .d x => some x
  | .q x => down x
  | _ => none
theorem tdn_rt {K : PySem.W.Frag} {B : Bk} {v : V} {t : T} {d : PyData} (r : Rt K B v t) (e : tdn t = some d) : Rt K B v (.d d) := by
  cases t with
  | d x => cases e; exact r
  | q x => exact Rq.down x v d r e
  | mr i => cases e
  | lr i => cases e
  | scr ns => cases e
  | wt xs => cases e
  | exo a c d e' => cases e
def oQEq (n : Bool) : F2 := fun x y M Q => ∃ a b, tdn x = some a ∧ tdn y = some b ∧ oEq n (.d a) (.d b) M Q
theorem opl_qeq {K : PySem.W.Frag} : OpL K (rEqs K) (oQEq false) := fun x y t u M B H Q Q' ⟨a, b, e1, e2, h⟩ w rx ry k => opl_eq x y _ _ M B H Q Q' h w (tdn_rt rx e1) (tdn_rt ry e2) k
theorem opl_qne {K : PySem.W.Frag} : OpL K (rNes K) (oQEq true) := fun x y t u M B H Q Q' ⟨a, b, e1, e2, h⟩ w rx ry k => opl_ne x y _ _ M B H Q Q' h w (tdn_rt rx e1) (tdn_rt ry e2) k
section
variable {X : Cx} {a b : Expr} {ma mb : Me} {pos : Pos} {k : Nat}
theorem me_qeq (rm : Room k X.A) (ha : ME X a ma) (hb : ME X b mb) : ME X (.Compare a [.Eq] [b] pos) (mOp (oQEq false) ma mb) := me_cmp (opr_eq rm.units) opl_qeq ha hb (nomark _)
theorem mb_qne (rm : Room k X.A) (ha : ME X a ma) (hb : ME X b mb) : MB X (.Compare a [.NotEq] [b] pos) (mTest (mOp (oQEq true) ma mb)) := mb_cmp (opr_ne rm.units) opl_qne ha hb (nomark _)
end
def oQAddD : F2 := fun x y M Q => ∃ xs ys, tq x = some (.lst xs) ∧ tq y = some (.lst ys) ∧ xs.length + ys.length ≤ sizeLine ∧ Q (.mr M.D.length) { M with D := M.D ++ [.lst ((xs ++ ys).map inj)] }
theorem paired_inj {K : PySem.W.Frag} {B : Bk} : ∀ {vs : List V} {xs : List Dt}, RqA K B.G vs xs → Paired (Rt K B) vs (xs.map inj)
  | _, _, .nil => .nil
  | _, _, .cons p q => .cons (inj_rt p) (paired_inj q)
theorem opl_qaddD {K : PySem.W.Frag} : OpL K (rAdd K) oQAddD := by
  rintro x y t u M B H Q Q' ⟨xs, ys, ex, ey, hl, q⟩ w rx ry kk
  cases tq_rt rx ex with
  | @lst _ vs _ e1 q1 =>
    cases tq_rt ry ey with
    | @lst _ us _ e2 q2 =>
      refine .inr (.inr (.inl ⟨_, _, _, _, rfl, rfl, w.le _ _ e1, w.le _ _ e2, ?_, fun p hp => ?_⟩))
      · rw [RqA.length q1, RqA.length q2]
        exact hl
      · obtain ⟨w2, x2⟩ := w.newD hp (o := .lst (vs ++ us)) (c := .lst ((xs ++ ys).map inj)) fun H' eH => ⟨_, eH, paired_inj (B := { B with r := B.r ++ [p], l := [] }) (RqA.append q1 q2)⟩
        exact kk _ _ _ _ _ q w2 x2 ⟨p, rfl, by rw [← w.rlen]; exact get_snoc⟩
theorem me_qaddD {X : Cx} {a b : Expr} {ma mb : Me} {pos : Pos} (ha : ME X a ma) (hb : ME X b mb) : ME X (.BinOp a .Add b pos) (mOp oQAddD ma mb) := me_op opr_add opl_qaddD ha hb
def goForR (n : Nat) (ds : List T) (g : Mg) (b : Ms) (E : Es) : List T → En → Mem → Prop
  | [], τ, M => E.nx τ M
  | t :: ts, τ, M => g t τ M fun τ1 M1 => b { E with nx := fun τ2 M2 => M2.D[n]? = some (.lst ds) ∧ goForR n ds g b E ts τ2 M2, ct := fun τ2 M2 => M2.D[n]? = some (.lst ds) ∧ goForR n ds g b E ts τ2 M2, bk := E.nx } τ1 M1
def mForR (o : Me) (g : Mg) (b : Ms) : Ms := fun E τ M => o τ M fun t M1 => ∃ n ds, t = .mr n ∧ M1.D[n]? = some (.lst ds) ∧ goForR n ds g b E ds τ M1
theorem ms_forR {X : Cx} {tg e : Expr} {pos : Pos} {os : List Nat} {body : List Stmt} {o : Me} {g : Mg} {b : Ms} (hp : PassesOwn (model X.prog X.w) X.A X.env X.xe) (hc : X.calm = true) (he : ME X e o) (hg : MG X tg os g) (hb : MSs X body b)
    (hs : ∀ x, foldedSetIterable e X.env x = pure x := by intro _; rfl) : MS X (.For tg e body [] pos) (mForR o g b) := PS.of (ps_for hp hc (mi_deckR he) hg hb hs) fun D σ H ⟨E, τ, M, B, h, w, sl, go⟩ => by
  refine ⟨τ, M, B, _, h, w, sl, fun t M1 B1 H1 h1 w1 e1 => ?_⟩
  obtain ⟨n, ds, rfl, hL, h1⟩ := h1
  refine ⟨n, ds, rfl, hL, fun a ha => ?_⟩
  refine for_it (walk_own ds.length) (fun i σ2 H2 => ∃ τ2 M2 B2, M2.D[n]? = some (.lst ds) ∧ goForR n ds g b E (ds.drop i) τ2 M2 ∧ Wd X.K B2 M2 H2 ∧ Sl X.K B2 σ2 τ2 ∧ Ext B1 H1 B2 H2) ⟨τ, M1, B1, hL, h1, w1, sl.mono e1, .refl _ _⟩ ?_ ?_ ?_
  · rintro i σ2 H2 _ ⟨τ2, M2, B2, hL2, _, w2, _, e2⟩
    obtain ⟨_, us, eu, qu⟩ := w2.dc n a _ (get_prefix e2.r ha) hL2
    exact ⟨us, eu, Paired.length qu⟩
  · rintro i x σ2 H2 H3 hlt ⟨τ2, M2, B2, hL2, h2, w2, s2, e2⟩ y
    obtain ⟨hh, y⟩ := y
    rw [hh]
    obtain ⟨_, us, eu, qu⟩ := w2.dc n a _ (get_prefix e2.r ha) hL2
    obtain ⟨u, y1, y2⟩ := paired_rt qu hlt
    have y3 := y us (.of eu)
    rw [y1] at y3
    cases y3
    rw [drop_at hlt] at h2
    refine ⟨ds[i], τ2, M2, B2, _, h2, w2, s2, Rt.mono' (B := { B2 with l := [] }) (B' := B2) (fun _ _ e => e) (List.prefix_refl _) (List.nil_prefix) y2, fun τ4 M4 B4 σ4 H4 h4 w4 e4 s4 _ => ?_⟩
    have e14 := e2.trans e4
    refine ⟨_, τ4, M4, B4, h4, w4, s4, ⟨?_, ?_, ?_, ?_⟩⟩
    · exact fun τ5 M5 B5 σ5 H5 q w5 e5 s5 => ⟨τ5, M5, B5, q.1, q.2, w5, s5, e14.trans e5⟩
    · exact fun v t M5 B5 H5 q w5 e5 r5 => go.rt v t M5 B5 H5 q w5 (e1.trans (e14.trans e5)) r5
    · exact fun τ5 M5 B5 σ5 H5 q w5 e5 s5 => go.nx τ5 M5 B5 σ5 H5 q w5 (e1.trans (e14.trans e5)) s5
    · exact fun τ5 M5 B5 σ5 H5 q w5 e5 s5 => ⟨τ5, M5, B5, q.1, q.2, w5, s5, e14.trans e5⟩
  · rintro σ2 H2 ⟨τ2, M2, B2, _, h2, w2, s2, e2⟩
    rw [List.drop_length] at h2
    exact go.nx τ2 M2 B2 σ2 H2 h2 w2 (e1.trans e2) s2
end L3
set_option Elab.async false
set_option linter.all false
set_option maxRecDepth 100000
set_option maxHeartbeats 1000000
namespace L3
open PySem PySem.Spec L2
def IsjT (K : PySem.W.Frag) (T0 : String) (tab : List (Str × Bool)) : Prop := ∀ r ∈ tab, ∀ C, CA K r.1 = some C → Cls K C ∧ PySem.W.findIn K (.ref C) "__class__" = some (some (.builtin "object.__class__")) ∧
  PySem.W.specialIn K (.builtin "object.__class__") "__get__" = some (some (.builtin "getset_descriptor.__get__")) ∧ PySem.W.takesIn K (.builtin "object.__class__") = some true ∧ PySem.W.mroIn K C (.type "object") = some true ∧ PySem.W.kitOne K (.ref C) (.type T0) = some r.2
def mQIsj (T0 : String) (tab tabI : List (Str × Bool)) (m : Me) : Me := fun τ M Q => m τ M fun t M1 => ∃ x, tq t = some x ∧ ((∃ a r, tyQ x = some a ∧ kitB a T0 = some r ∧ Q (.bl r) M1) ∨ (∃ c fs xs r, x = .obj c fs xs ∧ (c, r) ∈ tab ∧ fs.length = xs.length ∧ Q (.bl r) M1) ∨
  ∃ c g gs r, x = .obj c (g :: gs) [] ∧ (c, r) ∈ tabI ∧ Q (.bl r) M1)
section
variable {X : Cx} {e : Expr} {m : Me} {ty : Str} {T0 : String} {p p2 pos : Pos} {tab tabI : List (Str × Bool)}
theorem me_qisj (hg : Gl X "isinstance") (hm : X.mg "isinstance" = none) (hg2 : Gl X ty) (hm2 : X.mg ty = none) (hb2 : bootBuiltins ty = some (.type T0)) (T : IsqT X.K (.ty T0) tab) (TI : IsjT X.K T0 tabI) (ha : ME X e m) (hn2 : ty ≠ "__name__" := by decide) (hd2 : (ty == ("__debug__" : Str)) = false := by decide)
    (hs1 : starEach [e, .Name ty p2] X.env = (false, eval e X.env) :: starEach [.Name ty p2] X.env := by rfl) (hs2 : starEach [.Name ty p2] X.env = (false, eval (.Name ty p2) X.env) :: starEach [] X.env := by rfl) (hpl : (backTo pos (starEach [.Name ty p2] X.env)).any (·.1) = false := by rfl) :
    ME X (.Call (.Name "isinstance" p) [e, .Name ty p2] [] pos) (mQIsj T0 tab tabI m) := by
  refine PE.of (pe_callB (call_isi.or call_isQ) hg hm (by decide +kernel) (pa_cons ha (pa_cons (pe_bltn (v := V.ty T0) hg2 hm2 hb2 rfl hn2 hd2) pa_nil hs2) hs1) (by decide) (by decide) hs1 hpl) fun σ H Q' ⟨τ, M, B, Q, h, w, s, k⟩ => ?_
  refine ⟨τ, M, B, _, h, w, s, fun v t M1 B1 H1 ⟨x, hx, h1⟩ w1 e1 r1 => ?_⟩
  have r := tq_rt r1 hx
  rcases h1 with ⟨a, b, h2, h3, h4⟩ | ⟨c, fs, xs, b, rfl, hr, ni, h4⟩ | ⟨c, g, gs, b, rfl, hr, h4⟩
  · exact .inl ⟨v, V.ty T0, .type a, .type T0, b, rfl, .ty T0, tyQ_of w1.le r h2, kit_ty h3, k _ _ M1 B1 H1 h4 w1 e1 (Rp.bl b)⟩
  · exact .inr (isq_obj w1 T hr r ni (k _ _ M1 B1 H1 h4 w1 e1 (Rp.bl b)))
  · cases r with
    | ins hC g1 =>
      obtain ⟨c1, c2, c3, c4, c5, c6⟩ := TI _ hr _ hC
      exact .inl ⟨_, V.ty T0, .ref _, .type T0, b, rfl, .ty T0, .base (.ins (w1.le _ _ g1) c1 c2 c3 c4 c5), c6, k _ _ M1 B1 H1 h4 w1 e1 (Rp.bl b)⟩
end
def isjB (K : PySem.W.Frag) (T0 : String) (tab : List (Str × Bool)) : Bool := tab.all fun r => match CA K r.1 with
  | some C => PySem.W.plainGet K C Str.empty && (PySem.W.hasDictIn K C && (PySem.W.plainOver K C && (decide (PySem.W.findIn K (.ref C) "__setattr__" = some (some (.builtin "object.__setattr__"))) && (decide (PySem.W.findIn K (.ref C) "__class__" = some (some (.builtin "object.__class__"))) &&
      (decide (PySem.W.specialIn K (.builtin "object.__class__") "__get__" = some (some (.builtin "getset_descriptor.__get__"))) && (decide (PySem.W.takesIn K (.builtin "object.__class__") = some true) && (decide (PySem.W.mroIn K C (.type "object") = some true) && decide (PySem.W.kitOne K (.ref C) (.type T0) = some r.2))))))))
  | none => false
theorem isjT_of {K : PySem.W.Frag} {T0 : String} {tab : List (Str × Bool)} (h : isjB K T0 tab = true) : IsjT K T0 tab := by
  intro r hr C hC
  unfold isjB at h
  rw [List.all_eq_true] at h
  have := h r hr
  rw [hC] at this
  simp only [Bool.and_eq_true, decide_eq_true_eq] at this
  obtain ⟨h1, h2, h3, h4, h5, h6, h7, h8, h9⟩ := this
  exact ⟨⟨h1, h2, h3, h4⟩, h5, h6, h7, h8, h9⟩
end L3
set_option Elab.async false
set_option linter.all false
set_option maxRecDepth 100000
set_option maxHeartbeats 2000000
namespace K01
open PySem PySem.Spec L2 L3
def topS (i : Nat) : Stmt := PySem.Challenge.pw_fallingfields_k01_what_is_a_book.main.body.getD i (.Pass ⟨0, 0, 0, 0⟩)
abbrev qt_int : List (Str × Bool) := [("Unfit", false)]
abbrev qt_bool : List (Str × Bool) := [("Unfit", false)]
abbrev qt_tuple : List (Str × Bool) := [("Unfit", false)]
structure Zs (K : PySem.W.Frag) (mg : Str → Option Value) : Prop where
  z_isinstance : mg "isinstance" = none
  z_int : mg "int" = none
  z_bool : mg "bool" = none
  z_tuple : mg "tuple" = none
  z_len : mg "len" = none
  z_enumerate : mg "enumerate" = none
  z_range : mg "range" = none
  z_list : mg "list" = none
  z_max : mg "max" = none
  z_min : mg "min" = none
  z_str : mg "str" = none
  z_repr : mg "repr" = none
  g_MAX_SIZE : GlC K mg "MAX_SIZE" (.int 1000000000000000000000000000000)
  g_ALIGNMENTS : GlC K mg "ALIGNMENTS" (.tuple (List.map PyData.int [1, 2, 4, 8, 16, 32, 64]))
  g_MAX_KINDS : GlC K mg "MAX_KINDS" (.int 6)
  q0_0 : Kx0 K mg "Unfit"
  qb_1 : IsqT K (.ty "int") qt_int
  qj_2 : IsjT K "int" [("Desk", false)]
  qb_3 : IsqT K (.ty "bool") qt_bool
  qj_4 : IsjT K "bool" [("Desk", false)]
  qb_5 : IsqT K (.ty "tuple") qt_tuple
  qj_6 : IsjT K "tuple" [("Desk", false)]
  ic_7 : KIc K "Desk"
  if_8 : KIf K "Desk" "_books"
  if_9 : KIf K "Desk" "_edits"
  if_10 : KIf K "Desk" "_undone"
abbrev s__law_reel : Stmt := topS 40
theorem sc__law_reel : FnScope ["script", "cells", "stamp", "own", "deep"] ["script"] (defScope s__law_reel) := ⟨rfl, rfl, rfl, by decide +kernel, rfl, by decide +kernel, by decide +kernel⟩
abbrev s__law_draw : Stmt := topS 41
theorem sc__law_draw : FnScope ["reel", "many", "deep", "own", "count", "cells", "mixed", "turn"] ["reel", "many"] (defScope s__law_draw) := ⟨rfl, rfl, rfl, by decide +kernel, rfl, by decide +kernel, by decide +kernel⟩
abbrev s__law_pick : Stmt := topS 42
theorem sc__law_pick : FnScope ["reel", "things"] ["reel", "things"] (defScope s__law_pick) := ⟨rfl, rfl, rfl, by decide +kernel, rfl, by decide +kernel, by decide +kernel⟩
abbrev s__law_size : Stmt := topS 45
theorem sc__law_size : FnScope ["reel", "step", "near", "lot", "far", "off"] ["reel", "step"] (defScope s__law_size) := ⟨rfl, rfl, rfl, by decide +kernel, rfl, by decide +kernel, by decide +kernel⟩
abbrev s__law_book : Stmt := topS 46
theorem sc__law_book : FnScope ["reel", "many", "found", "place", "step"] ["reel", "many"] (defScope s__law_book) := ⟨rfl, rfl, rfl, by decide +kernel, rfl, by decide +kernel, by decide +kernel⟩
abbrev s__law_pick_v : Stmt := topS 42
theorem sc__law_pick_v : FnScope ["reel", "things"] ["reel", "things"] (defScope s__law_pick_v) := ⟨rfl, rfl, rfl, by decide +kernel, rfl, by decide +kernel, by decide +kernel⟩
abbrev s__law_far : Stmt := topS 49
theorem sc__law_far : FnScope ["found", "turn"] [] (defScope s__law_far) := ⟨rfl, rfl, rfl, by decide +kernel, rfl, by decide +kernel, by decide +kernel⟩
abbrev s__law_odd_kind : Stmt := topS 50
theorem sc__law_odd_kind : FnScope ["reel", "kind", "size", "step", "far", "odd", "whole", "own"] ["reel", "kind"] (defScope s__law_odd_kind) := ⟨rfl, rfl, rfl, by decide +kernel, rfl, by decide +kernel, by decide +kernel⟩
abbrev s__law_spoilt : Stmt := topS 51
theorem sc__law_spoilt : FnScope ["reel", "book", "lot", "at", "odd"] ["reel", "book"] (defScope s__law_spoilt) := ⟨rfl, rfl, rfl, by decide +kernel, rfl, by decide +kernel, by decide +kernel⟩
abbrev s__law_mixed : Stmt := topS 43
theorem sc__law_mixed : FnScope ["reel", "things", "left", "found"] ["reel", "things"] (defScope s__law_mixed) := ⟨rfl, rfl, rfl, by decide +kernel, rfl, by decide +kernel, by decide +kernel⟩
abbrev s__law_is_int : Stmt := topS 44
theorem sc__law_is_int : FnScope ["value", "low", "high"] ["value", "low", "high"] (defScope s__law_is_int) := ⟨rfl, rfl, rfl, by decide +kernel, rfl, by decide +kernel, by decide +kernel⟩
abbrev s__law_is_kind : Stmt := topS 47
theorem sc__law_is_kind : FnScope ["value"] ["value"] (defScope s__law_is_kind) := ⟨rfl, rfl, rfl, by decide +kernel, rfl, by decide +kernel, by decide +kernel⟩
abbrev s__law_fault : Stmt := topS 48
theorem sc__law_fault : FnScope ["value", "place", "kind"] ["value"] (defScope s__law_fault) := ⟨rfl, rfl, rfl, by decide +kernel, rfl, by decide +kernel, by decide +kernel⟩
abbrev s_is_tuple_within : Stmt := topS 8
theorem sc_is_tuple_within : FnScope ["value", "fewest", "most"] ["value", "fewest", "most"] (defScope s_is_tuple_within) := ⟨rfl, rfl, rfl, by decide +kernel, rfl, by decide +kernel, by decide +kernel⟩
abbrev s_is_integer : Stmt := topS 6
theorem sc_is_integer : FnScope ["value"] ["value"] (defScope s_is_integer) := ⟨rfl, rfl, rfl, by decide +kernel, rfl, by decide +kernel, by decide +kernel⟩
abbrev s_is_integer_within : Stmt := topS 7
theorem sc_is_integer_within : FnScope ["value", "least", "greatest"] ["value", "least", "greatest"] (defScope s_is_integer_within) := ⟨rfl, rfl, rfl, by decide +kernel, rfl, by decide +kernel, by decide +kernel⟩
abbrev s_is_size : Stmt := topS 9
theorem sc_is_size : FnScope ["value"] ["value"] (defScope s_is_size) := ⟨rfl, rfl, rfl, by decide +kernel, rfl, by decide +kernel, by decide +kernel⟩
abbrev s_is_alignment : Stmt := topS 10
theorem sc_is_alignment : FnScope ["value"] ["value"] (defScope s_is_alignment) := ⟨rfl, rfl, rfl, by decide +kernel, rfl, by decide +kernel, by decide +kernel⟩
abbrev s_is_kind : Stmt := topS 11
theorem sc_is_kind : FnScope ["value"] ["value"] (defScope s_is_kind) := ⟨rfl, rfl, rfl, by decide +kernel, rfl, by decide +kernel, by decide +kernel⟩
abbrev s_book_error : Stmt := topS 12
theorem sc_book_error : FnScope ["value", "place", "kind"] ["value"] (defScope s_book_error) := ⟨rfl, rfl, rfl, by decide +kernel, rfl, by decide +kernel, by decide +kernel⟩
abbrev s__law_is_told : Stmt := topS 52
theorem sc__law_is_told : FnScope ["value", "is_named", "shown", "due", "told"] ["value", "is_named"] (defScope s__law_is_told) := ⟨rfl, rfl, rfl, by decide +kernel, rfl, by decide +kernel, by decide +kernel⟩
abbrev s_Desk____init__ : Stmt := clsS (topS 38) 0
theorem sc_Desk____init__ : FnScope ["self", "book", "error"] ["self", "book"] (defScope s_Desk____init__) := ⟨rfl, rfl, rfl, by decide +kernel, rfl, by decide +kernel, by decide +kernel⟩
abbrev s_law : Stmt := topS 53
theorem sc_law : FnScope ["script", "reel", "turn", "book", "values", "nth", "other", "two", "at", "kind", "value", "ends", "things", "told", "own"] ["script"] (defScope s_law) := ⟨rfl, rfl, rfl, by decide +kernel, rfl, by decide +kernel, by decide +kernel⟩
def kb_book_error_0_g {α : Type} (l : List α) : List α := match l with
  | [x0] => [x0]
  | l => l
theorem kb_book_error_0 {K : PySem.W.Frag} {f : Addr} {fd : FuncData} (F : Fun K "book_error" "book_error" s_book_error f fd) : KB K fd ["value"] ["value"] kb_book_error_0_g := by
  refine kb_of F (fun _ _ _ _ _ _ us hl => match us, hl with | [_], _ => rfl) fun R zs ws hl h => ?_
  cases h with
  | nil => simp at hl
  | cons f0 h0 =>
    cases h0 with
    | nil => exact .cons f0 (.nil)
    | cons _ _ => simp at hl
abbrev b__law_reel : Ms := Sh.b__law_reel
abbrev d__law_reel : FD := Sh.d__law_reel
abbrev b__law_draw : Ms := Sh.b__law_draw
abbrev d__law_draw : FD := Sh.d__law_draw
abbrev b__law_pick : Ms := Sh.b__law_pick
abbrev d__law_pick : FD := Sh.d__law_pick
abbrev b__law_size : Ms := Sh.b__law_size
abbrev d__law_size : FD := Sh.d__law_size
abbrev b__law_book : Ms := Sh.b__law_book
abbrev d__law_book : FD := Sh.d__law_book
abbrev b__law_pick_v_0 : Ms := (mRet (mOp oQIx (mVar 1) (mCall (fDef d__law_draw) (aCons (mVar 0) (aCons (mCall fQLen (aCons (mVar 1) aNil)) aNil)))))
abbrev b__law_pick_v : Ms := b__law_pick_v_0
def d__law_pick_v : FD := mDef 2 2 b__law_pick_v
abbrev b__law_far_0 : Ms := (mSet 0 (mOp oMulV (mVar 0) (mOp oPow (mC (.int 10)) (mC (.int 57)))))
abbrev b__law_far_1 : Ms := (mRet (mVar 0))
abbrev b__law_far_2 : Ms := (mSeq (mFor (iRange (aCons (mC (.int 7)) aNil)) (gN 1) b__law_far_0) b__law_far_1)
abbrev b__law_far_3 : Ms := (mSeq (mSet 0 (mC (.int 1))) b__law_far_2)
abbrev b__law_far : Ms := b__law_far_3
def d__law_far : FD := mDef 0 2 b__law_far
abbrev b__law_odd_kind_0 : Ms := (mRet (mCall (fDef d__law_pick_v) (aCons (mVar 0) (aCons (mOp oQAdd (mVar 5) (mQLst (aCons (mQTup (aCons (mVar 2) (aCons (mOp oMul (mC (.int 2)) (mOp oPow (mC (.int 10)) (mC (.int 30)))) aNil))) aNil))) aNil))))
abbrev b__law_odd_kind_1 : Ms := (mSeq (mSet 5 (mOp oQAdd (mVar 5) (mQLst (aCons (mQTup (aCons (mVar 2) aNil)) (aCons (mQTup (aCons (mVar 2) (aCons (mVar 3) (aCons (mC (.int 1)) aNil)))) (aCons (mQLst (aCons (mVar 2) (aCons (mVar 3) aNil))) (aCons (mTup aNil) (aCons (mC .none) (aCons (mVar 2) (aCons (mC (.str "6/4")) (aCons (mQDic [((mVar 2), (mVar 3))]) (aCons (mVar 1) (aCons (mTup (aCons (mC (.int 1)) (aCons (mC (.int 64)) aNil))) aNil))))))))))))) b__law_odd_kind_0)
abbrev b__law_odd_kind_2 : Ms := (mSeq (mSet 5 (mOp oQAdd (mVar 5) (mQLc (iQSeq (mQTup (aCons (mC (.int 0)) (aCons (mC (.int 3)) (aCons (mC (.int 5)) (aCons (mC (.int 12)) (aCons (mC (.int 63)) (aCons (mC (.int 128)) (aCons (mOp oSub (mC (.int 0)) (mVar 3)) (aCons (mC (.bool true)) (aCons (mC (.bool false)) (aCons (mCall fStr (aCons (mVar 3) aNil)) (aCons (mC .none) (aCons (mQLst (aCons (mVar 3) aNil)) aNil)))))))))))))) (gN 7) bYes (mQTup (aCons (mVar 2) (aCons (mVar 7) aNil))) [7]))) b__law_odd_kind_1)
abbrev b__law_odd_kind_3 : Ms := (mSeq (mSet 5 (mOp oQAdd (mVar 5) (mQLc (iQSeq (mVar 6)) (gN 7) bYes (mQTup (aCons (mVar 7) (aCons (mVar 3) aNil))) [7]))) b__law_odd_kind_2)
abbrev b__law_odd_kind_4 : Ms := (mSeq (mSet 6 (mQLst (aCons (mC (.int 0)) (aCons (mUn oNeg (mC (.int 1))) (aCons (mOp oSub (mC (.int 0)) (mVar 2)) (aCons (mOp oAdd (mOp oPow (mC (.int 10)) (mC (.int 30))) (mC (.int 1))) (aCons (mC (.bool true)) (aCons (mCall fStr (aCons (mVar 2) aNil)) (aCons (mC .none) (aCons (mQTup (aCons (mVar 2) aNil)) (aCons (mQLst (aCons (mVar 2) aNil)) (aCons (mOp oPow (mC (.int 10)) (mC (.int 60))) (aCons (mQDic []) aNil))))))))))))) b__law_odd_kind_3)
abbrev b__law_odd_kind_5 : Ms := (mSeq (mSet 5 (mQLst (aCons (mQTup (aCons (mVar 4) (aCons (mVar 3) aNil))) (aCons (mQTup (aCons (mOp oSub (mC (.int 0)) (mVar 4)) (aCons (mVar 3) aNil))) (aCons (mQTup (aCons (mVar 2) (aCons (mVar 4) aNil))) (aCons (mQTup (aCons (mVar 2) (aCons (mOp oSub (mC (.int 0)) (mVar 4)) aNil))) aNil)))))) b__law_odd_kind_4)
abbrev b__law_odd_kind_6 : Ms := (mSeq (mAsg (mQTup (aCons (mVar 1) (aCons (mCall (fDef d__law_far) aNil) aNil))) (gQTu 2 (qsCons (gQTu 2 (qsCons (gN 2) (qsCons (gN 3) qsNil))) (qsCons (gN 4) qsNil)))) b__law_odd_kind_5)
abbrev b__law_odd_kind : Ms := b__law_odd_kind_6
def d__law_odd_kind : FD := mDef 2 8 b__law_odd_kind
abbrev b__law_spoilt_0 : Ms := (mRet (mCall (fDef d__law_pick_v) (aCons (mVar 0) (aCons (mVar 4) aNil))))
abbrev b__law_spoilt_1 : Ms := (mSeq (mSet 4 (mQLst (aCons (mCall fQList (aCons (mVar 1) aNil)) (aCons (mTup aNil) (aCons (mC .none) (aCons (mOp oRepT (mVar 1) (mC (.int 7))) (aCons (mQTup (aCons (mVar 1) aNil)) (aCons (mOp oQIx (mVar 1) (mC (.int 0))) (aCons (mC (.str "6/4 3/2")) (aCons (mQDic []) (aCons (mC (.int 7)) (aCons (mC (.bool true)) (aCons (mOp oQAdd (mVar 1) (mOp oRepT (mSl (mVar 1) oNone (oPart (mC (.int 1)))) (mC (.int 6)))) aNil))))))))))))) b__law_spoilt_0)
abbrev b__law_spoilt_2 : Ms := (mRet (mOp oQAdd (mSl (mVar 1) oNone (oPart (mVar 3))) (mSl (mVar 1) (oPart (mOp oQAdd (mVar 3) (mC (.int 1)))) oNone)))
abbrev b__law_spoilt_3 : Ms := (mRet (mOp oQAdd (mOp oQAdd (mSl (mVar 1) oNone (oPart (mVar 3))) (mQTup (aCons (mCall (fDef d__law_odd_kind) (aCons (mVar 0) (aCons (mOp oQIx (mVar 1) (mVar 3)) aNil))) aNil))) (mSl (mVar 1) (oPart (mOp oQAdd (mVar 3) (mC (.int 1)))) oNone)))
abbrev b__law_spoilt_4 : Ms := (mSeq (mIf (mTest (mOp (oEq false) (mVar 2) (mC (.int 1)))) b__law_spoilt_2 mNext) b__law_spoilt_3)
abbrev b__law_spoilt_5 : Ms := (mSeq (mIf (mTest (mOp (oEq false) (mVar 2) (mC (.int 0)))) b__law_spoilt_1 mNext) b__law_spoilt_4)
abbrev b__law_spoilt_6 : Ms := (mSeq (mPar 2 3 (aCons (mCall (fDef d__law_draw) (aCons (mVar 0) (aCons (mC (.int 7)) aNil))) (aCons (mCall (fDef d__law_draw) (aCons (mVar 0) (aCons (mCall fQLen (aCons (mVar 1) aNil)) aNil))) aNil))) b__law_spoilt_5)
abbrev b__law_spoilt : Ms := b__law_spoilt_6
def d__law_spoilt : FD := mDef 2 5 b__law_spoilt
abbrev b__law_mixed_0 : Ms := (mDrop (mMeth fApp (mVar 3) (aCons (mMeth fPopAt (mVar 2) (aCons (mCall (fDef d__law_draw) (aCons (mVar 0) (aCons (mCall fLen (aCons (mVar 2) aNil)) aNil))) aNil)) aNil)))
abbrev b__law_mixed_1 : Ms := (mRet (mFrz (mVar 3)))
abbrev b__law_mixed_2 : Ms := (mSeq (mWhile (mTest (mOp (oEq true) (mVar 2) (mLst aNil))) b__law_mixed_0) b__law_mixed_1)
abbrev b__law_mixed_3 : Ms := (mSeq (mPar 2 3 (aCons (mCall fListL (aCons (mVar 1) aNil)) (aCons (mNewL aNil) aNil))) b__law_mixed_2)
abbrev b__law_mixed : Ms := b__law_mixed_3
def d__law_mixed : FD := mDef 2 4 b__law_mixed
abbrev b__law_is_int_0 : Ms := (mRet (mAnd (mQIsj "int" qt_int [("Desk", false)] (mVar 0)) (mAnd (mNot (mQIsj "bool" qt_bool [("Desk", false)] (mVar 0))) (mChain oLe oLe (mVar 1) (mVar 0) (mVar 2)))))
abbrev b__law_is_int : Ms := b__law_is_int_0
def d__law_is_int : FD := mDef 3 3 b__law_is_int
abbrev b__law_is_kind_0 : Ms := (mRet (mC (.bool false)))
abbrev b__law_is_kind_1 : Ms := (mRet (mAnd (mCall (fDef d__law_is_int) (aCons (mOp oQIx (mVar 0) (mC (.int 1))) (aCons (mC (.int 1)) (aCons (mC (.int 64)) aNil)))) (mOp (oIn false) (mOp oQIx (mVar 0) (mC (.int 1))) (mTup (aCons (mC (.int 1)) (aCons (mC (.int 2)) (aCons (mC (.int 4)) (aCons (mC (.int 8)) (aCons (mC (.int 16)) (aCons (mC (.int 32)) (aCons (mC (.int 64)) aNil)))))))))))
abbrev b__law_is_kind_2 : Ms := (mSeq (mIf (bOr (bNot (mTest (mQIsj "tuple" qt_tuple [("Desk", false)] (mVar 0)))) (bOr (mTest (mOp (oEq true) (mCall fQLen (aCons (mVar 0) aNil)) (mC (.int 2)))) (bNot (mTest (mCall (fDef d__law_is_int) (aCons (mOp oQIx (mVar 0) (mC (.int 0))) (aCons (mC (.int 1)) (aCons (mOp oPow (mC (.int 10)) (mC (.int 30))) aNil)))))))) b__law_is_kind_0 mNext) b__law_is_kind_1)
abbrev b__law_is_kind : Ms := b__law_is_kind_2
def d__law_is_kind : FD := mDef 1 1 b__law_is_kind
abbrev b__law_fault_0 : Ms := (mRet (mC (.str "form")))
abbrev b__law_fault_1 : Ms := (mRet (mQTup (aCons (mC (.str "kind")) (aCons (mVar 1) aNil))))
abbrev b__law_fault_2 : Ms := (mIf (bNot (mTest (mCall (fDef d__law_is_kind) (aCons (mVar 2) aNil)))) b__law_fault_1 mNext)
abbrev b__law_fault_3 : Ms := (mRet (mC .none))
abbrev b__law_fault_4 : Ms := (mSeq (mForEnQ (mVar 0) 1 2 b__law_fault_2) b__law_fault_3)
abbrev b__law_fault_5 : Ms := (mSeq (mIf (bOr (bNot (mTest (mQIsj "tuple" qt_tuple [("Desk", false)] (mVar 0)))) (bOr (mTest (mOp oLt (mCall fQLen (aCons (mVar 0) aNil)) (mC (.int 1)))) (mTest (mOp oGt (mCall fQLen (aCons (mVar 0) aNil)) (mC (.int 6)))))) b__law_fault_0 mNext) b__law_fault_4)
abbrev b__law_fault : Ms := b__law_fault_5
def d__law_fault : FD := mDef 1 3 b__law_fault
abbrev b_is_tuple_within_0 : Ms := (mRet (mAnd (mQIsj "tuple" qt_tuple [("Desk", false)] (mVar 0)) (mChain oLe oLe (mVar 1) (mCall fQLen (aCons (mVar 0) aNil)) (mVar 2))))
abbrev b_is_tuple_within : Ms := b_is_tuple_within_0
def d_is_tuple_within : FD := mDef 3 3 b_is_tuple_within
abbrev b_is_integer_0 : Ms := (mRet (mAnd (mQIsj "int" qt_int [("Desk", false)] (mVar 0)) (mNot (mQIsj "bool" qt_bool [("Desk", false)] (mVar 0)))))
abbrev b_is_integer : Ms := b_is_integer_0
def d_is_integer : FD := mDef 1 1 b_is_integer
abbrev b_is_integer_within_0 : Ms := (mRet (mAnd (mCall (fDef d_is_integer) (aCons (mVar 0) aNil)) (mChain oLe oLe (mVar 1) (mVar 0) (mVar 2))))
abbrev b_is_integer_within : Ms := b_is_integer_within_0
def d_is_integer_within : FD := mDef 3 3 b_is_integer_within
abbrev b_is_size_0 : Ms := (mRet (mCall (fDef d_is_integer_within) (aCons (mVar 0) (aCons (mC (.int 1)) (aCons (mC (.int 1000000000000000000000000000000)) aNil)))))
abbrev b_is_size : Ms := b_is_size_0
def d_is_size : FD := mDef 1 1 b_is_size
abbrev b_is_alignment_0 : Ms := (mRet (mAnd (mCall (fDef d_is_integer) (aCons (mVar 0) aNil)) (mOp (oIn false) (mVar 0) (mC (.tuple (List.map PyData.int [1, 2, 4, 8, 16, 32, 64]))))))
abbrev b_is_alignment : Ms := b_is_alignment_0
def d_is_alignment : FD := mDef 1 1 b_is_alignment
abbrev b_is_kind_0 : Ms := (mRet (mAnd (mCall (fDef d_is_tuple_within) (aCons (mVar 0) (aCons (mC (.int 2)) (aCons (mC (.int 2)) aNil)))) (mAnd (mCall (fDef d_is_size) (aCons (mOp oQIx (mVar 0) (mC (.int 0))) aNil)) (mCall (fDef d_is_alignment) (aCons (mOp oQIx (mVar 0) (mC (.int 1))) aNil)))))
abbrev b_is_kind : Ms := b_is_kind_0
def d_is_kind : FD := mDef 1 1 b_is_kind
abbrev b_book_error_0 : Ms := (mRet (mC (.str "form")))
abbrev b_book_error_1 : Ms := (mRet (mQTup (aCons (mC (.str "kind")) (aCons (mVar 1) aNil))))
abbrev b_book_error_2 : Ms := (mIf (bNot (mTest (mCall (fDef d_is_kind) (aCons (mVar 2) aNil)))) b_book_error_1 mNext)
abbrev b_book_error_3 : Ms := (mRet (mC .none))
abbrev b_book_error_4 : Ms := (mSeq (mForEnQ (mVar 0) 1 2 b_book_error_2) b_book_error_3)
abbrev b_book_error_5 : Ms := (mSeq (mIf (bNot (mTest (mCall (fDef d_is_tuple_within) (aCons (mVar 0) (aCons (mC (.int 1)) (aCons (mC (.int 6)) aNil)))))) b_book_error_0 mNext) b_book_error_4)
abbrev b_book_error : Ms := b_book_error_5
def d_book_error : FD := mDef 1 3 b_book_error
abbrev b__law_is_told_0 : Ms := (mRet (mAnd (mOp (oEq false) (mCall fQRepr (aCons (mVar 4) aNil)) (mCall fQRepr (aCons (mQLst (aCons (mVar 3) (aCons (mVar 3) aNil))) aNil))) (mOp (oEq false) (mCall fQRepr (aCons (mVar 0) aNil)) (mVar 2))))
abbrev b__law_is_told_1 : Ms := (mSeq (mSet 4 (mQLst (aCons (mIte (mTest (mVar 1)) (mCallK kb_book_error_0_g 1 (fDef d_book_error) (aCons (mVar 0) aNil)) (mCall (fDef d_book_error) (aCons (mVar 0) aNil))) (aCons (mCall (fDef d_book_error) (aCons (mVar 0) aNil)) aNil)))) b__law_is_told_0)
abbrev b__law_is_told_2 : Ms := (mSeq (mPar 2 3 (aCons (mCall fQRepr (aCons (mVar 0) aNil)) (aCons (mCall (fDef d__law_fault) (aCons (mVar 0) aNil)) aNil))) b__law_is_told_1)
abbrev b__law_is_told : Ms := b__law_is_told_2
def d__law_is_told : FD := mDef 2 5 b__law_is_told
abbrev b_Desk____init___0 : Ms := mDead
abbrev b_Desk____init___1 : Ms := (mSetI "Desk" "_undone" (mVar 0) (mNewD aNil))
abbrev b_Desk____init___2 : Ms := (mSeq (mSetI "Desk" "_edits" (mVar 0) (mNewD aNil)) b_Desk____init___1)
abbrev b_Desk____init___3 : Ms := (mSeq (mSetI "Desk" "_books" (mVar 0) (mNewD (aCons (mVar 1) aNil))) b_Desk____init___2)
abbrev b_Desk____init___4 : Ms := (mSeq (mIf (mTest (mOp oNotN (mVar 2) (mC .none))) b_Desk____init___0 mNext) b_Desk____init___3)
abbrev b_Desk____init___5 : Ms := (mSeq (mSet 2 (mCall (fDef d_book_error) (aCons (mVar 1) aNil))) b_Desk____init___4)
abbrev b_Desk____init__ : Ms := b_Desk____init___5
def d_Desk____init__ : FD := mDef 2 3 b_Desk____init__
abbrev b_law_0 : Ms := (mRet (mC (.bool false)))
abbrev b_law_1 : Ms := (mIf (bNot (mTest (mCall (fDefC d__law_is_told) (aCons (mVar 10) (aCons (mOp (oQEq false) (mOp oMod (mVar 2) (mC (.int 3))) (mC (.int 1))) aNil))))) b_law_0 mNext)
abbrev b_law_2 : Ms := (mForR (mVar 4) (gN 10) b_law_1)
abbrev b_law_3 : Ms := (mSeq (mDrop (mMeth fApp (mVar 4) (aCons (mCall fQTuple (aCons (mQLc (iEnum (aCons (mVar 6) aNil)) (gTu 2 (gsCons (gN 8) (gsCons (gN 9) gsNil))) bYes (mIte (mTest (mOp (oIn false) (mVar 8) (mVar 7))) (mCall (fDefC d__law_odd_kind) (aCons (mVar 1) (aCons (mVar 9) aNil))) (mVar 9)) [8, 9]) aNil)) aNil))) b_law_2)
abbrev b_law_4 : Ms := (mSeq (mSet 7 (mSl (mCall (fDefC d__law_mixed) (aCons (mVar 1) (aCons (mListR (mC (.int 6))) aNil))) oNone (oPart (mC (.int 2))))) b_law_3)
abbrev b_law_5 : Ms := (mSeq (mSet 6 (mCall (fDefC d__law_book) (aCons (mVar 1) (aCons (mC (.int 6)) aNil)))) b_law_4)
abbrev b_law_6 : Ms := (mSeq (mSet 4 (mOp oQAddD (mQLst (aCons (mVar 3) aNil)) (mQLc (iRange (aCons (mC (.int 5)) aNil)) (gN 5) bYes (mCall (fDefC d__law_spoilt) (aCons (mVar 1) (aCons (mVar 3) aNil))) [5]))) b_law_5)
abbrev b_law_7 : Ms := (mSeq (mSet 3 (mCall (fDefC d__law_book) (aCons (mVar 1) (aCons (mOp oQAdd (mC (.int 1)) (mCall (fDefC d__law_draw) (aCons (mVar 1) (aCons (mC (.int 6)) aNil)))) aNil)))) b_law_6)
abbrev b_law_8 : Ms := (mRet (mC (.bool false)))
abbrev b_law_9 : Ms := (mDrop (mMeth fApp (mVar 13) (aCons (mQLst (aCons (mCall (fDefC d_book_error) (aCons (mVar 14) aNil)) (aCons (mCall (fDefC d_book_error) (aCons (mQTup (aCons (mTup (aCons (mC (.int 1)) (aCons (mC (.int 1)) aNil))) (aCons (mVar 14) aNil))) aNil)) (aCons (mCall (fDefC d_book_error) (aCons (mQTup (aCons (mQTup (aCons (mVar 14) (aCons (mC (.int 1)) aNil))) aNil)) aNil)) (aCons (mCall (fDefC d_book_error) (aCons (mQTup (aCons (mQTup (aCons (mC (.int 6)) (aCons (mVar 14) aNil))) aNil)) aNil)) aNil))))) aNil)))
abbrev b_law_10 : Ms := (mRet (mOp (oQEq false) (mCall fQRepr (aCons (mVar 13) aNil)) (mCall fQRepr (aCons (mOp oMul (mLst (aCons (mLst (aCons (mC (.str "form")) (aCons (mTup (aCons (mC (.str "kind")) (aCons (mC (.int 1)) aNil))) (aCons (mTup (aCons (mC (.str "kind")) (aCons (mC (.int 0)) aNil))) (aCons (mTup (aCons (mC (.str "kind")) (aCons (mC (.int 0)) aNil))) aNil))))) aNil)) (mC (.int 2))) aNil))))
abbrev b_law_11 : Ms := (mSeq (mFor (iQSeq (mVar 12)) (gN 14) b_law_9) b_law_10)
abbrev b_law_12 : Ms := (mSeq (mSet 13 (mNewD aNil)) b_law_11)
abbrev b_law_13 : Ms := (mSeq (mSet 12 (mQLst (aCons (mMk0 "Unfit") (aCons (mNewQ "Desk" d_Desk____init__ (aCons (mTup (aCons (mTup (aCons (mC (.int 4)) (aCons (mC (.int 4)) aNil))) (aCons (mTup (aCons (mC (.int 1)) (aCons (mC (.int 1)) aNil))) aNil))) aNil)) aNil)))) b_law_12)
abbrev b_law_14 : Ms := (mSeq (mIf (mTest (mOp (oQEq true) (mQLc (iQSeq (mVar 11)) (gN 10) (bNot (mTest (mCall (fDefC d__law_is_told) (aCons (mVar 10) (aCons (mC (.bool false)) aNil))))) (mVar 10) [10]) (mLst aNil))) b_law_8 mNext) b_law_13)
abbrev b_law_15 : Ms := (mSeq (mSet 11 (mLst (aCons (mOp oRepT (mTup (aCons (mTup (aCons (mOp oPow (mC (.int 10)) (mC (.int 30))) (aCons (mC (.int 64)) aNil))) aNil)) (mC (.int 6))) (aCons (mOp oRepT (mTup (aCons (mTup (aCons (mOp oPow (mC (.int 10)) (mC (.int 30))) (aCons (mC (.int 64)) aNil))) aNil)) (mC (.int 7))) (aCons (mTup (aCons (mTup (aCons (mC (.int 1)) (aCons (mC (.int 1)) aNil))) aNil)) (aCons (mTup (aCons (mTup (aCons (mOp oAdd (mOp oPow (mC (.int 10)) (mC (.int 30))) (mC (.int 1))) (aCons (mC (.int 64)) aNil))) aNil)) (aCons (mOp oAdd (mTup (aCons (mC .none) aNil)) (mOp oRepT (mTup (aCons (mTup (aCons (mC (.int 1)) (aCons (mC (.int 1)) aNil))) aNil)) (mC (.int 6)))) aNil))))))) b_law_14)
abbrev b_law_16 : Ms := (mSeq (mFor (iRange (aCons (mC (.int 8)) aNil)) (gN 2) b_law_7) b_law_15)
abbrev b_law_17 : Ms := (mSeq (mSet 1 (mCall (fDef d__law_reel) (aCons (mVar 0) aNil))) b_law_16)
abbrev b_law : Ms := b_law_17
def d_law : FD := mDefC 1 15 b_law
section
variable {P : Program} {w : World} {K : PySem.W.Frag} {mg : Str → Option Value} {base : Heap}
theorem ok__law_reel (Z : Zs K mg)  {f : Addr} {fd : FuncData} (F : Fun K "_law_reel" "_law_reel" s__law_reel f fd) : FnG P w K mg base 1 f fd ["script"] (spM K d__law_reel) :=
  ok_def (k := 0) F sc__law_reel fun cdv A outer sh H E gd rm =>
   ((mss_cons (ms_par (i := 1) (j := 2) rfl sc__law_reel.nd rfl rfl (by decide) rfl rfl (ma_cons (me_lc (own := [("own", 3)]) rfl sc__law_reel.nd (mi_seq (me_slice (me_var (pv 0)) mo_none (mo_some me_int))) (blkOk_by (N := ["script", "cells", "stamp", "own", "deep"]) (sc := defScope s__law_reel) (by decide +kernel)) (fun _ _ _ _ _ => (mg_name (i := 3) sc__law_reel.nd rfl (by first | exact .inl rfl | exact .inr rfl))) (fun _ _ _ _ _ => mts_nil) (fun _ _ _ _ _ => (me_ite (mb_ge (me_var (pv 3)) me_int) (me_mul me_int (me_var (pv 3))) (me_sub (me_mul (me_neg me_int) (me_var (pv 3))) me_int))) (by decide)) (ma_cons (me_add (me_len (by rfl) Z.z_len (ma_cons (me_var (pv 0)) ma_nil)) me_int) ma_nil)) (by rfl))
    (mss_cons (ms_for PassesOwn.never rfl (mi_seq (me_var (pv 1))) (mg_name (i := 3) sc__law_reel.nd rfl (by first | exact .inl rfl | exact .inr rfl)) (mss_one (ms_set (i := 2) sc__law_reel.nd rfl (by first | exact .inl rfl | exact .inr rfl) (me_mod (me_inti (by rfl) Z.z_int (ma_cons (me_add (me_add (me_mul (me_var (pv 2)) me_int) (me_mul (me_var (pv 3)) me_int)) me_int) ma_nil)) me_int))))
    (mss_cons (ms_setLcD (n := 4) (own := [("own", 3)]) rfl sc__law_reel.nd rfl rfl (swT rfl rfl rfl (by decide +kernel)) (mi_seq (me_var (pv 1))) (blkOk_by (N := ["script", "cells", "stamp", "own", "deep"]) (sc := defScope s__law_reel) (by decide +kernel)) (fun _ _ _ _ _ => (mg_name (i := 3) sc__law_reel.nd rfl (by first | exact .inl rfl | exact .inr rfl))) (fun _ _ _ _ _ => (mts_one (mb_ge (me_var (pv 3)) (me_pow me_int me_int)))) (fun _ _ _ _ _ => (me_var (pv 3))) (by decide))
    (mss_one (ms_ret (me_disp (pps_cons pe_str (me_var (pv 4)) (pps_cons pe_str (me_add (me_var (pv 1)) (me_lst (ma_cons (me_add (me_mul me_int (me_len (by rfl) Z.z_len (ma_cons (me_var (pv 1)) ma_nil))) me_int) ma_nil))) (pps_cons pe_str (me_var (pv 2)) (pps_cons pe_str me_int pps_nil)))) rfl rfl (by simp) (by decide))))))) : MSs _ (defBody s__law_reel) b__law_reel)
theorem ok__law_draw (Z : Zs K mg)  {f : Addr} {fd : FuncData} (F : Fun K "_law_draw" "_law_draw" s__law_draw f fd) : FnG P w K mg base 1 f fd ["reel", "many"] (spM K d__law_draw) :=
  ok_def (k := 0) F sc__law_draw fun cdv A outer sh H E gd rm =>
   ((mss_cons (ms_set (i := 2) sc__law_draw.nd rfl (by first | exact .inl rfl | exact .inr rfl) (me_dget (hu_of rm) (me_var (pv 0)) me_str fun _ _ => rfl))
    (mss_cons (ms_if (MW.toB (mw_and (mb_ne rm (me_var (pv 2)) (me_lst ma_nil)) (mw_and1 (mb_gt (me_var (pv 1)) me_int)))) (mss_cons (ms_set (i := 3) sc__law_draw.nd rfl (by first | exact .inl rfl | exact .inr rfl) (me_pop (me_var (pv 2))))
    (mss_cons (ms_if (mb_ge (me_var (pv 3)) (me_var (pv 1))) (mss_one (ms_expr (me_append (me_var (pv 2)) (ma_cons (me_div (me_var (pv 3)) (me_var (pv 1))) ma_nil)))) mss_nil)
    (mss_one (ms_ret (me_mod (me_inti (by rfl) Z.z_int (ma_cons (me_var (pv 3)) ma_nil)) (me_var (pv 1))))))) mss_nil)
    (mss_cons (ms_dput (hu_of rm) (me_var (pv 0)) me_str (me_add (me_dget (hu_of rm) (me_var (pv 0)) me_str fun _ _ => rfl) me_int) (by rfl))
    (mss_cons (ms_par (i := 4) (j := 5) rfl sc__law_draw.nd rfl rfl (by decide) rfl rfl (ma_cons (me_dget (hu_of rm) (me_var (pv 0)) me_str fun _ _ => rfl) (ma_cons (me_dget (hu_of rm) (me_var (pv 0)) me_str fun _ _ => rfl) ma_nil)) (by rfl))
    (mss_cons (ms_set (i := 6) sc__law_draw.nd rfl (by first | exact .inl rfl | exact .inr rfl) (me_mod (me_inti (by rfl) Z.z_int (ma_cons (me_add (me_add (me_mul (me_ix (me_var (pv 5)) (me_mod (me_inti (by rfl) Z.z_int (ma_cons (me_mul (me_var (pv 4)) me_int) ma_nil)) (me_len (by rfl) Z.z_len (ma_cons (me_var (pv 5)) ma_nil))) fun _ _ => rfl) me_int) (me_dget (hu_of rm) (me_var (pv 0)) me_str fun _ _ => rfl)) (me_mul (me_var (pv 4)) me_int)) ma_nil)) me_int))
    (mss_cons (ms_for PassesOwn.never rfl (mi_range (by rfl) Z.z_range (ma_cons me_int ma_nil)) (mg_name (i := 7) sc__law_draw.nd rfl (by first | exact .inl rfl | exact .inr rfl)) (mss_one (ms_set (i := 6) sc__law_draw.nd rfl (by first | exact .inl rfl | exact .inr rfl) (me_mod (me_inti (by rfl) Z.z_int (ma_cons (me_add (me_mul (me_var (pv 6)) (me_var (pv 6))) (me_mul (me_dget (hu_of rm) (me_var (pv 0)) me_str fun _ _ => rfl) (me_add (me_var (pv 4)) (me_var (pv 7))))) ma_nil)) me_int))))
    (mss_one (ms_ret (me_mod (me_inti (by rfl) Z.z_int (ma_cons (me_div (me_var (pv 6)) me_int) ma_nil)) (me_var (pv 1))))))))))) : MSs _ (defBody s__law_draw) b__law_draw)
theorem ok__law_pick (Z : Zs K mg) (h__law_draw : Kn P w K mg base 1 "_law_draw" s__law_draw ["reel", "many"] d__law_draw) {f : Addr} {fd : FuncData} (F : Fun K "_law_pick" "_law_pick" s__law_pick f fd) : FnG P w K mg base 2 f fd ["reel", "things"] (spM K d__law_pick) :=
  ok_def (k := 1) F sc__law_pick fun cdv A outer sh H E gd rm =>
   ((mss_one (ms_ret (me_ix (me_var (pv 1)) (me_fn h__law_draw gd rm (by decide) (by rfl) (ma_cons (me_var (pv 0)) (ma_cons (me_len (by rfl) Z.z_len (ma_cons (me_var (pv 1)) ma_nil)) ma_nil))) fun _ _ => rfl))) : MSs _ (defBody s__law_pick) b__law_pick)
theorem ok__law_size (Z : Zs K mg) (h__law_draw : Kn P w K mg base 1 "_law_draw" s__law_draw ["reel", "many"] d__law_draw) (h__law_pick : Kn P w K mg base 2 "_law_pick" s__law_pick ["reel", "things"] d__law_pick) {f : Addr} {fd : FuncData} (F : Fun K "_law_size" "_law_size" s__law_size f fd) : FnG P w K mg base 3 f fd ["reel", "step"] (spM K d__law_size) :=
  ok_def (k := 2) F sc__law_size fun cdv A outer sh H E gd rm =>
   ((mss_cons (ms_par (i := 2) (j := 3) rfl sc__law_size.nd rfl rfl (by decide) rfl rfl (ma_cons (me_mul (me_var (pv 1)) (me_add me_int (me_fn h__law_draw gd rm (by decide) (by rfl) (ma_cons (me_var (pv 0)) (ma_cons me_int ma_nil))))) (ma_cons (me_fn h__law_draw gd rm (by decide) (by rfl) (ma_cons (me_var (pv 0)) (ma_cons me_int ma_nil))) ma_nil)) (by rfl))
    (mss_cons (ms_if (mb_lt (me_var (pv 3)) me_int) (mss_one (ms_ret (me_var (pv 2)))) mss_nil)
    (mss_cons (ms_if (mb_lt (me_var (pv 3)) me_int) (mss_one (ms_ret (me_max rfl (by rfl) Z.z_max (ma_cons me_int (ma_cons (me_add (me_var (pv 2)) (me_fn h__law_pick gd rm (by decide) (by rfl) (ma_cons (me_var (pv 0)) (ma_cons (me_lst (ma_cons (me_neg me_int) (ma_cons me_int (ma_cons (me_neg me_int) (ma_cons me_int ma_nil))))) ma_nil)))) ma_nil))))) mss_nil)
    (mss_cons (ms_if (mb_lt (me_var (pv 3)) me_int) (mss_one (ms_ret (me_add me_int (me_fn h__law_draw gd rm (by decide) (by rfl) (ma_cons (me_var (pv 0)) (ma_cons me_int ma_nil)))))) mss_nil)
    (mss_cons (ms_set (i := 4) sc__law_size.nd rfl (by first | exact .inl rfl | exact .inr rfl) (me_sub (me_pow me_int me_int) (me_mul (me_var (pv 1)) (me_fn h__law_draw gd rm (by decide) (by rfl) (ma_cons (me_var (pv 0)) (ma_cons me_int ma_nil))))))
    (mss_cons (ms_set (i := 5) sc__law_size.nd rfl (by first | exact .inl rfl | exact .inr rfl) (me_fn h__law_pick gd rm (by decide) (by rfl) (ma_cons (me_var (pv 0)) (ma_cons (me_lst (ma_cons me_int (ma_cons me_int (ma_cons (me_neg me_int) (ma_cons me_int (ma_cons (me_div (me_neg (me_var (pv 1))) me_int) (ma_cons (me_sub me_int (me_mul (me_fn h__law_draw gd rm (by decide) (by rfl) (ma_cons (me_var (pv 0)) (ma_cons (me_pow me_int me_int) ma_nil))) (me_pow me_int me_int))) ma_nil))))))) ma_nil))))
    (mss_one (ms_ret (me_min rfl (by rfl) Z.z_min (ma_cons (me_pow me_int me_int) (ma_cons (me_max rfl (by rfl) Z.z_max (ma_cons me_int (ma_cons (me_add (me_var (pv 4)) (me_var (pv 5))) ma_nil))) ma_nil))))))))))) : MSs _ (defBody s__law_size) b__law_size)
theorem ok__law_book (Z : Zs K mg) (h__law_pick : Kn P w K mg base 2 "_law_pick" s__law_pick ["reel", "things"] d__law_pick) (h__law_size : Kn P w K mg base 3 "_law_size" s__law_size ["reel", "step"] d__law_size) (h__law_draw : Kn P w K mg base 1 "_law_draw" s__law_draw ["reel", "many"] d__law_draw) {f : Addr} {fd : FuncData} (F : Fun K "_law_book" "_law_book" s__law_book f fd) : FnG P w K mg base 4 f fd ["reel", "many"] (spM K d__law_book) :=
  ok_def (k := 3) F sc__law_book fun cdv A outer sh H E gd rm =>
   ((mss_cons (ms_set (i := 2) sc__law_book.nd rfl (by first | exact .inl rfl | exact .inr rfl) (me_newL ma_nil))
    (mss_cons (ms_for PassesOwn.never rfl (mi_range (by rfl) Z.z_range (ma_cons (me_var (pv 1)) ma_nil)) (mg_name (i := 3) sc__law_book.nd rfl (by first | exact .inl rfl | exact .inr rfl)) (mss_cons (ms_set (i := 4) sc__law_book.nd rfl (by first | exact .inl rfl | exact .inr rfl) (me_fn h__law_pick gd rm (by decide) (by rfl) (ma_cons (me_var (pv 0)) (ma_cons (me_lst (ma_cons me_int (ma_cons me_int (ma_cons me_int (ma_cons me_int (ma_cons me_int (ma_cons me_int (ma_cons me_int (ma_cons me_int (ma_cons me_int (ma_cons me_int ma_nil))))))))))) ma_nil))))
    (mss_cons (ms_expr (me_append (me_var (pv 2)) (ma_cons (me_tup (ma_cons (me_fn h__law_size gd rm (by decide) (by rfl) (ma_cons (me_var (pv 0)) (ma_cons (me_var (pv 4)) ma_nil))) (ma_cons (me_var (pv 4)) ma_nil))) ma_nil)))
    (mss_one (ms_if (MW.toB (mw_and (mb_gt (me_var (pv 3)) me_int) (mw_and1 (mb_eq rm (me_fn h__law_draw gd rm (by decide) (by rfl) (ma_cons (me_var (pv 0)) (ma_cons me_int ma_nil))) me_int)))) (mss_one (ms_lput (me_var (pv 2)) (me_var (pv 3)) (me_ix (me_var (pv 2)) (me_sub (me_var (pv 3)) me_int) fun _ _ => rfl) fun ho hi => pg_sub ho hi set_list)) mss_nil)))))
    (mss_one (ms_ret (me_tuple (by rfl) Z.z_tuple (ma_cons (me_var (pv 2)) ma_nil)))))) : MSs _ (defBody s__law_book) b__law_book)
theorem ok__law_pick_v (Z : Zs K mg) (h__law_draw : Kn P w K mg base 1 "_law_draw" s__law_draw ["reel", "many"] d__law_draw) {f : Addr} {fd : FuncData} (F : Fun K "_law_pick" "_law_pick" s__law_pick_v f fd) : FnG P w K mg base 2 f fd ["reel", "things"] (spM K d__law_pick_v) :=
  ok_def (k := 1) F sc__law_pick_v fun cdv A outer sh H E gd rm =>
   ((mss_one (ms_ret (me_qix (me_var (pv 1)) (me_fn h__law_draw gd rm (by decide) (by rfl) (ma_cons (me_var (pv 0)) (ma_cons (me_qlen (by rfl) Z.z_len (ma_cons (me_var (pv 1)) ma_nil)) ma_nil))) fun _ _ => rfl))) : MSs _ (defBody s__law_pick_v) b__law_pick_v)
theorem ok__law_far (Z : Zs K mg)  {f : Addr} {fd : FuncData} (F : Fun K "_law_far" "_law_far" s__law_far f fd) : FnG P w K mg base 1 f fd [] (spM K d__law_far) :=
  ok_def (k := 0) F sc__law_far fun cdv A outer sh H E gd rm =>
   ((mss_cons (ms_set (i := 0) sc__law_far.nd rfl (by first | exact .inl rfl | exact .inr rfl) me_int)
    (mss_cons (ms_for PassesOwn.never rfl (mi_range (by rfl) Z.z_range (ma_cons me_int ma_nil)) (mg_name (i := 1) sc__law_far.nd rfl (by first | exact .inl rfl | exact .inr rfl)) (mss_one (ms_set (i := 0) sc__law_far.nd rfl (by first | exact .inl rfl | exact .inr rfl) (me_mulV (me_var (pv 0)) (me_pow me_int me_int)))))
    (mss_one (ms_ret (me_var (pv 0)))))) : MSs _ (defBody s__law_far) b__law_far)
theorem ok__law_odd_kind (Z : Zs K mg) (h__law_far : Kn P w K mg base 1 "_law_far" s__law_far [] d__law_far) (h__law_pick_v : Kn P w K mg base 2 "_law_pick" s__law_pick_v ["reel", "things"] d__law_pick_v) {f : Addr} {fd : FuncData} (F : Fun K "_law_odd_kind" "_law_odd_kind" s__law_odd_kind f fd) : FnG P w K mg base 3 f fd ["reel", "kind"] (spM K d__law_odd_kind) :=
  ok_def (k := 2) F sc__law_odd_kind fun cdv A outer sh H E gd rm =>
   ((mss_cons (ms_asg (me_qtup (ma_cons (me_var (pv 1)) (ma_cons (me_fn0 h__law_far gd rm (by decide) (by rfl)) ma_nil))) (mg_qtup rfl (mqs_cons (mg_qtup rfl (mqs_cons (mg_name (i := 2) sc__law_odd_kind.nd rfl (by first | exact .inl rfl | exact .inr rfl)) (mqs_cons (mg_name (i := 3) sc__law_odd_kind.nd rfl (by first | exact .inl rfl | exact .inr rfl)) mqs_nil))) (mqs_cons (mg_name (i := 4) sc__law_odd_kind.nd rfl (by first | exact .inl rfl | exact .inr rfl)) mqs_nil))))
    (mss_cons (ms_set (i := 5) sc__law_odd_kind.nd rfl (by first | exact .inl rfl | exact .inr rfl) (me_qlst (ma_cons (me_qtup (ma_cons (me_var (pv 4)) (ma_cons (me_var (pv 3)) ma_nil))) (ma_cons (me_qtup (ma_cons (me_sub me_int (me_var (pv 4))) (ma_cons (me_var (pv 3)) ma_nil))) (ma_cons (me_qtup (ma_cons (me_var (pv 2)) (ma_cons (me_var (pv 4)) ma_nil))) (ma_cons (me_qtup (ma_cons (me_var (pv 2)) (ma_cons (me_sub me_int (me_var (pv 4))) ma_nil))) ma_nil))))))
    (mss_cons (ms_set (i := 6) sc__law_odd_kind.nd rfl (by first | exact .inl rfl | exact .inr rfl) (me_qlst (ma_cons me_int (ma_cons (me_neg me_int) (ma_cons (me_sub me_int (me_var (pv 2))) (ma_cons (me_add (me_pow me_int me_int) me_int) (ma_cons me_bl (ma_cons (me_strI (by rfl) Z.z_str (ma_cons (me_var (pv 2)) ma_nil)) (ma_cons me_non (ma_cons (me_qtup (ma_cons (me_var (pv 2)) ma_nil)) (ma_cons (me_qlst (ma_cons (me_var (pv 2)) ma_nil)) (ma_cons (me_pow me_int me_int) (ma_cons me_qdic0 ma_nil)))))))))))))
    (mss_cons (ms_set (i := 5) sc__law_odd_kind.nd rfl (by first | exact .inl rfl | exact .inr rfl) (me_qadd (me_var (pv 5)) (me_lcQ (own := [("own", 7)]) rfl sc__law_odd_kind.nd (mi_qseq (me_var (pv 6))) (blkOk_by (N := ["reel", "kind", "size", "step", "far", "odd", "whole", "own"]) (sc := defScope s__law_odd_kind) (by decide +kernel)) (fun _ _ _ _ _ => (mg_name (i := 7) sc__law_odd_kind.nd rfl (by first | exact .inl rfl | exact .inr rfl))) (fun _ _ _ _ _ => mts_nil) (fun _ _ _ _ _ => (me_qtup (ma_cons (me_var (pv 7)) (ma_cons (me_var (pv 3)) ma_nil)))) (by decide))))
    (mss_cons (ms_set (i := 5) sc__law_odd_kind.nd rfl (by first | exact .inl rfl | exact .inr rfl) (me_qadd (me_var (pv 5)) (me_lcQ (own := [("own", 7)]) rfl sc__law_odd_kind.nd (mi_qseq (me_qtup (ma_cons me_int (ma_cons me_int (ma_cons me_int (ma_cons me_int (ma_cons me_int (ma_cons me_int (ma_cons (me_sub me_int (me_var (pv 3))) (ma_cons me_bl (ma_cons me_bl (ma_cons (me_strI (by rfl) Z.z_str (ma_cons (me_var (pv 3)) ma_nil)) (ma_cons me_non (ma_cons (me_qlst (ma_cons (me_var (pv 3)) ma_nil)) ma_nil)))))))))))))) (blkOk_by (N := ["reel", "kind", "size", "step", "far", "odd", "whole", "own"]) (sc := defScope s__law_odd_kind) (by decide +kernel)) (fun _ _ _ _ _ => (mg_name (i := 7) sc__law_odd_kind.nd rfl (by first | exact .inl rfl | exact .inr rfl))) (fun _ _ _ _ _ => mts_nil) (fun _ _ _ _ _ => (me_qtup (ma_cons (me_var (pv 2)) (ma_cons (me_var (pv 7)) ma_nil)))) (by decide))))
    (mss_cons (ms_set (i := 5) sc__law_odd_kind.nd rfl (by first | exact .inl rfl | exact .inr rfl) (me_qadd (me_var (pv 5)) (me_qlst (ma_cons (me_qtup (ma_cons (me_var (pv 2)) ma_nil)) (ma_cons (me_qtup (ma_cons (me_var (pv 2)) (ma_cons (me_var (pv 3)) (ma_cons me_int ma_nil)))) (ma_cons (me_qlst (ma_cons (me_var (pv 2)) (ma_cons (me_var (pv 3)) ma_nil))) (ma_cons (me_tup ma_nil) (ma_cons me_non (ma_cons (me_var (pv 2)) (ma_cons me_str (ma_cons (me_qdic (pps_cons (me_var (pv 2)) (me_var (pv 3)) pps_nil) rfl rfl (by simp) (by decide)) (ma_cons (me_var (pv 1)) (ma_cons (me_tup (ma_cons me_int (ma_cons me_int ma_nil))) ma_nil)))))))))))))
    (mss_one (ms_ret (me_fn h__law_pick_v gd rm (by decide) (by rfl) (ma_cons (me_var (pv 0)) (ma_cons (me_qadd (me_var (pv 5)) (me_qlst (ma_cons (me_qtup (ma_cons (me_var (pv 2)) (ma_cons (me_mul me_int (me_pow me_int me_int)) ma_nil))) ma_nil))) ma_nil))))))))))) : MSs _ (defBody s__law_odd_kind) b__law_odd_kind)
theorem ok__law_spoilt (Z : Zs K mg) (h__law_draw : Kn P w K mg base 1 "_law_draw" s__law_draw ["reel", "many"] d__law_draw) (h__law_pick_v : Kn P w K mg base 2 "_law_pick" s__law_pick_v ["reel", "things"] d__law_pick_v) (h__law_odd_kind : Kn P w K mg base 3 "_law_odd_kind" s__law_odd_kind ["reel", "kind"] d__law_odd_kind) {f : Addr} {fd : FuncData} (F : Fun K "_law_spoilt" "_law_spoilt" s__law_spoilt f fd) : FnG P w K mg base 4 f fd ["reel", "book"] (spM K d__law_spoilt) :=
  ok_def (k := 3) F sc__law_spoilt fun cdv A outer sh H E gd rm =>
   ((mss_cons (ms_par (i := 2) (j := 3) rfl sc__law_spoilt.nd rfl rfl (by decide) rfl rfl (ma_cons (me_fn h__law_draw gd rm (by decide) (by rfl) (ma_cons (me_var (pv 0)) (ma_cons me_int ma_nil))) (ma_cons (me_fn h__law_draw gd rm (by decide) (by rfl) (ma_cons (me_var (pv 0)) (ma_cons (me_qlen (by rfl) Z.z_len (ma_cons (me_var (pv 1)) ma_nil)) ma_nil))) ma_nil)) (by rfl))
    (mss_cons (ms_if (mb_eq rm (me_var (pv 2)) me_int) (mss_cons (ms_set (i := 4) sc__law_spoilt.nd rfl (by first | exact .inl rfl | exact .inr rfl) (me_qlst (ma_cons (me_qlist (by rfl) Z.z_list (ma_cons (me_var (pv 1)) ma_nil)) (ma_cons (me_tup ma_nil) (ma_cons me_non (ma_cons (me_repT (me_var (pv 1)) me_int) (ma_cons (me_qtup (ma_cons (me_var (pv 1)) ma_nil)) (ma_cons (me_qix (me_var (pv 1)) me_int fun _ _ => rfl) (ma_cons me_str (ma_cons me_qdic0 (ma_cons me_int (ma_cons me_bl (ma_cons (me_qadd (me_var (pv 1)) (me_repT (me_slice (me_var (pv 1)) mo_none (mo_some me_int)) me_int)) ma_nil)))))))))))))
    (mss_one (ms_ret (me_fn h__law_pick_v gd rm (by decide) (by rfl) (ma_cons (me_var (pv 0)) (ma_cons (me_var (pv 4)) ma_nil)))))) mss_nil)
    (mss_cons (ms_if (mb_eq rm (me_var (pv 2)) me_int) (mss_one (ms_ret (me_qadd (me_slice (me_var (pv 1)) mo_none (mo_some (me_var (pv 3)))) (me_slice (me_var (pv 1)) (mo_some (me_qadd (me_var (pv 3)) me_int)) mo_none)))) mss_nil)
    (mss_one (ms_ret (me_qadd (me_qadd (me_slice (me_var (pv 1)) mo_none (mo_some (me_var (pv 3)))) (me_qtup (ma_cons (me_fn h__law_odd_kind gd rm (by decide) (by rfl) (ma_cons (me_var (pv 0)) (ma_cons (me_qix (me_var (pv 1)) (me_var (pv 3)) fun _ _ => rfl) ma_nil))) ma_nil))) (me_slice (me_var (pv 1)) (mo_some (me_qadd (me_var (pv 3)) me_int)) mo_none))))))) : MSs _ (defBody s__law_spoilt) b__law_spoilt)
theorem ok__law_mixed (Z : Zs K mg) (h__law_draw : Kn P w K mg base 1 "_law_draw" s__law_draw ["reel", "many"] d__law_draw) {f : Addr} {fd : FuncData} (F : Fun K "_law_mixed" "_law_mixed" s__law_mixed f fd) : FnG P w K mg base 2 f fd ["reel", "things"] (spM K d__law_mixed) :=
  ok_def (k := 1) F sc__law_mixed fun cdv A outer sh H E gd rm =>
   ((mss_cons (ms_par (i := 2) (j := 3) rfl sc__law_mixed.nd rfl rfl (by decide) rfl rfl (ma_cons (me_listL (by rfl) Z.z_list (ma_cons (me_var (pv 1)) ma_nil)) (ma_cons (me_newL ma_nil) ma_nil)) (by rfl))
    (mss_cons (ms_while PassesOwn.never (mb_ne rm (me_var (pv 2)) (me_lst ma_nil)) (mss_one (ms_expr (me_append (me_var (pv 3)) (ma_cons (me_popAt (me_var (pv 2)) (ma_cons (me_fn h__law_draw gd rm (by decide) (by rfl) (ma_cons (me_var (pv 0)) (ma_cons (me_len (by rfl) Z.z_len (ma_cons (me_var (pv 2)) ma_nil)) ma_nil))) ma_nil)) ma_nil)))))
    (mss_one (ms_ret (me_frz (me_var (pv 3))))))) : MSs _ (defBody s__law_mixed) b__law_mixed)
theorem ok__law_is_int (Z : Zs K mg)  {f : Addr} {fd : FuncData} (F : Fun K "_law_is_int" "_law_is_int" s__law_is_int f fd) : FnG P w K mg base 1 f fd ["value", "low", "high"] (spM K d__law_is_int) :=
  ok_def (k := 0) F sc__law_is_int fun cdv A outer sh H E gd rm =>
   ((mss_one (ms_ret (me_and (me_qisj (by rfl) Z.z_isinstance (by rfl) Z.z_int (by decide +kernel) Z.qb_1 Z.qj_2 (me_var (pv 0))) (me_and (me_not (me_qisj (by rfl) Z.z_isinstance (by rfl) Z.z_bool (by decide +kernel) Z.qb_3 Z.qj_4 (me_var (pv 0)))) (me_one (me_chain op_le (opl_I0 fun _ _ _ => .bl _) op_le (opl_I0 fun _ _ _ => .bl _) (me_var (pv 1)) (me_var (pv 0)) (me_var (pv 2)))))))) : MSs _ (defBody s__law_is_int) b__law_is_int)
theorem ok__law_is_kind (Z : Zs K mg) (h__law_is_int : Kn P w K mg base 1 "_law_is_int" s__law_is_int ["value", "low", "high"] d__law_is_int) {f : Addr} {fd : FuncData} (F : Fun K "_law_is_kind" "_law_is_kind" s__law_is_kind f fd) : FnG P w K mg base 2 f fd ["value"] (spM K d__law_is_kind) :=
  ok_def (k := 1) F sc__law_is_kind fun cdv A outer sh H E gd rm =>
   ((mss_cons (ms_if (MW.toB (mw_or (mb_not (mb_val (me_qisj (by rfl) Z.z_isinstance (by rfl) Z.z_tuple (by decide +kernel) Z.qb_5 Z.qj_6 (me_var (pv 0))))) (mw_or (mb_ne rm (me_qlen (by rfl) Z.z_len (ma_cons (me_var (pv 0)) ma_nil)) me_int) (mw_or1 (mb_not (mb_val (me_fn h__law_is_int gd rm (by decide) (by rfl) (ma_cons (me_qix (me_var (pv 0)) me_int fun _ _ => rfl) (ma_cons me_int (ma_cons (me_pow me_int me_int) ma_nil)))))))))) (mss_one (ms_ret me_bl)) mss_nil)
    (mss_one (ms_ret (me_and (me_fn h__law_is_int gd rm (by decide) (by rfl) (ma_cons (me_qix (me_var (pv 0)) me_int fun _ _ => rfl) (ma_cons me_int (ma_cons me_int ma_nil)))) (me_one (me_in rm (me_qix (me_var (pv 0)) me_int fun _ _ => rfl) (me_tup (ma_cons me_int (ma_cons me_int (ma_cons me_int (ma_cons me_int (ma_cons me_int (ma_cons me_int (ma_cons me_int ma_nil)))))))))))))) : MSs _ (defBody s__law_is_kind) b__law_is_kind)
theorem ok__law_fault (Z : Zs K mg) (h__law_is_kind : Kn P w K mg base 2 "_law_is_kind" s__law_is_kind ["value"] d__law_is_kind) {f : Addr} {fd : FuncData} (F : Fun K "_law_fault" "_law_fault" s__law_fault f fd) : FnG P w K mg base 3 f fd ["value"] (spM K d__law_fault) :=
  ok_def (k := 2) F sc__law_fault fun cdv A outer sh H E gd rm =>
   ((mss_cons (ms_if (MW.toB (mw_or (mb_not (mb_val (me_qisj (by rfl) Z.z_isinstance (by rfl) Z.z_tuple (by decide +kernel) Z.qb_5 Z.qj_6 (me_var (pv 0))))) (mw_or (mb_lt (me_qlen (by rfl) Z.z_len (ma_cons (me_var (pv 0)) ma_nil)) me_int) (mw_or1 (mb_gt (me_qlen (by rfl) Z.z_len (ma_cons (me_var (pv 0)) ma_nil)) me_int))))) (mss_one (ms_ret me_str)) mss_nil)
    (mss_cons (ms_forEnQ PassesOwn.never rfl sc__law_fault.nd (by rfl) Z.z_enumerate (me_var (pv 0)) (pg_name (i := 1) sc__law_fault.nd rfl (by first | exact .inl rfl | exact .inr rfl)) (pg_name (i := 2) sc__law_fault.nd rfl (by first | exact .inl rfl | exact .inr rfl)) (mss_one (ms_if (mb_not (mb_val (me_fn h__law_is_kind gd rm (by decide) (by rfl) (ma_cons (me_var (pv 2)) ma_nil)))) (mss_one (ms_ret (me_qtup (ma_cons me_str (ma_cons (me_var (pv 1)) ma_nil))))) mss_nil)))
    (mss_one (ms_ret me_non)))) : MSs _ (defBody s__law_fault) b__law_fault)
theorem ok_is_tuple_within (Z : Zs K mg)  {f : Addr} {fd : FuncData} (F : Fun K "is_tuple_within" "is_tuple_within" s_is_tuple_within f fd) : FnG P w K mg base 1 f fd ["value", "fewest", "most"] (spM K d_is_tuple_within) :=
  ok_def (k := 0) F sc_is_tuple_within fun cdv A outer sh H E gd rm =>
   ((mss_one (ms_ret (me_and (me_qisj (by rfl) Z.z_isinstance (by rfl) Z.z_tuple (by decide +kernel) Z.qb_5 Z.qj_6 (me_var (pv 0))) (me_one (me_chain op_le (opl_I0 fun _ _ _ => .bl _) op_le (opl_I0 fun _ _ _ => .bl _) (me_var (pv 1)) (me_qlen (by rfl) Z.z_len (ma_cons (me_var (pv 0)) ma_nil)) (me_var (pv 2))))))) : MSs _ (defBody s_is_tuple_within) b_is_tuple_within)
theorem ok_is_integer (Z : Zs K mg)  {f : Addr} {fd : FuncData} (F : Fun K "is_integer" "is_integer" s_is_integer f fd) : FnG P w K mg base 1 f fd ["value"] (spM K d_is_integer) :=
  ok_def (k := 0) F sc_is_integer fun cdv A outer sh H E gd rm =>
   ((mss_one (ms_ret (me_and (me_qisj (by rfl) Z.z_isinstance (by rfl) Z.z_int (by decide +kernel) Z.qb_1 Z.qj_2 (me_var (pv 0))) (me_one (me_not (me_qisj (by rfl) Z.z_isinstance (by rfl) Z.z_bool (by decide +kernel) Z.qb_3 Z.qj_4 (me_var (pv 0)))))))) : MSs _ (defBody s_is_integer) b_is_integer)
theorem ok_is_integer_within (Z : Zs K mg) (h_is_integer : Kn P w K mg base 1 "is_integer" s_is_integer ["value"] d_is_integer) {f : Addr} {fd : FuncData} (F : Fun K "is_integer_within" "is_integer_within" s_is_integer_within f fd) : FnG P w K mg base 2 f fd ["value", "least", "greatest"] (spM K d_is_integer_within) :=
  ok_def (k := 1) F sc_is_integer_within fun cdv A outer sh H E gd rm =>
   ((mss_one (ms_ret (me_and (me_fn h_is_integer gd rm (by decide) (by rfl) (ma_cons (me_var (pv 0)) ma_nil)) (me_one (me_chain op_le (opl_I0 fun _ _ _ => .bl _) op_le (opl_I0 fun _ _ _ => .bl _) (me_var (pv 1)) (me_var (pv 0)) (me_var (pv 2))))))) : MSs _ (defBody s_is_integer_within) b_is_integer_within)
theorem ok_is_size (Z : Zs K mg) (h_is_integer_within : Kn P w K mg base 2 "is_integer_within" s_is_integer_within ["value", "least", "greatest"] d_is_integer_within) {f : Addr} {fd : FuncData} (F : Fun K "is_size" "is_size" s_is_size f fd) : FnG P w K mg base 3 f fd ["value"] (spM K d_is_size) :=
  ok_def (k := 2) F sc_is_size fun cdv A outer sh H E gd rm =>
   ((mss_one (ms_ret (me_fn h_is_integer_within gd rm (by decide) (by rfl) (ma_cons (me_var (pv 0)) (ma_cons me_int (ma_cons (me_gl (by rfl) (by exact Z.g_MAX_SIZE)) ma_nil)))))) : MSs _ (defBody s_is_size) b_is_size)
theorem ok_is_alignment (Z : Zs K mg) (h_is_integer : Kn P w K mg base 1 "is_integer" s_is_integer ["value"] d_is_integer) {f : Addr} {fd : FuncData} (F : Fun K "is_alignment" "is_alignment" s_is_alignment f fd) : FnG P w K mg base 2 f fd ["value"] (spM K d_is_alignment) :=
  ok_def (k := 1) F sc_is_alignment fun cdv A outer sh H E gd rm =>
   ((mss_one (ms_ret (me_and (me_fn h_is_integer gd rm (by decide) (by rfl) (ma_cons (me_var (pv 0)) ma_nil)) (me_one (me_in rm (me_var (pv 0)) (me_gl (by rfl) (by exact Z.g_ALIGNMENTS))))))) : MSs _ (defBody s_is_alignment) b_is_alignment)
theorem ok_is_kind (Z : Zs K mg) (h_is_tuple_within : Kn P w K mg base 1 "is_tuple_within" s_is_tuple_within ["value", "fewest", "most"] d_is_tuple_within) (h_is_size : Kn P w K mg base 3 "is_size" s_is_size ["value"] d_is_size) (h_is_alignment : Kn P w K mg base 2 "is_alignment" s_is_alignment ["value"] d_is_alignment) {f : Addr} {fd : FuncData} (F : Fun K "is_kind" "is_kind" s_is_kind f fd) : FnG P w K mg base 4 f fd ["value"] (spM K d_is_kind) :=
  ok_def (k := 3) F sc_is_kind fun cdv A outer sh H E gd rm =>
   ((mss_one (ms_ret (me_and (me_fn h_is_tuple_within gd rm (by decide) (by rfl) (ma_cons (me_var (pv 0)) (ma_cons me_int (ma_cons me_int ma_nil)))) (me_and (me_fn h_is_size gd rm (by decide) (by rfl) (ma_cons (me_qix (me_var (pv 0)) me_int fun _ _ => rfl) ma_nil)) (me_one (me_fn h_is_alignment gd rm (by decide) (by rfl) (ma_cons (me_qix (me_var (pv 0)) me_int fun _ _ => rfl) ma_nil))))))) : MSs _ (defBody s_is_kind) b_is_kind)
theorem ok_book_error (Z : Zs K mg) (h_is_tuple_within : Kn P w K mg base 1 "is_tuple_within" s_is_tuple_within ["value", "fewest", "most"] d_is_tuple_within) (h_is_kind : Kn P w K mg base 4 "is_kind" s_is_kind ["value"] d_is_kind) {f : Addr} {fd : FuncData} (F : Fun K "book_error" "book_error" s_book_error f fd) : FnG P w K mg base 5 f fd ["value"] (spM K d_book_error) :=
  ok_def (k := 4) F sc_book_error fun cdv A outer sh H E gd rm =>
   ((mss_cons (ms_if (mb_not (mb_val (me_fn h_is_tuple_within gd rm (by decide) (by rfl) (ma_cons (me_var (pv 0)) (ma_cons me_int (ma_cons (me_gl (by rfl) (by exact Z.g_MAX_KINDS)) ma_nil)))))) (mss_one (ms_ret me_str)) mss_nil)
    (mss_cons (ms_forEnQ PassesOwn.never rfl sc_book_error.nd (by rfl) Z.z_enumerate (me_var (pv 0)) (pg_name (i := 1) sc_book_error.nd rfl (by first | exact .inl rfl | exact .inr rfl)) (pg_name (i := 2) sc_book_error.nd rfl (by first | exact .inl rfl | exact .inr rfl)) (mss_one (ms_if (mb_not (mb_val (me_fn h_is_kind gd rm (by decide) (by rfl) (ma_cons (me_var (pv 2)) ma_nil)))) (mss_one (ms_ret (me_qtup (ma_cons me_str (ma_cons (me_var (pv 1)) ma_nil))))) mss_nil)))
    (mss_one (ms_ret me_non)))) : MSs _ (defBody s_book_error) b_book_error)
theorem ok__law_is_told (Z : Zs K mg) (h__law_fault : Kn P w K mg base 3 "_law_fault" s__law_fault ["value"] d__law_fault) (h_book_error : Kn P w K mg base 5 "book_error" s_book_error ["value"] d_book_error) {f : Addr} {fd : FuncData} (F : Fun K "_law_is_told" "_law_is_told" s__law_is_told f fd) : FnG P w K mg base 6 f fd ["value", "is_named"] (spM K d__law_is_told) :=
  ok_def (k := 5) F sc__law_is_told fun cdv A outer sh H E gd rm =>
   ((mss_cons (ms_par (i := 2) (j := 3) rfl sc__law_is_told.nd rfl rfl (by decide) rfl rfl (ma_cons (me_qrepr gd rm (by rfl) Z.z_repr (ma_cons (me_var (pv 0)) ma_nil)) (ma_cons (me_fn h__law_fault gd rm (by decide) (by rfl) (ma_cons (me_var (pv 0)) ma_nil)) ma_nil)) (by rfl))
    (mss_cons (ms_set (i := 4) sc__law_is_told.nd rfl (by first | exact .inl rfl | exact .inr rfl) (me_qlst (ma_cons (me_ite (mb_val (me_var (pv 1))) (me_fnK (ks := ["value"]) (g := kb_book_error_0_g) h_book_error gd rm (by decide) (by rfl) (fun _ _ U => kb_book_error_0 U) (mk_cons (me_var (pv 0)) mk_nil)) (me_fn h_book_error gd rm (by decide) (by rfl) (ma_cons (me_var (pv 0)) ma_nil))) (ma_cons (me_fn h_book_error gd rm (by decide) (by rfl) (ma_cons (me_var (pv 0)) ma_nil)) ma_nil))))
    (mss_one (ms_ret (me_and (me_eq rm (me_qrepr gd rm (by rfl) Z.z_repr (ma_cons (me_var (pv 4)) ma_nil)) (me_qrepr gd rm (by rfl) Z.z_repr (ma_cons (me_qlst (ma_cons (me_var (pv 3)) (ma_cons (me_var (pv 3)) ma_nil))) ma_nil))) (me_one (me_eq rm (me_qrepr gd rm (by rfl) Z.z_repr (ma_cons (me_var (pv 0)) ma_nil)) (me_var (pv 2))))))))) : MSs _ (defBody s__law_is_told) b__law_is_told)
theorem ok_Desk____init__ (Z : Zs K mg) (h_book_error : Kn P w K mg base 5 "book_error" s_book_error ["value"] d_book_error) {f : Addr} {fd : FuncData} (F : Fun K "__init__" "Desk.__init__" s_Desk____init__ f fd) : FnG P w K mg base 6 f fd ["self", "book"] (spM K d_Desk____init__) :=
  ok_def (k := 5) F sc_Desk____init__ fun cdv A outer sh H E gd rm =>
   ((mss_cons (ms_set (i := 2) sc_Desk____init__.nd rfl (by first | exact .inl rfl | exact .inr rfl) (me_fn h_book_error gd rm (by decide) (by rfl) (ma_cons (me_var (pv 1)) ma_nil)))
    (mss_cons (ms_if (mb_notN (me_var (pv 2)) me_non) (mss_one ms_dead) mss_nil)
    (mss_cons (ms_setI Z.ic_7 Z.if_8 (me_var (pv 0)) (me_newD (ma_cons (me_var (pv 1)) ma_nil)))
    (mss_cons (ms_setI Z.ic_7 Z.if_9 (me_var (pv 0)) (me_newD ma_nil))
    (mss_one (ms_setI Z.ic_7 Z.if_10 (me_var (pv 0)) (me_newD ma_nil))))))) : MSs _ (defBody s_Desk____init__) b_Desk____init__)
theorem ok_law (Z : Zs K mg) (h__law_reel : Kn P w K mg base 1 "_law_reel" s__law_reel ["script"] d__law_reel) (h__law_book : Kn P w K mg base 4 "_law_book" s__law_book ["reel", "many"] d__law_book) (h__law_draw : Kn P w K mg base 1 "_law_draw" s__law_draw ["reel", "many"] d__law_draw) (h__law_spoilt : Kn P w K mg base 4 "_law_spoilt" s__law_spoilt ["reel", "book"] d__law_spoilt) (h__law_mixed : Kn P w K mg base 2 "_law_mixed" s__law_mixed ["reel", "things"] d__law_mixed) (h__law_odd_kind : Kn P w K mg base 3 "_law_odd_kind" s__law_odd_kind ["reel", "kind"] d__law_odd_kind) (h__law_is_told : Kn P w K mg base 6 "_law_is_told" s__law_is_told ["value", "is_named"] d__law_is_told) (h_Desk____init__ : KnI P w K mg base 6 "Desk" ["self", "book"] d_Desk____init__) (h_book_error : Kn P w K mg base 5 "book_error" s_book_error ["value"] d_book_error) {f : Addr} {fd : FuncData} (F : Fun K "law" "law" s_law f fd) : FnG P w K mg base 8 f fd ["script"] (spM K d_law) :=
  okC_def (k := 7) F sc_law fun cdv A outer sh H E gd rm =>
   ((mss_cons (ms_set (i := 1) sc_law.nd rfl (by first | exact .inl rfl | exact .inr rfl) (me_fn h__law_reel gd rm (by decide) (by rfl) (ma_cons (me_var (pv 0)) ma_nil)))
    (mss_cons (ms_for PassesOwn.never rfl (mi_range (by rfl) Z.z_range (ma_cons me_int ma_nil)) (mg_name (i := 2) sc_law.nd rfl (by first | exact .inl rfl | exact .inr rfl)) (mss_cons (ms_set (i := 3) sc_law.nd rfl (by first | exact .inl rfl | exact .inr rfl) (me_fnC h__law_book gd rm (by decide) (by rfl) (ma_cons (me_var (pv 1)) (ma_cons (me_qadd me_int (me_fnC h__law_draw gd rm (by decide) (by rfl) (ma_cons (me_var (pv 1)) (ma_cons me_int ma_nil)))) ma_nil))))
    (mss_cons (ms_set (i := 4) sc_law.nd rfl (by first | exact .inl rfl | exact .inr rfl) (me_qaddD (me_qlst (ma_cons (me_var (pv 3)) ma_nil)) (me_lcQ (own := [("nth", 5)]) rfl sc_law.nd (mi_range (by rfl) Z.z_range (ma_cons me_int ma_nil)) (blkOk_by (N := ["script", "reel", "turn", "book", "values", "nth", "other", "two", "at", "kind", "value", "ends", "things", "told", "own"]) (sc := defScope s_law) (by decide +kernel)) (fun _ _ _ _ _ => (mg_name (i := 5) sc_law.nd rfl (by first | exact .inl rfl | exact .inr rfl))) (fun _ _ _ _ _ => mts_nil) (fun _ _ _ _ _ => (me_fnC h__law_spoilt gd rm (by decide) (by rfl) (ma_cons (me_var (pv 1)) (ma_cons (me_var (pv 3)) ma_nil)))) (by decide))))
    (mss_cons (ms_set (i := 6) sc_law.nd rfl (by first | exact .inl rfl | exact .inr rfl) (me_fnC h__law_book gd rm (by decide) (by rfl) (ma_cons (me_var (pv 1)) (ma_cons me_int ma_nil))))
    (mss_cons (ms_set (i := 7) sc_law.nd rfl (by first | exact .inl rfl | exact .inr rfl) (me_slice (me_fnC h__law_mixed gd rm (by decide) (by rfl) (ma_cons (me_var (pv 1)) (ma_cons (me_listR rfl (by rfl) Z.z_list (by rfl) Z.z_range me_int) ma_nil))) mo_none (mo_some me_int)))
    (mss_cons (ms_expr (me_append (me_var (pv 4)) (ma_cons (me_qtuple (by rfl) Z.z_tuple (ma_cons (me_lcQ (own := [("at", 8), ("kind", 9)]) rfl sc_law.nd (mi_enum (by rfl) Z.z_enumerate (ma_cons (me_var (pv 6)) ma_nil)) (blkOk_by (N := ["script", "reel", "turn", "book", "values", "nth", "other", "two", "at", "kind", "value", "ends", "things", "told", "own"]) (sc := defScope s_law) (by decide +kernel)) (fun _ _ _ _ _ => (mg_tup rfl (mgs_cons (mg_name (i := 8) sc_law.nd rfl (by first | exact .inl rfl | exact .inr rfl)) (mgs_cons (mg_name (i := 9) sc_law.nd rfl (by first | exact .inl rfl | exact .inr rfl)) mgs_nil)))) (fun _ _ _ _ _ => mts_nil) (fun _ _ _ _ _ => (me_ite (mb_in rm (me_var (pv 8)) (me_var (pv 7))) (me_fnC h__law_odd_kind gd rm (by decide) (by rfl) (ma_cons (me_var (pv 1)) (ma_cons (me_var (pv 9)) ma_nil))) (me_var (pv 9)))) (by decide)) ma_nil)) ma_nil)))
    (mss_one (ms_forR PassesOwn.never rfl (me_var (pv 4)) (mg_name (i := 10) sc_law.nd rfl (by first | exact .inl rfl | exact .inr rfl)) (mss_one (ms_if (mb_not (mb_val (me_fnC h__law_is_told gd rm (by decide) (by rfl) (ma_cons (me_var (pv 10)) (ma_cons (me_qeq rm (me_mod (me_var (pv 2)) me_int) me_int) ma_nil))))) (mss_one (ms_ret me_bl)) mss_nil))))))))))
    (mss_cons (ms_set (i := 11) sc_law.nd rfl (by first | exact .inl rfl | exact .inr rfl) (me_lst (ma_cons (me_repT (me_tup (ma_cons (me_tup (ma_cons (me_pow me_int me_int) (ma_cons me_int ma_nil))) ma_nil)) me_int) (ma_cons (me_repT (me_tup (ma_cons (me_tup (ma_cons (me_pow me_int me_int) (ma_cons me_int ma_nil))) ma_nil)) me_int) (ma_cons (me_tup (ma_cons (me_tup (ma_cons me_int (ma_cons me_int ma_nil))) ma_nil)) (ma_cons (me_tup (ma_cons (me_tup (ma_cons (me_add (me_pow me_int me_int) me_int) (ma_cons me_int ma_nil))) ma_nil)) (ma_cons (me_add (me_tup (ma_cons me_non ma_nil)) (me_repT (me_tup (ma_cons (me_tup (ma_cons me_int (ma_cons me_int ma_nil))) ma_nil)) me_int)) ma_nil)))))))
    (mss_cons (ms_if (mb_qne rm (me_lcQ (own := [("value", 10)]) rfl sc_law.nd (mi_qseq (me_var (pv 11))) (blkOk_by (N := ["script", "reel", "turn", "book", "values", "nth", "other", "two", "at", "kind", "value", "ends", "things", "told", "own"]) (sc := defScope s_law) (by decide +kernel)) (fun _ _ _ _ _ => (mg_name (i := 10) sc_law.nd rfl (by first | exact .inl rfl | exact .inr rfl))) (fun _ _ _ _ _ => (mts_one (mb_not (mb_val (me_fnC h__law_is_told gd rm (by decide) (by rfl) (ma_cons (me_var (pv 10)) (ma_cons me_bl ma_nil))))))) (fun _ _ _ _ _ => (me_var (pv 10))) (by decide)) (me_lst ma_nil)) (mss_one (ms_ret me_bl)) mss_nil)
    (mss_cons (ms_set (i := 12) sc_law.nd rfl (by first | exact .inl rfl | exact .inr rfl) (me_qlst (ma_cons (me_mk0 Z.q0_0 (by rfl) (by decide)) (ma_cons (me_newQ h_Desk____init__ gd rm (by decide) (by rfl) (ma_cons (me_tup (ma_cons (me_tup (ma_cons me_int (ma_cons me_int ma_nil))) (ma_cons (me_tup (ma_cons me_int (ma_cons me_int ma_nil))) ma_nil))) ma_nil)) ma_nil))))
    (mss_cons (ms_set (i := 13) sc_law.nd rfl (by first | exact .inl rfl | exact .inr rfl) (me_newD ma_nil))
    (mss_cons (ms_for PassesOwn.never rfl (mi_qseq (me_var (pv 12))) (mg_name (i := 14) sc_law.nd rfl (by first | exact .inl rfl | exact .inr rfl)) (mss_one (ms_expr (me_append (me_var (pv 13)) (ma_cons (me_qlst (ma_cons (me_fnC h_book_error gd rm (by decide) (by rfl) (ma_cons (me_var (pv 14)) ma_nil)) (ma_cons (me_fnC h_book_error gd rm (by decide) (by rfl) (ma_cons (me_qtup (ma_cons (me_tup (ma_cons me_int (ma_cons me_int ma_nil))) (ma_cons (me_var (pv 14)) ma_nil))) ma_nil)) (ma_cons (me_fnC h_book_error gd rm (by decide) (by rfl) (ma_cons (me_qtup (ma_cons (me_qtup (ma_cons (me_var (pv 14)) (ma_cons me_int ma_nil))) ma_nil)) ma_nil)) (ma_cons (me_fnC h_book_error gd rm (by decide) (by rfl) (ma_cons (me_qtup (ma_cons (me_qtup (ma_cons me_int (ma_cons (me_var (pv 14)) ma_nil))) ma_nil)) ma_nil)) ma_nil))))) ma_nil)))))
    (mss_one (ms_ret (me_qeq rm (me_qrepr gd rm (by rfl) Z.z_repr (ma_cons (me_var (pv 13)) ma_nil)) (me_qrepr gd rm (by rfl) Z.z_repr (ma_cons (me_mul (me_lst (ma_cons (me_lst (ma_cons me_str (ma_cons (me_tup (ma_cons me_str (ma_cons me_int ma_nil))) (ma_cons (me_tup (ma_cons me_str (ma_cons me_int ma_nil))) (ma_cons (me_tup (ma_cons me_str (ma_cons me_int ma_nil))) ma_nil))))) ma_nil)) me_int) ma_nil)))))))))))) : MSs _ (defBody s_law) b_law)
end
/-- what the top has written -/
theorem all_mk {P : Program} {w : World} {K : PySem.W.Frag} {h : Heap} {mg : Str → Option Value} {fa : Addr} (X : K.In h) (G : h.Ns mainGlobals mg) (hfa : mg "law" = some (.ref fa))
    {f0 : Addr} {od0 an0 : Option Addr} {sl0 : Array (Option Value)} {oc0 kV0 dc0 pm0 cd0 ct0 : Value}
    (a0 : PySem.W.nsIn K mainGlobals "_law_reel" = some (some (.ref f0))) (l0 : K.lookup f0 = some ⟨oc0, od0, .func (PySem.W.fnOf "_law_reel" "_law_reel" (defArgs s__law_reel) (defBody s__law_reel) (defScope s__law_reel) .none kV0 dc0 pm0 an0 cd0 ct0), sl0⟩) (c0 : PySem.W.codeIn K cd0 "_law_reel" = true) (k0 : PySem.W.keepIn K (.ref f0) = true)
    {f1 : Addr} {od1 an1 : Option Addr} {sl1 : Array (Option Value)} {oc1 kV1 dc1 pm1 cd1 ct1 : Value}
    (a1 : PySem.W.nsIn K mainGlobals "_law_draw" = some (some (.ref f1))) (l1 : K.lookup f1 = some ⟨oc1, od1, .func (PySem.W.fnOf "_law_draw" "_law_draw" (defArgs s__law_draw) (defBody s__law_draw) (defScope s__law_draw) .none kV1 dc1 pm1 an1 cd1 ct1), sl1⟩) (c1 : PySem.W.codeIn K cd1 "_law_draw" = true) (k1 : PySem.W.keepIn K (.ref f1) = true)
    {f2 : Addr} {od2 an2 : Option Addr} {sl2 : Array (Option Value)} {oc2 kV2 dc2 pm2 cd2 ct2 : Value}
    (a2 : PySem.W.nsIn K mainGlobals "_law_pick" = some (some (.ref f2))) (l2 : K.lookup f2 = some ⟨oc2, od2, .func (PySem.W.fnOf "_law_pick" "_law_pick" (defArgs s__law_pick) (defBody s__law_pick) (defScope s__law_pick) .none kV2 dc2 pm2 an2 cd2 ct2), sl2⟩) (c2 : PySem.W.codeIn K cd2 "_law_pick" = true) (k2 : PySem.W.keepIn K (.ref f2) = true)
    {f3 : Addr} {od3 an3 : Option Addr} {sl3 : Array (Option Value)} {oc3 kV3 dc3 pm3 cd3 ct3 : Value}
    (a3 : PySem.W.nsIn K mainGlobals "_law_size" = some (some (.ref f3))) (l3 : K.lookup f3 = some ⟨oc3, od3, .func (PySem.W.fnOf "_law_size" "_law_size" (defArgs s__law_size) (defBody s__law_size) (defScope s__law_size) .none kV3 dc3 pm3 an3 cd3 ct3), sl3⟩) (c3 : PySem.W.codeIn K cd3 "_law_size" = true) (k3 : PySem.W.keepIn K (.ref f3) = true)
    {f4 : Addr} {od4 an4 : Option Addr} {sl4 : Array (Option Value)} {oc4 kV4 dc4 pm4 cd4 ct4 : Value}
    (a4 : PySem.W.nsIn K mainGlobals "_law_book" = some (some (.ref f4))) (l4 : K.lookup f4 = some ⟨oc4, od4, .func (PySem.W.fnOf "_law_book" "_law_book" (defArgs s__law_book) (defBody s__law_book) (defScope s__law_book) .none kV4 dc4 pm4 an4 cd4 ct4), sl4⟩) (c4 : PySem.W.codeIn K cd4 "_law_book" = true) (k4 : PySem.W.keepIn K (.ref f4) = true)
    {f6 : Addr} {od6 an6 : Option Addr} {sl6 : Array (Option Value)} {oc6 kV6 dc6 pm6 cd6 ct6 : Value}
    (a6 : PySem.W.nsIn K mainGlobals "_law_far" = some (some (.ref f6))) (l6 : K.lookup f6 = some ⟨oc6, od6, .func (PySem.W.fnOf "_law_far" "_law_far" (defArgs s__law_far) (defBody s__law_far) (defScope s__law_far) .none kV6 dc6 pm6 an6 cd6 ct6), sl6⟩) (c6 : PySem.W.codeIn K cd6 "_law_far" = true) (k6 : PySem.W.keepIn K (.ref f6) = true)
    {f7 : Addr} {od7 an7 : Option Addr} {sl7 : Array (Option Value)} {oc7 kV7 dc7 pm7 cd7 ct7 : Value}
    (a7 : PySem.W.nsIn K mainGlobals "_law_odd_kind" = some (some (.ref f7))) (l7 : K.lookup f7 = some ⟨oc7, od7, .func (PySem.W.fnOf "_law_odd_kind" "_law_odd_kind" (defArgs s__law_odd_kind) (defBody s__law_odd_kind) (defScope s__law_odd_kind) .none kV7 dc7 pm7 an7 cd7 ct7), sl7⟩) (c7 : PySem.W.codeIn K cd7 "_law_odd_kind" = true) (k7 : PySem.W.keepIn K (.ref f7) = true)
    {f8 : Addr} {od8 an8 : Option Addr} {sl8 : Array (Option Value)} {oc8 kV8 dc8 pm8 cd8 ct8 : Value}
    (a8 : PySem.W.nsIn K mainGlobals "_law_spoilt" = some (some (.ref f8))) (l8 : K.lookup f8 = some ⟨oc8, od8, .func (PySem.W.fnOf "_law_spoilt" "_law_spoilt" (defArgs s__law_spoilt) (defBody s__law_spoilt) (defScope s__law_spoilt) .none kV8 dc8 pm8 an8 cd8 ct8), sl8⟩) (c8 : PySem.W.codeIn K cd8 "_law_spoilt" = true) (k8 : PySem.W.keepIn K (.ref f8) = true)
    {f9 : Addr} {od9 an9 : Option Addr} {sl9 : Array (Option Value)} {oc9 kV9 dc9 pm9 cd9 ct9 : Value}
    (a9 : PySem.W.nsIn K mainGlobals "_law_mixed" = some (some (.ref f9))) (l9 : K.lookup f9 = some ⟨oc9, od9, .func (PySem.W.fnOf "_law_mixed" "_law_mixed" (defArgs s__law_mixed) (defBody s__law_mixed) (defScope s__law_mixed) .none kV9 dc9 pm9 an9 cd9 ct9), sl9⟩) (c9 : PySem.W.codeIn K cd9 "_law_mixed" = true) (k9 : PySem.W.keepIn K (.ref f9) = true)
    {f10 : Addr} {od10 an10 : Option Addr} {sl10 : Array (Option Value)} {oc10 kV10 dc10 pm10 cd10 ct10 : Value}
    (a10 : PySem.W.nsIn K mainGlobals "_law_is_int" = some (some (.ref f10))) (l10 : K.lookup f10 = some ⟨oc10, od10, .func (PySem.W.fnOf "_law_is_int" "_law_is_int" (defArgs s__law_is_int) (defBody s__law_is_int) (defScope s__law_is_int) .none kV10 dc10 pm10 an10 cd10 ct10), sl10⟩) (c10 : PySem.W.codeIn K cd10 "_law_is_int" = true) (k10 : PySem.W.keepIn K (.ref f10) = true)
    {f11 : Addr} {od11 an11 : Option Addr} {sl11 : Array (Option Value)} {oc11 kV11 dc11 pm11 cd11 ct11 : Value}
    (a11 : PySem.W.nsIn K mainGlobals "_law_is_kind" = some (some (.ref f11))) (l11 : K.lookup f11 = some ⟨oc11, od11, .func (PySem.W.fnOf "_law_is_kind" "_law_is_kind" (defArgs s__law_is_kind) (defBody s__law_is_kind) (defScope s__law_is_kind) .none kV11 dc11 pm11 an11 cd11 ct11), sl11⟩) (c11 : PySem.W.codeIn K cd11 "_law_is_kind" = true) (k11 : PySem.W.keepIn K (.ref f11) = true)
    {f12 : Addr} {od12 an12 : Option Addr} {sl12 : Array (Option Value)} {oc12 kV12 dc12 pm12 cd12 ct12 : Value}
    (a12 : PySem.W.nsIn K mainGlobals "_law_fault" = some (some (.ref f12))) (l12 : K.lookup f12 = some ⟨oc12, od12, .func (PySem.W.fnOf "_law_fault" "_law_fault" (defArgs s__law_fault) (defBody s__law_fault) (defScope s__law_fault) .none kV12 dc12 pm12 an12 cd12 ct12), sl12⟩) (c12 : PySem.W.codeIn K cd12 "_law_fault" = true) (k12 : PySem.W.keepIn K (.ref f12) = true)
    {f13 : Addr} {od13 an13 : Option Addr} {sl13 : Array (Option Value)} {oc13 kV13 dc13 pm13 cd13 ct13 : Value}
    (a13 : PySem.W.nsIn K mainGlobals "is_tuple_within" = some (some (.ref f13))) (l13 : K.lookup f13 = some ⟨oc13, od13, .func (PySem.W.fnOf "is_tuple_within" "is_tuple_within" (defArgs s_is_tuple_within) (defBody s_is_tuple_within) (defScope s_is_tuple_within) .none kV13 dc13 pm13 an13 cd13 ct13), sl13⟩) (c13 : PySem.W.codeIn K cd13 "is_tuple_within" = true) (k13 : PySem.W.keepIn K (.ref f13) = true)
    {f14 : Addr} {od14 an14 : Option Addr} {sl14 : Array (Option Value)} {oc14 kV14 dc14 pm14 cd14 ct14 : Value}
    (a14 : PySem.W.nsIn K mainGlobals "is_integer" = some (some (.ref f14))) (l14 : K.lookup f14 = some ⟨oc14, od14, .func (PySem.W.fnOf "is_integer" "is_integer" (defArgs s_is_integer) (defBody s_is_integer) (defScope s_is_integer) .none kV14 dc14 pm14 an14 cd14 ct14), sl14⟩) (c14 : PySem.W.codeIn K cd14 "is_integer" = true) (k14 : PySem.W.keepIn K (.ref f14) = true)
    {f15 : Addr} {od15 an15 : Option Addr} {sl15 : Array (Option Value)} {oc15 kV15 dc15 pm15 cd15 ct15 : Value}
    (a15 : PySem.W.nsIn K mainGlobals "is_integer_within" = some (some (.ref f15))) (l15 : K.lookup f15 = some ⟨oc15, od15, .func (PySem.W.fnOf "is_integer_within" "is_integer_within" (defArgs s_is_integer_within) (defBody s_is_integer_within) (defScope s_is_integer_within) .none kV15 dc15 pm15 an15 cd15 ct15), sl15⟩) (c15 : PySem.W.codeIn K cd15 "is_integer_within" = true) (k15 : PySem.W.keepIn K (.ref f15) = true)
    {f16 : Addr} {od16 an16 : Option Addr} {sl16 : Array (Option Value)} {oc16 kV16 dc16 pm16 cd16 ct16 : Value}
    (a16 : PySem.W.nsIn K mainGlobals "is_size" = some (some (.ref f16))) (l16 : K.lookup f16 = some ⟨oc16, od16, .func (PySem.W.fnOf "is_size" "is_size" (defArgs s_is_size) (defBody s_is_size) (defScope s_is_size) .none kV16 dc16 pm16 an16 cd16 ct16), sl16⟩) (c16 : PySem.W.codeIn K cd16 "is_size" = true) (k16 : PySem.W.keepIn K (.ref f16) = true)
    {f17 : Addr} {od17 an17 : Option Addr} {sl17 : Array (Option Value)} {oc17 kV17 dc17 pm17 cd17 ct17 : Value}
    (a17 : PySem.W.nsIn K mainGlobals "is_alignment" = some (some (.ref f17))) (l17 : K.lookup f17 = some ⟨oc17, od17, .func (PySem.W.fnOf "is_alignment" "is_alignment" (defArgs s_is_alignment) (defBody s_is_alignment) (defScope s_is_alignment) .none kV17 dc17 pm17 an17 cd17 ct17), sl17⟩) (c17 : PySem.W.codeIn K cd17 "is_alignment" = true) (k17 : PySem.W.keepIn K (.ref f17) = true)
    {f18 : Addr} {od18 an18 : Option Addr} {sl18 : Array (Option Value)} {oc18 kV18 dc18 pm18 cd18 ct18 : Value}
    (a18 : PySem.W.nsIn K mainGlobals "is_kind" = some (some (.ref f18))) (l18 : K.lookup f18 = some ⟨oc18, od18, .func (PySem.W.fnOf "is_kind" "is_kind" (defArgs s_is_kind) (defBody s_is_kind) (defScope s_is_kind) .none kV18 dc18 pm18 an18 cd18 ct18), sl18⟩) (c18 : PySem.W.codeIn K cd18 "is_kind" = true) (k18 : PySem.W.keepIn K (.ref f18) = true)
    {f19 : Addr} {od19 an19 : Option Addr} {sl19 : Array (Option Value)} {oc19 kV19 dc19 pm19 cd19 ct19 : Value}
    (a19 : PySem.W.nsIn K mainGlobals "book_error" = some (some (.ref f19))) (l19 : K.lookup f19 = some ⟨oc19, od19, .func (PySem.W.fnOf "book_error" "book_error" (defArgs s_book_error) (defBody s_book_error) (defScope s_book_error) .none kV19 dc19 pm19 an19 cd19 ct19), sl19⟩) (c19 : PySem.W.codeIn K cd19 "book_error" = true) (k19 : PySem.W.keepIn K (.ref f19) = true)
    {f20 : Addr} {od20 an20 : Option Addr} {sl20 : Array (Option Value)} {oc20 kV20 dc20 pm20 cd20 ct20 : Value}
    (a20 : PySem.W.nsIn K mainGlobals "_law_is_told" = some (some (.ref f20))) (l20 : K.lookup f20 = some ⟨oc20, od20, .func (PySem.W.fnOf "_law_is_told" "_law_is_told" (defArgs s__law_is_told) (defBody s__law_is_told) (defScope s__law_is_told) .none kV20 dc20 pm20 an20 cd20 ct20), sl20⟩) (c20 : PySem.W.codeIn K cd20 "_law_is_told" = true) (k20 : PySem.W.keepIn K (.ref f20) = true)
    {f21 : Addr} {od21 an21 : Option Addr} {sl21 : Array (Option Value)} {oc21 kV21 dc21 pm21 cd21 ct21 : Value}
    {C_Desk : Addr} (xa_Desk : PySem.W.nsIn K mainGlobals "Desk" = some (some (.ref C_Desk))) (xk_Desk : PySem.W.keepIn K (.ref C_Desk) = true) (ca_Desk : CA K "Desk" = some C_Desk)
    (a21 : PySem.W.findIn K (.ref C_Desk) "__init__" = some (some (.ref f21))) (l21 : K.lookup f21 = some ⟨oc21, od21, .func (PySem.W.fnOf "__init__" "Desk.__init__" (defArgs s_Desk____init__) (defBody s_Desk____init__) (defScope s_Desk____init__) .none kV21 dc21 pm21 an21 cd21 ct21), sl21⟩) (c21 : PySem.W.codeIn K cd21 "Desk.__init__" = true) (k21 : PySem.W.keepIn K (.ref f21) = true)
    (im21 : PySem.W.makesIn K C_Desk = true) (ifn21 : PySem.W.isFn K (.ref f21) = true)
    {f22 : Addr} {od22 an22 : Option Addr} {sl22 : Array (Option Value)} {oc22 kV22 dc22 pm22 cd22 ct22 : Value}
    (a22 : PySem.W.nsIn K mainGlobals "law" = some (some (.ref f22))) (l22 : K.lookup f22 = some ⟨oc22, od22, .func (PySem.W.fnOf "law" "law" (defArgs s_law) (defBody s_law) (defScope s_law) .none kV22 dc22 pm22 an22 cd22 ct22), sl22⟩) (c22 : PySem.W.codeIn K cd22 "law" = true) (k22 : PySem.W.keepIn K (.ref f22) = true)
    (z_isinstance : PySem.W.nsIn K mainGlobals "isinstance" = some none)
    (z_int : PySem.W.nsIn K mainGlobals "int" = some none)
    (z_bool : PySem.W.nsIn K mainGlobals "bool" = some none)
    (z_tuple : PySem.W.nsIn K mainGlobals "tuple" = some none)
    (z_len : PySem.W.nsIn K mainGlobals "len" = some none)
    (z_enumerate : PySem.W.nsIn K mainGlobals "enumerate" = some none)
    (z_range : PySem.W.nsIn K mainGlobals "range" = some none)
    (z_list : PySem.W.nsIn K mainGlobals "list" = some none)
    (z_max : PySem.W.nsIn K mainGlobals "max" = some none)
    (z_min : PySem.W.nsIn K mainGlobals "min" = some none)
    (z_str : PySem.W.nsIn K mainGlobals "str" = some none)
    (z_repr : PySem.W.nsIn K mainGlobals "repr" = some none)
    {gt_MAX_SIZE : Tok} (g_MAX_SIZE : PySem.W.nsIn K mainGlobals "MAX_SIZE" = some (some (.int 1000000000000000000000000000000 gt_MAX_SIZE)))
    {ga_ALIGNMENTS : Addr} {gn_ALIGNMENTS : Nat} {gs_ALIGNMENTS : Array (Option Value)} {gt0_ALIGNMENTS gt1_ALIGNMENTS gt2_ALIGNMENTS gt3_ALIGNMENTS gt4_ALIGNMENTS gt5_ALIGNMENTS gt6_ALIGNMENTS : Tok} (g_ALIGNMENTS : PySem.W.nsIn K mainGlobals "ALIGNMENTS" = some (some (.ref ga_ALIGNMENTS)))
    (gl_ALIGNMENTS : K.lookup ga_ALIGNMENTS = some ⟨.type "tuple", none, .seq #[.int 1 gt0_ALIGNMENTS, .int 2 gt1_ALIGNMENTS, .int 4 gt2_ALIGNMENTS, .int 8 gt3_ALIGNMENTS, .int 16 gt4_ALIGNMENTS, .int 32 gt5_ALIGNMENTS, .int 64 gt6_ALIGNMENTS] gn_ALIGNMENTS, gs_ALIGNMENTS⟩)
    {gt_MAX_KINDS : Tok} (g_MAX_KINDS : PySem.W.nsIn K mainGlobals "MAX_KINDS" = some (some (.int 6 gt_MAX_KINDS)))
    {C_Unfit : Addr}
    (xa_Unfit : PySem.W.nsIn K mainGlobals "Unfit" = some (some (.ref C_Unfit)))
    (xk_Unfit : PySem.W.keepIn K (.ref C_Unfit) = true)
    (xs_Unfit : PySem.W.subIn K (.ref C_Unfit) (.type "BaseException") = some true)
    (xt_Unfit : PySem.W.typeIn K (.ref C_Unfit) = some (.type "type"))
    (xi_Unfit : PySem.W.isClsIn K C_Unfit = true)
    (xg_Unfit : PySem.W.findIn K (.ref C_Unfit) "__getattribute__" = some (some (.builtin "BaseException.__getattribute__")))
    (xh_Unfit : PySem.W.findIn K (.ref C_Unfit) "__getattr__" = some none)
    (xc_Unfit : PySem.W.findIn K (.ref C_Unfit) "__class__" = some (some (.builtin "object.__class__")))
    (xm_Unfit : PySem.W.mroIn K C_Unfit (.type "object") = some true)
    (xsp : PySem.W.specialIn K (.builtin "object.__class__") "__get__" = some (some (.builtin "getset_descriptor.__get__")))
    (xtk : PySem.W.takesIn K (.builtin "object.__class__") = some true)
    (ca_Unfit : CA K "Unfit" = some C_Unfit)
    (xe_Unfit : PySem.W.excIn K C_Unfit tailVE "ValueError.__new__" = true)
    (qx_all : ((qt_int : List (Str × Bool)).map (·.1)).all (exqB K) = true)
    (qt_int : isqB K (.type "int") qt_int = true)
    (qj_int : isjB K "int" [("Desk", false)] = true)
    (qt_bool : isqB K (.type "bool") qt_bool = true)
    (qj_bool : isjB K "bool" [("Desk", false)] = true)
    (qt_tuple : isqB K (.type "tuple") qt_tuple = true)
    (qj_tuple : isjB K "tuple" [("Desk", false)] = true)
    (ipg_Desk : PySem.W.plainGet K C_Desk Str.empty = true)
    (ihd_Desk : PySem.W.hasDictIn K C_Desk = true)
    (ipo_Desk : PySem.W.plainOver K C_Desk = true)
    (isa_Desk : PySem.W.findIn K (.ref C_Desk) "__setattr__" = some (some (.builtin "object.__setattr__")))
    (ina_Desk__books : PySem.W.findIn K (.ref C_Desk) "_books" = some none)
    (ina_Desk__edits : PySem.W.findIn K (.ref C_Desk) "_edits" = some none)
    (ina_Desk__undone : PySem.W.findIn K (.ref C_Desk) "_undone" = some none)
    : ∃ fd : FuncData, (∀ (s : Shared) (v : Value), BindsTo s fd ⟨[v], []⟩ [("script", v)]) ∧ ∀ base : Heap, K.In base → base.Ns mainGlobals mg → FnG P w K mg base 8 fa fd ["script"] (spM K d_law) := by
  cases hfa.symm.trans (PySem.W.mg_of X G a22)
  have E_Unfit : ExF K C_Unfit := exf_of xk_Unfit xs_Unfit xt_Unfit xi_Unfit xg_Unfit xh_Unfit xc_Unfit xsp xtk xm_Unfit
  have Z : Zs K mg := ⟨PySem.W.mg_none_of X G z_isinstance, PySem.W.mg_none_of X G z_int, PySem.W.mg_none_of X G z_bool, PySem.W.mg_none_of X G z_tuple, PySem.W.mg_none_of X G z_len, PySem.W.mg_none_of X G z_enumerate, PySem.W.mg_none_of X G z_range, PySem.W.mg_none_of X G z_list, PySem.W.mg_none_of X G z_max, PySem.W.mg_none_of X G z_min, PySem.W.mg_none_of X G z_str, PySem.W.mg_none_of X G z_repr, glc_int X G g_MAX_SIZE, glc_tup (is := [1, 2, 4, 8, 16, 32, 64]) X G g_ALIGNMENTS gl_ALIGNMENTS (show 7 ≤ sizeLine by decide) (.cons ⟨_, rfl⟩ (.cons ⟨_, rfl⟩ (.cons ⟨_, rfl⟩ (.cons ⟨_, rfl⟩ (.cons ⟨_, rfl⟩ (.cons ⟨_, rfl⟩ (.cons ⟨_, rfl⟩ .nil))))))), glc_int X G g_MAX_KINDS, ⟨C_Unfit, (PySem.W.mg_of X G xa_Unfit), ca_Unfit, xk_Unfit, xe_Unfit⟩, isqT_of (fun _ h => h) qx_all qt_int, isjT_of qj_int, isqT_of (fun _ h => h) qx_all qt_bool, isjT_of qj_bool, isqT_of (fun _ h => h) qx_all qt_tuple, isjT_of qj_tuple, fun C h => by cases ca_Desk.symm.trans h; exact ⟨ipg_Desk, ihd_Desk, ipo_Desk, isa_Desk⟩, fun C h => by cases ca_Desk.symm.trans h; exact ina_Desk__books, fun C h => by cases ca_Desk.symm.trans h; exact ina_Desk__edits, fun C h => by cases ca_Desk.symm.trans h; exact ina_Desk__undone⟩
  refine ⟨PySem.W.fnOf "law" "law" (defArgs s_law) (defBody s_law) (defScope s_law) .none kV22 dc22 pm22 an22 cd22 ct22, fun s v => .of_eq rfl, fun base _ _ => ?_⟩
  have F0 := fun_mk (st := s__law_reel) l0 c0 k0
  have h0 : Kn P w K mg base 1 "_law_reel" s__law_reel ["script"] d__law_reel := ⟨_, _, ok__law_reel Z  F0, PySem.W.mg_of X G a0, F0, F0.binds fun _ _ _ _ _ _ us hl => match us, hl with | [_], _ => rfl⟩
  have F1 := fun_mk (st := s__law_draw) l1 c1 k1
  have h1 : Kn P w K mg base 1 "_law_draw" s__law_draw ["reel", "many"] d__law_draw := ⟨_, _, ok__law_draw Z  F1, PySem.W.mg_of X G a1, F1, F1.binds fun _ _ _ _ _ _ us hl => match us, hl with | [_, _], _ => rfl⟩
  have F2 := fun_mk (st := s__law_pick) l2 c2 k2
  have h2 : Kn P w K mg base 2 "_law_pick" s__law_pick ["reel", "things"] d__law_pick := ⟨_, _, ok__law_pick Z h1 F2, PySem.W.mg_of X G a2, F2, F2.binds fun _ _ _ _ _ _ us hl => match us, hl with | [_, _], _ => rfl⟩
  have F3 := fun_mk (st := s__law_size) l3 c3 k3
  have h3 : Kn P w K mg base 3 "_law_size" s__law_size ["reel", "step"] d__law_size := ⟨_, _, ok__law_size Z h1 h2 F3, PySem.W.mg_of X G a3, F3, F3.binds fun _ _ _ _ _ _ us hl => match us, hl with | [_, _], _ => rfl⟩
  have F4 := fun_mk (st := s__law_book) l4 c4 k4
  have h4 : Kn P w K mg base 4 "_law_book" s__law_book ["reel", "many"] d__law_book := ⟨_, _, ok__law_book Z h2 h3 h1 F4, PySem.W.mg_of X G a4, F4, F4.binds fun _ _ _ _ _ _ us hl => match us, hl with | [_, _], _ => rfl⟩
  have F5 := fun_mk (st := s__law_pick_v) l2 c2 k2
  have h5 : Kn P w K mg base 2 "_law_pick" s__law_pick_v ["reel", "things"] d__law_pick_v := ⟨_, _, ok__law_pick_v Z h1 F5, PySem.W.mg_of X G a2, F5, F5.binds fun _ _ _ _ _ _ us hl => match us, hl with | [_, _], _ => rfl⟩
  have F6 := fun_mk (st := s__law_far) l6 c6 k6
  have h6 : Kn P w K mg base 1 "_law_far" s__law_far [] d__law_far := ⟨_, _, ok__law_far Z  F6, PySem.W.mg_of X G a6, F6, F6.binds fun _ _ _ _ _ _ us hl => match us, hl with | [], _ => rfl⟩
  have F7 := fun_mk (st := s__law_odd_kind) l7 c7 k7
  have h7 : Kn P w K mg base 3 "_law_odd_kind" s__law_odd_kind ["reel", "kind"] d__law_odd_kind := ⟨_, _, ok__law_odd_kind Z h6 h5 F7, PySem.W.mg_of X G a7, F7, F7.binds fun _ _ _ _ _ _ us hl => match us, hl with | [_, _], _ => rfl⟩
  have F8 := fun_mk (st := s__law_spoilt) l8 c8 k8
  have h8 : Kn P w K mg base 4 "_law_spoilt" s__law_spoilt ["reel", "book"] d__law_spoilt := ⟨_, _, ok__law_spoilt Z h1 h5 h7 F8, PySem.W.mg_of X G a8, F8, F8.binds fun _ _ _ _ _ _ us hl => match us, hl with | [_, _], _ => rfl⟩
  have F9 := fun_mk (st := s__law_mixed) l9 c9 k9
  have h9 : Kn P w K mg base 2 "_law_mixed" s__law_mixed ["reel", "things"] d__law_mixed := ⟨_, _, ok__law_mixed Z h1 F9, PySem.W.mg_of X G a9, F9, F9.binds fun _ _ _ _ _ _ us hl => match us, hl with | [_, _], _ => rfl⟩
  have F10 := fun_mk (st := s__law_is_int) l10 c10 k10
  have h10 : Kn P w K mg base 1 "_law_is_int" s__law_is_int ["value", "low", "high"] d__law_is_int := ⟨_, _, ok__law_is_int Z  F10, PySem.W.mg_of X G a10, F10, F10.binds fun _ _ _ _ _ _ us hl => match us, hl with | [_, _, _], _ => rfl⟩
  have F11 := fun_mk (st := s__law_is_kind) l11 c11 k11
  have h11 : Kn P w K mg base 2 "_law_is_kind" s__law_is_kind ["value"] d__law_is_kind := ⟨_, _, ok__law_is_kind Z h10 F11, PySem.W.mg_of X G a11, F11, F11.binds fun _ _ _ _ _ _ us hl => match us, hl with | [_], _ => rfl⟩
  have F12 := fun_mk (st := s__law_fault) l12 c12 k12
  have h12 : Kn P w K mg base 3 "_law_fault" s__law_fault ["value"] d__law_fault := ⟨_, _, ok__law_fault Z h11 F12, PySem.W.mg_of X G a12, F12, F12.binds fun _ _ _ _ _ _ us hl => match us, hl with | [_], _ => rfl⟩
  have F13 := fun_mk (st := s_is_tuple_within) l13 c13 k13
  have h13 : Kn P w K mg base 1 "is_tuple_within" s_is_tuple_within ["value", "fewest", "most"] d_is_tuple_within := ⟨_, _, ok_is_tuple_within Z  F13, PySem.W.mg_of X G a13, F13, F13.binds fun _ _ _ _ _ _ us hl => match us, hl with | [_, _, _], _ => rfl⟩
  have F14 := fun_mk (st := s_is_integer) l14 c14 k14
  have h14 : Kn P w K mg base 1 "is_integer" s_is_integer ["value"] d_is_integer := ⟨_, _, ok_is_integer Z  F14, PySem.W.mg_of X G a14, F14, F14.binds fun _ _ _ _ _ _ us hl => match us, hl with | [_], _ => rfl⟩
  have F15 := fun_mk (st := s_is_integer_within) l15 c15 k15
  have h15 : Kn P w K mg base 2 "is_integer_within" s_is_integer_within ["value", "least", "greatest"] d_is_integer_within := ⟨_, _, ok_is_integer_within Z h14 F15, PySem.W.mg_of X G a15, F15, F15.binds fun _ _ _ _ _ _ us hl => match us, hl with | [_, _, _], _ => rfl⟩
  have F16 := fun_mk (st := s_is_size) l16 c16 k16
  have h16 : Kn P w K mg base 3 "is_size" s_is_size ["value"] d_is_size := ⟨_, _, ok_is_size Z h15 F16, PySem.W.mg_of X G a16, F16, F16.binds fun _ _ _ _ _ _ us hl => match us, hl with | [_], _ => rfl⟩
  have F17 := fun_mk (st := s_is_alignment) l17 c17 k17
  have h17 : Kn P w K mg base 2 "is_alignment" s_is_alignment ["value"] d_is_alignment := ⟨_, _, ok_is_alignment Z h14 F17, PySem.W.mg_of X G a17, F17, F17.binds fun _ _ _ _ _ _ us hl => match us, hl with | [_], _ => rfl⟩
  have F18 := fun_mk (st := s_is_kind) l18 c18 k18
  have h18 : Kn P w K mg base 4 "is_kind" s_is_kind ["value"] d_is_kind := ⟨_, _, ok_is_kind Z h13 h16 h17 F18, PySem.W.mg_of X G a18, F18, F18.binds fun _ _ _ _ _ _ us hl => match us, hl with | [_], _ => rfl⟩
  have F19 := fun_mk (st := s_book_error) l19 c19 k19
  have h19 : Kn P w K mg base 5 "book_error" s_book_error ["value"] d_book_error := ⟨_, _, ok_book_error Z h13 h18 F19, PySem.W.mg_of X G a19, F19, F19.binds fun _ _ _ _ _ _ us hl => match us, hl with | [_], _ => rfl⟩
  have F20 := fun_mk (st := s__law_is_told) l20 c20 k20
  have h20 : Kn P w K mg base 6 "_law_is_told" s__law_is_told ["value", "is_named"] d__law_is_told := ⟨_, _, ok__law_is_told Z h12 h19 F20, PySem.W.mg_of X G a20, F20, F20.binds fun _ _ _ _ _ _ us hl => match us, hl with | [_, _], _ => rfl⟩
  have F21 := fun_mk (st := s_Desk____init__) l21 c21 k21
  have h21 : KnI P w K mg base 6 "Desk" ["self", "book"] d_Desk____init__ := ⟨C_Desk, _, _, PySem.W.mg_of X G xa_Desk, ca_Desk, ⟨im21, a21, ifn21, xk_Desk⟩, ok_Desk____init__ Z h19 F21, F21.binds fun _ _ _ _ _ _ us hl => match us, hl with | [_, _], _ => rfl⟩
  have F22 := fun_mk (st := s_law) l22 c22 k22
  exact ok_law Z h0 h4 h1 h8 h9 h7 h20 h21 h19 F22
end K01
set_option Elab.async false
set_option linter.all false
set_option maxRecDepth 100000
namespace Yq
open PySem PySem.Spec L2 L3 Sh Wm
structure Wq (w k : Nat) (x : Dt) : Prop where
  ex : ∃ y, pd x = some y ∧ y.showable = true ∧ y.leavesShort 410 = true ∧ y.weight ≤ w ∧ y.depth ≤ k
structure WqA (w k : Nat) (xs : List Dt) : Prop where
  ex : ∃ ys, pds xs = some ys ∧ PyData.showableAll ys = true ∧ PyData.leavesShortAll 410 ys = true ∧ PyData.weightAll ys ≤ w ∧ PyData.depthAll ys ≤ k
theorem Wq.mono {w w' k k' : Nat} {x : Dt} (h : Wq w k x) (hw : w ≤ w') (hk : k ≤ k') : Wq w' k' x := by
  obtain ⟨y, h1, h2, h3, h4, h5⟩ := h.ex
  exact ⟨y, h1, h2, h3, by omega, by omega⟩
theorem WqA.mono {w w' k k' : Nat} {x : List Dt} (h : WqA w k x) (hw : w ≤ w') (hk : k ≤ k') : WqA w' k' x := by
  obtain ⟨y, h1, h2, h3, h4, h5⟩ := h.ex
  exact ⟨y, h1, h2, h3, by omega, by omega⟩
theorem wq_nil : WqA 0 0 [] := ⟨[], rfl, rfl, rfl, by simp [PyData.weightAll], by simp [PyData.depthAll]⟩
theorem wq_cons {w w' k : Nat} {x : Dt} {l : List Dt} (h : Wq w k x) (g : WqA w' k l) : WqA (w + 1 + w') k (x :: l) := by
  obtain ⟨y, h1, h2, h3, h4, h5⟩ := h.ex
  obtain ⟨ys, g1, g2, g3, g4, g5⟩ := g.ex
  refine ⟨y :: ys, by simp [pds, h1, g1], by simp [PyData.showableAll, h2, g2], by simp [PyData.leavesShortAll, h3, g3], ?_, ?_⟩
  · simp only [PyData.weightAll]
    omega
  · simp only [PyData.depthAll]
    omega
theorem wq_one {w k : Nat} {x : Dt} (h : Wq w k x) : WqA (w + 1) k [x] := (wq_cons h (wq_nil.mono (Nat.le_refl _) (Nat.zero_le _))).mono (by omega) (Nat.le_refl _)
theorem wq_all {w k : Nat} : ∀ {l : List Dt}, (∀ x ∈ l, Wq w k x) → WqA (l.length * (w + 1)) k l
  | [], _ => wq_nil.mono (by omega) (Nat.zero_le _)
  | x :: l, h => (wq_cons (h x List.mem_cons_self) (wq_all fun y hy => h y (List.mem_cons_of_mem _ hy))).mono (by rw [List.length_cons, Nat.succ_mul]; omega) (Nat.le_refl _)
theorem wq_lst {w k : Nat} {l : List Dt} (h : WqA w k l) : Wq w (k + 1) (.lst l) := by
  obtain ⟨ys, g1, g2, g3, g4, g5⟩ := h.ex
  refine ⟨.list ys, by simp [pd, g1], by simp [PyData.showable, g2], by simp [PyData.leavesShort, g3], by simp only [PyData.weight]; exact g4, by simp only [PyData.depth]; omega⟩
theorem wq_tup {w k : Nat} {l : List Dt} (h : WqA w k l) : Wq w (k + 1) (.tup l) := by
  obtain ⟨ys, g1, g2, g3, g4, g5⟩ := h.ex
  refine ⟨.tuple ys, by simp [pd, g1], by simp [PyData.showable, g2], by simp [PyData.leavesShort, g3], by simp only [PyData.weight]; exact g4, by simp only [PyData.depth]; omega⟩
def wqB (w k : Nat) (x : Dt) : Bool := match pd x with
  | some y => y.showable && (y.leavesShort 410 && (decide (y.weight ≤ w) && decide (y.depth ≤ k)))
  | none => false
theorem wqB_ok {w k : Nat} {x : Dt} (h : wqB w k x = true) : Wq w k x := by
  unfold wqB at h
  split at h
  · rename_i y e
    simp only [Bool.and_eq_true, decide_eq_true_eq] at h
    exact ⟨y, e, h.1, h.2.1, h.2.2.1, h.2.2.2⟩
  · cases h
theorem Wq.ok {w k : Nat} {x : Dt} (h : Wq w k x) (hw : w ≤ 30000) (hk : k ≤ 100) : ∃ y, pd x = some y ∧ OkShowQ y := by
  obtain ⟨y, h1, h2, h3, h4, h5⟩ := h.ex
  refine ⟨y, h1, h2, Nat.le_trans h5 hk, ?_⟩
  have := PyData.shown_le 410 (by omega) y h3
  rw [sizeLine_eq]
  have : (410 + 2) * y.weight ≤ 412 * 30000 := Nat.mul_le_mul (by omega) (by omega)
  omega
theorem wq_intB {i : Int} {b k : Nat} (hk1 : 1 ≤ k) (hk : k ≤ 400) (hb : b ≤ 1900) (h : i.natAbs < 10 ^ k) (hh : i.natAbs < 2 ^ b) : Wq (b + 1) 0 (.int i) := by
  have h2 : i.natAbs.log2 < b + 1 := by
    by_cases z : i.natAbs = 0
    · rw [z]
      exact Nat.succ_pos b
    · have := (Nat.log2_lt z).mpr hh
      omega
  refine ⟨.int i, rfl, ?_, ?_, ?_, by simp [PyData.depth]⟩
  · simp only [PyData.showable]
    exact decide_eq_true (by omega)
  · have e := int_text_length_le10 (k := k) hk1 h
    simp only [PyData.leavesShort]
    refine decide_eq_true ?_
    show (Str.ofString (toString i)).length ≤ 410
    rw [ofString_length]
    omega
  · simp only [PyData.weight]
    split <;> omega
theorem wq_int {i : Int} (h : i.natAbs < 10 ^ 60) : Wq 201 0 (.int i) := wq_intB (by decide) (by decide) (by decide) h (Nat.lt_trans h (by decide))
theorem ups_map {α : Type} (f : α → PyData) : ∀ l : List α, ups (l.map f) = l.map fun x => up (f x)
  | [] => rfl
  | x :: l => by
    show up (f x) :: ups (l.map f) = _
    rw [ups_map f l]
    rfl
@[simp] theorem noL_inj (x : Dt) : noL (inj x) = true := by cases x <;> rfl
@[simp] theorem noL_q (x : Dt) : noL (.q x) = true := rfl
@[simp] theorem tq_q (x : Dt) : tq (.q x) = some x := rfl
theorem tqs_c {t : T} {x : Dt} {ts : List T} {xs : List Dt} (h : tq t = some x) (g : tqs ts = some xs) : tqs (t :: ts) = some (x :: xs) := by
  unfold tqs
  rw [h, g]
theorem w_qlst {r : Ma} {τ : En} {M : Mem} {Q : Kt} (h : r τ M fun ts M1 => ∃ ds, tqs ts = some ds ∧ ds.length ≤ sizeLine ∧ Q (.q (.lst ds)) M1) : mQLst r τ M Q := h
theorem w_qtup {r : Ma} {τ : En} {M : Mem} {Q : Kt} (h : r τ M fun ts M1 => ∃ ds, tqs ts = some ds ∧ ds.length ≤ sizeLine ∧ Q (.q (.tup ds)) M1) : mQTup r τ M Q := h
theorem w_qlc {i : Mi} {g : Mg} {c : Mb} {m : Me} {vs : List Nat} {τ : En} {M : Mem} {Q : Kt} (h : i τ M fun ts M1 => goLcQ g c m (wipeT τ vs) (fun acc M2 => Q (.q (.lst acc)) M2) ts [] M1) : mQLc i g c m vs τ M Q := h
theorem tqM_of {t : T} {x : Dt} {M : Mem} (e : tq t = some x) : tqM t M = some x := by
  cases t with
  | mr n => cases e
  | d x => exact e
  | lr i => cases e
  | scr ns => cases e
  | wt xs => cases e
  | exo a c d e' => cases e
  | q x => exact e
theorem w_qrepr {t : T} {x : Dt} {y : PyData} {M : Mem} {Q : Kt} (e : tq t = some x) (p : pd x = some y) (o : OkShowQ y) (q : Q (.str y.shown) M) : fQRepr [t] M Q := ⟨x, y, tqM_of e, p, o, q⟩
theorem w_qreprM {t : T} {x : Dt} {y : PyData} {M : Mem} {Q : Kt} (e : tqM t M = some x) (p : pd x = some y) (o : OkShowQ y) (q : Q (.str y.shown) M) : fQRepr [t] M Q := ⟨x, y, e, p, o, q⟩
theorem w_qadd {a b : List Dt} {t u : T} {M : Mem} {Q : Kt} (e1 : tq t = some (.lst a)) (e2 : tq u = some (.lst b)) (hl : a.length + b.length ≤ sizeLine) (q : Q (.q (.lst (a ++ b))) M) : oQAdd t u M Q := by
  unfold oQAdd
  rw [e1, e2]
  exact ⟨hl, q⟩
theorem w_qaddT {a b : List Dt} {t u : T} {M : Mem} {Q : Kt} (e1 : tq t = some (.tup a)) (e2 : tq u = some (.tup b)) (hl : a.length + b.length ≤ sizeLine) (q : Q (.q (.tup (a ++ b))) M) : oQAdd t u M Q := by
  unfold oQAdd
  rw [e1, e2]
  exact ⟨hl, q⟩
theorem w_qix {a : List Dt} {t : T} {i : Nat} {M : Mem} {Q : Kt} (e : tq t = some (.lst a)) (hi : i < a.length) (q : Q (inj a[i]) M) : oQIx t (.d (.int (i : Int))) M Q := by
  unfold oQIx
  rw [e]
  exact ⟨_, atI_nat (List.getElem?_eq_getElem hi), q⟩
theorem w_qixT {a : List Dt} {t : T} {i : Nat} {M : Mem} {Q : Kt} (e : tq t = some (.tup a)) (hi : i < a.length) (q : Q (inj a[i]) M) : oQIx t (.d (.int (i : Int))) M Q := by
  unfold oQIx
  rw [e]
  exact ⟨_, atI_nat (List.getElem?_eq_getElem hi), q⟩
theorem w_qlen {a : List Dt} {t : T} {M : Mem} {Q : Kt} (e : tq t = some (.lst a)) (q : Q (.int a.length) M) : fQLen [t] M Q := by
  unfold fQLen
  simp only [e]
  exact q
theorem lcQ_all {g : Mg} {c : Mb} {m : Me} {τ0 : En} {F : List Dt → Mem → Prop} {ts : List T} {M : Mem} (I : Nat → List Dt → Mem → Prop) (h0 : I 0 [] M)
    (step : ∀ (i : Nat) (acc : List Dt) (M : Mem) (t : T) (R : List Dt → Mem → Prop), ts[i]? = some t → I i acc M → (∀ acc' M', I (i + 1) acc' M' → R acc' M') →
      g t τ0 M fun τ1 M1 => c τ1 M1 fun k M2 => if k = true then m τ1 M2 fun y M3 => ∃ z, tq y = some z ∧ acc.length < sizeLine ∧ R (acc ++ [z]) M3 else R acc M2)
    (done : ∀ acc M, I ts.length acc M → F acc M) : goLcQ g c m τ0 F ts [] M := by
  have key : ∀ (rest : List T) (i : Nat) (acc : List Dt) (M : Mem), ts.drop i = rest → i ≤ ts.length → I i acc M → goLcQ g c m τ0 F rest acc M := by
    intro rest
    induction rest with
    | nil =>
      intro i acc M e hi h
      have : i = ts.length := by
        have := congrArg List.length e
        simp at this
        omega
      subst this
      exact done acc M h
    | cons t rest ih =>
      intro i acc M e hi h
      have hlt : i < ts.length := by
        rcases Nat.lt_or_ge i ts.length with q | q
        · exact q
        · rw [List.drop_eq_nil_of_le q] at e; cases e
      rw [drop_at hlt] at e
      obtain ⟨e1, e2⟩ := List.cons.inj e
      subst e1
      exact step i acc M _ _ (List.getElem?_eq_getElem hlt) h fun acc' M' h' => ih (i + 1) acc' M' e2 hlt h'
  exact key ts 0 [] M rfl (Nat.zero_le _) h0
end Yq
set_option Elab.async false
set_option linter.all false
set_option maxRecDepth 100000
set_option maxHeartbeats 1000000
namespace K01
open PySem PySem.Spec L2 L3 Sh Wm Yq
/-- an object that may be asked for -/
def obC (c : Str) (fs : List Str) (xs : List Dt) : Bool := (c == "Unfit" && (fs.isEmpty && xs.isEmpty)) || (c == "Desk" && (fs == [("!" : Str)] && xs.isEmpty))
mutual
def obB : Dt → Bool
  | .obj c fs xs => obC c fs xs
  | .lst xs => obBs xs
  | .tup xs => obBs xs
  | _ => true
def obBs : List Dt → Bool
  | [] => true
  | x :: xs => obB x && obBs xs
end
theorem ob_mem : ∀ {xs : List Dt} {x : Dt}, obBs xs = true → x ∈ xs → obB x = true
  | [], _, _, h => by cases h
  | y :: ys, x, h, hx => by
    unfold obBs at h
    rw [Bool.and_eq_true] at h
    rcases List.mem_cons.mp hx with e | e
    · rw [e]; exact h.1
    · exact ob_mem h.2 e
theorem ob_all : ∀ {xs : List Dt}, (∀ x ∈ xs, obB x = true) → obBs xs = true
  | [], _ => rfl
  | y :: ys, h => by
    unfold obBs
    rw [h y List.mem_cons_self, ob_all fun x hx => h x (List.mem_cons_of_mem _ hx)]
    rfl
mutual
theorem ob_up : ∀ d : PyData, obB (up d) = true
  | .none => rfl
  | .bool _ => rfl
  | .int _ => rfl
  | .str _ => rfl
  | .list xs => ob_ups xs
  | .tuple xs => ob_ups xs
  | .dict _ => rfl
theorem ob_ups : ∀ xs : List PyData, obBs (ups xs) = true
  | [] => rfl
  | x :: xs => by
    show (obB (up x) && obBs (ups xs)) = true
    rw [ob_up x, ob_ups xs]
    rfl
end
def isI : Dt → Bool
  | .int _ => true
  | .bl _ => true
  | _ => false
def isBl : Dt → Bool
  | .bl _ => true
  | _ => false
def isT : Dt → Bool
  | .tup _ => true
  | _ => false
theorem kit_tab : (["NoneType", "bool", "int", "str", "list", "tuple", "dict"].all fun a => kitB a "int" == some (a == "bool" || a == "int") && (kitB a "bool" == some (a == "bool") && kitB a "tuple" == some (a == "tuple"))) = true := by decide +kernel
theorem kit_at {a : String} (h : a ∈ ["NoneType", "bool", "int", "str", "list", "tuple", "dict"]) : kitB a "int" = some (a == "bool" || a == "int") ∧ kitB a "bool" = some (a == "bool") ∧ kitB a "tuple" = some (a == "tuple") := by
  have := kit_tab
  rw [List.all_eq_true] at this
  have := this a h
  simp only [Bool.and_eq_true, beq_iff_eq] at this
  exact ⟨this.1, this.2.1, this.2.2⟩
theorem obj_of {c : Str} {fs : List Str} {xs : List Dt} (h : obB (.obj c fs xs) = true) : (c = "Unfit" ∧ fs = [] ∧ xs = []) ∨ (c = "Desk" ∧ fs = [("!" : Str)] ∧ xs = []) := by
  have h : obC c fs xs = true := h
  unfold obC at h
  simp only [Bool.or_eq_true, Bool.and_eq_true, beq_iff_eq, List.isEmpty_iff] at h
  rcases h with ⟨h1, h2, h3⟩ | ⟨h1, h2, h3⟩
  · exact .inl ⟨h1, h2, h3⟩
  · exact .inr ⟨h1, h2, h3⟩
theorem w_isi {T0 : String} {tab : List (Str × Bool)} {f : Dt → Bool} {i : Nat} {x : Dt} {τ : En} {M : Mem} {Q : Kt} (ht : τ[i]? = some (some (inj x))) (ho : obB x = true) (htab : tab = [(("Unfit" : Str), false)])
    (hk : ∀ a, tyQ x = some a → kitB a T0 = some (f x)) (hf : tyQ x = none → f x = false) (q : Q (.bl (f x)) M) : mQIsj T0 tab [("Desk", false)] (mVar i) τ M Q := by
  refine ⟨_, ht, x, tq_inj x, ?_⟩
  cases e : tyQ x with
  | some a => exact .inl ⟨a, _, rfl, hk a e, q⟩
  | none =>
    have hx := hf e
    rw [hx] at q
    cases x with
    | obj c fs xs =>
      rcases obj_of ho with ⟨rfl, rfl, rfl⟩ | ⟨rfl, rfl, rfl⟩
      · exact .inr (.inl ⟨_, _, _, false, rfl, by rw [htab]; exact List.mem_cons_self, rfl, q⟩)
      · exact .inr (.inr ⟨_, _, _, false, rfl, List.mem_cons_self, q⟩)
    | _ => cases e
theorem w_isInt {i : Nat} {x : Dt} {τ : En} {M : Mem} {Q : Kt} (ht : τ[i]? = some (some (inj x))) (ho : obB x = true) (q : Q (.bl (isI x)) M) : mQIsj "int" qt_int [("Desk", false)] (mVar i) τ M Q := by
  refine w_isi (f := isI) ht ho rfl (fun a e => ?_) (fun e => ?_) q
  · cases x <;> cases e <;> exact (kit_at (by decide)).1
  · cases x <;> first | rfl | cases e
theorem w_isBool {i : Nat} {x : Dt} {τ : En} {M : Mem} {Q : Kt} (ht : τ[i]? = some (some (inj x))) (ho : obB x = true) (q : Q (.bl (isBl x)) M) : mQIsj "bool" qt_bool [("Desk", false)] (mVar i) τ M Q := by
  refine w_isi (f := isBl) ht ho rfl (fun a e => ?_) (fun e => ?_) q
  · cases x <;> cases e <;> exact (kit_at (by decide)).2.1
  · cases x <;> first | rfl | cases e
theorem w_isTup {i : Nat} {x : Dt} {τ : En} {M : Mem} {Q : Kt} (ht : τ[i]? = some (some (inj x))) (ho : obB x = true) (q : Q (.bl (isT x)) M) : mQIsj "tuple" qt_tuple [("Desk", false)] (mVar i) τ M Q := by
  refine w_isi (f := isT) ht ho rfl (fun a e => ?_) (fun e => ?_) q
  · cases x <;> cases e <;> exact (kit_at (by decide)).2.2
  · cases x <;> first | rfl | cases e
def inB (lo hi : Int) : Dt → Bool
  | .int i => decide (lo ≤ i) && decide (i ≤ hi)
  | _ => false
def isZ : Dt → Bool
  | .int _ => true
  | _ => false
theorem chain_int {lo hi i : Int} {a b c : Me} {τ : En} {M : Mem} {Q : Kt} (ha : ∀ R : Kt, R (.int lo) M → a τ M R) (hb : ∀ R : Kt, R (.int i) M → b τ M R) (hc : ∀ R : Kt, R (.int hi) M → c τ M R) (q : Q (.bl (decide (lo ≤ i) && decide (i ≤ hi))) M) : mChain oLe oLe a b c τ M Q := by
  unfold mChain
  refine ha _ (hb _ ?_)
  refine ⟨trivial, ?_⟩
  by_cases h : lo ≤ i
  · rw [decide_eq_true h, Bool.true_and] at q
    dsimp only
    rw [decide_eq_true h]
    exact hc _ ⟨trivial, q⟩
  · rw [decide_eq_false h, Bool.false_and] at q
    dsimp only
    rw [decide_eq_false h]
    exact q
theorem v_at {i : Nat} {t : T} {τ : En} {M : Mem} (h : τ[i]? = some (some t)) : ∀ R : Kt, R t M → mVar i τ M R := fun R r => ⟨t, h, r⟩
theorem sp_isinteger {D : List Cell} {x : Dt} {Q : T → List Cell → Prop} (ho : obB x = true) (q : Q (.bl (isZ x)) D) : d_is_integer [inj x] D Q := by
  refine ⟨rfl, w_ret (w_and (w_isInt rfl ho ?_))⟩
  have e : isZ x = (isI x && !isBl x) := by cases x <;> rfl
  rw [e] at q
  cases h : isI x with
  | false =>
    rw [h] at q
    exact ⟨rfl, q⟩
  | true =>
    rw [h] at q
    show mNot _ _ _ _
    exact w_isBool rfl ho ⟨rfl, q⟩
theorem sp_intwithin {D : List Cell} {x : Dt} {lo hi : Int} {Q : T → List Cell → Prop} (ho : obB x = true) (q : Q (.bl (inB lo hi x)) D) : d_is_integer_within [inj x, .int lo, .int hi] D Q := by
  refine ⟨rfl, w_ret (w_and ?_)⟩
  simp only [x_call, x_acons, x_anil, x_var, x_def]
  refine ⟨_, rfl, by simp, ?_⟩
  refine sp_isinteger ho ?_
  cases x with
  | int i => exact chain_int (v_at rfl) (v_at rfl) (v_at rfl) ⟨rfl, q⟩
  | _ => exact ⟨rfl, q⟩
def tupB (a b : Int) : Dt → Bool
  | .tup xs => decide (a ≤ (xs.length : Int)) && decide ((xs.length : Int) ≤ b)
  | _ => false
theorem sp_tupwithin {D : List Cell} {x : Dt} {a b : Int} {Q : T → List Cell → Prop} (ho : obB x = true) (q : Q (.bl (tupB a b x)) D) : d_is_tuple_within [inj x, .int a, .int b] D Q := by
  refine ⟨rfl, w_ret (w_and (w_isTup rfl ho ?_))⟩
  cases x with
  | tup xs => exact chain_int (v_at rfl) (fun R r => ⟨_, rfl, r⟩) (v_at rfl) ⟨rfl, q⟩
  | _ => exact ⟨rfl, q⟩
theorem sp_size {D : List Cell} {x : Dt} {Q : T → List Cell → Prop} (ho : obB x = true) (q : Q (.bl (inB 1 1000000000000000000000000000000 x)) D) : d_is_size [inj x] D Q := by
  refine ⟨rfl, w_ret ?_⟩
  simp only [x_call, x_acons, x_anil, x_var, x_c, x_def]
  refine ⟨_, rfl, by simp, ?_⟩
  exact sp_intwithin ho ⟨rfl, q⟩
def alB : Dt → Bool
  | .int i => [1, 2, 4, 8, 16, 32, 64].any (· == i)
  | _ => false
theorem in_al {i : Int} {M : Mem} {Q : Kt} (q : Q (.bl ([1, 2, 4, 8, 16, 32, 64].any (· == i))) M) : oIn false (.int i) (.d (.tuple (List.map PyData.int [1, 2, 4, 8, 16, 32, 64]))) M Q := ⟨_, rfl, q⟩
theorem sp_alignment {D : List Cell} {x : Dt} {Q : T → List Cell → Prop} (ho : obB x = true) (q : Q (.bl (alB x)) D) : d_is_alignment [inj x] D Q := by
  refine ⟨rfl, w_ret (w_and ?_)⟩
  simp only [x_call, x_acons, x_anil, x_var, x_def]
  refine ⟨_, rfl, by simp, ?_⟩
  refine sp_isinteger ho ?_
  cases x with
  | int i =>
    show mOp _ _ _ _ _ _
    rw [x_op]
    refine ⟨_, rfl, ?_⟩
    dsimp only
    rw [x_c]
    exact in_al ⟨rfl, q⟩
  | _ => exact ⟨rfl, q⟩
/-- a kind -/
def kindB : Dt → Bool
  | .tup [a, b] => inB 1 1000000000000000000000000000000 a && alB b
  | _ => false
theorem kind_no {x : Dt} (h : tupB 2 2 x = false) : kindB x = false := by
  unfold kindB
  split
  · rename_i a b
    simp [tupB] at h
  · rfl
theorem kind_tup {x : Dt} (h : tupB 2 2 x = true) : ∃ a b, x = .tup [a, b] := by
  cases x with
  | tup xs =>
    simp [tupB] at h
    have : xs.length = 2 := by omega
    match xs, this with
    | [a, b], _ => exact ⟨a, b, rfl⟩
  | _ => cases h
theorem ob_two {a b : Dt} (h : obB (.tup [a, b]) = true) : obB a = true ∧ obB b = true := ⟨ob_mem (xs := [a, b]) h (by simp), ob_mem (xs := [a, b]) h (by simp)⟩
theorem w_ix0 {a b : Dt} {i : Nat} {τ : En} {M : Mem} {Q : Kt} (h : τ[i]? = some (some (.q (.tup [a, b])))) (q : Q (inj a) M) : mOp oQIx (mVar i) (mC (.int 0)) τ M Q := by
  refine ⟨_, h, ?_⟩
  show oQIx (.q (.tup [a, b])) (.d (.int ((0 : Nat) : Int))) M Q
  exact w_qixT rfl (by simp) q
theorem w_ix1 {a b : Dt} {i : Nat} {τ : En} {M : Mem} {Q : Kt} (h : τ[i]? = some (some (.q (.tup [a, b])))) (q : Q (inj b) M) : mOp oQIx (mVar i) (mC (.int 1)) τ M Q := by
  refine ⟨_, h, ?_⟩
  show oQIx (.q (.tup [a, b])) (.d (.int ((1 : Nat) : Int))) M Q
  exact w_qixT rfl (by simp) q
theorem sp_kindq {D : List Cell} {x : Dt} {Q : T → List Cell → Prop} (ho : obB x = true) (q : Q (.bl (kindB x)) D) : d_is_kind [inj x] D Q := by
  refine ⟨rfl, w_ret (w_and ?_)⟩
  simp only [x_call, x_acons, x_anil, x_var, x_c, x_def]
  refine ⟨_, rfl, by simp, ?_⟩
  refine sp_tupwithin ho ?_
  cases h : tupB 2 2 x with
  | false =>
    rw [kind_no h] at q
    exact ⟨rfl, q⟩
  | true =>
    obtain ⟨a, b, rfl⟩ := kind_tup h
    obtain ⟨oa, ob⟩ := ob_two ho
    have q : Q (.bl (inB 1 1000000000000000000000000000000 a && alB b)) D := q
    refine w_and ?_
    simp only [x_call, x_acons, x_anil, x_def]
    refine w_ix0 rfl ⟨by simp, sp_size oa ?_⟩
    cases h2 : inB 1 1000000000000000000000000000000 a with
    | false =>
      rw [h2] at q
      exact ⟨rfl, q⟩
    | true =>
      rw [h2] at q
      simp only [x_call, x_acons, x_anil, x_def]
      exact w_ix1 rfl ⟨by simp, sp_alignment ob ⟨rfl, q⟩⟩
/-- the first that is no kind, from a place on -/
def badAt : Nat → List Dt → Option Nat
  | _, [] => none
  | k, x :: xs => if kindB x = true then badAt (k + 1) xs else some k
def faultD (x : Dt) : Dt := match x with
  | .tup xs => if 1 ≤ xs.length ∧ xs.length ≤ 6 then (match badAt 0 xs with
    | some k => .tup [.str "kind", .int k]
    | none => .non) else .str "form"
  | _ => .str "form"
theorem en_prog {E : Es} {D : List Cell} : ∀ (xs : List Dt) (k : Nat) {a b c : Option T}, obBs xs = true → (∀ n, badAt k xs = some n → E.rt (.q (.tup [.str "kind", .int n])) ⟨D, []⟩) → (∀ b' c', badAt k xs = none → E.nx [a, b', c'] ⟨D, []⟩) → goEnQ 1 2 b_book_error_2 E k xs [a, b, c] ⟨D, []⟩
  | [], k, a, b, c, _, _, q => q _ _ rfl
  | x :: xs, k, a, b, c, ho, qr, qn => by
    unfold obBs at ho
    rw [Bool.and_eq_true] at ho
    show b_book_error_2 _ [a, some (.int (k : Int)), some (inj x)] _
    refine w_if (w_bnot (w_test ?_))
    simp only [x_call, x_acons, x_anil, x_var, x_def, List.getElem?_cons_succ, List.getElem?_cons_zero]
    refine ⟨_, rfl, by simp, ?_⟩
    refine sp_kindq ho.1 ⟨_, rfl, ?_⟩
    cases h : kindB x with
    | true =>
      rw [Bool.not_true, if_neg Bool.false_ne_true]
      refine en_prog xs (k + 1) ho.2 (fun n e => qr n ?_) fun b' c' e => qn b' c' ?_
      · unfold badAt; rw [if_pos h]; exact e
      · unfold badAt; rw [if_pos h]; exact e
    | false =>
      rw [Bool.not_false, if_pos rfl]
      refine w_ret (w_qtup ?_)
      simp only [x_acons, x_anil, x_var, x_c, List.getElem?_cons_succ, List.getElem?_cons_zero]
      refine ⟨_, rfl, [.str "kind", .int k], rfl, two_ok, ?_⟩
      refine qr k ?_
      unfold badAt
      rw [if_neg (by rw [h]; exact Bool.false_ne_true)]
theorem len_in {xs : List Dt} : tupB 1 6 (.tup xs) = true ↔ 1 ≤ xs.length ∧ xs.length ≤ 6 := by
  simp [tupB]
  omega
theorem sp_bookerror {D : List Cell} {x : Dt} {Q : T → List Cell → Prop} (ho : obB x = true) (q : Q (inj (faultD x)) D) : d_book_error [inj x] D Q := by
  refine ⟨rfl, ?_⟩
  show b_book_error_5 _ [some (inj x), none, none] _
  refine w_seq (w_if (w_bnot (w_test ?_)))
  simp only [x_call, x_acons, x_anil, x_var, x_c, x_def, List.getElem?_cons_succ, List.getElem?_cons_zero]
  refine ⟨_, rfl, by simp, ?_⟩
  refine sp_tupwithin ho ⟨_, rfl, ?_⟩
  cases h : tupB 1 6 x with
  | false =>
    rw [Bool.not_false, if_pos rfl]
    have e : faultD x = .str "form" := by
      unfold faultD
      split
      · rename_i xs
        rw [if_neg]
        rw [← len_in, h]
        exact Bool.false_ne_true
      · rfl
    rw [e] at q
    exact ⟨rfl, q⟩
  | true =>
    rw [Bool.not_true, if_neg Bool.false_ne_true]
    cases x with
    | tup xs =>
      have e : faultD (.tup xs) = (match badAt 0 xs with | some k => .tup [.str "kind", .int k] | none => .non) := by
        unfold faultD
        exact if_pos (len_in.mp h)
      rw [e] at q
      show b_book_error_4 _ [some (.q (.tup xs)), none, none] _
      refine w_seq ?_
      refine ⟨_, rfl, ?_⟩
      show goEnQ 1 2 b_book_error_2 _ 0 xs [some (.q (.tup xs)), none, none] _
      refine en_prog xs 0 ho (fun n e => ?_) fun b' c' e => ?_
      · rw [e] at q
        exact ⟨rfl, q⟩
      · rw [e] at q
        exact ⟨rfl, q⟩
    | _ => cases h
theorem w_qlenT {a : List Dt} {t : T} {M : Mem} {Q : Kt} (e : tq t = some (.tup a)) (q : Q (.int a.length) M) : fQLen [t] M Q := by
  unfold fQLen
  simp only [e]
  exact q
theorem sp_lint {D : List Cell} {x : Dt} {lo hi : Int} {Q : T → List Cell → Prop} (ho : obB x = true) (q : Q (.bl (inB lo hi x)) D) : d__law_is_int [inj x, .int lo, .int hi] D Q := by
  refine ⟨rfl, w_ret (w_and (w_isInt rfl ho ?_))⟩
  cases x with
  | int i =>
    refine w_and ?_
    show mNot _ _ _ _
    refine w_isBool (x := .int i) rfl ho ?_
    exact chain_int (v_at rfl) (v_at rfl) (v_at rfl) ⟨rfl, q⟩
  | bl b =>
    refine w_and ?_
    show mNot _ _ _ _
    refine w_isBool (x := .bl b) rfl ho ?_
    exact ⟨rfl, q⟩
  | _ => exact ⟨rfl, q⟩
theorem al_64 {b : Dt} (h : alB b = true) : inB 1 64 b = true := by
  cases b with
  | int i =>
    simp [alB] at h
    simp [inB]
    omega
  | _ => cases h
theorem ix0 {a b : Dt} {M : Mem} {Q : Kt} (q : Q (inj a) M) : oQIx (inj (.tup [a, b])) (.d (.int 0)) M Q := by
  show oQIx (.q (.tup [a, b])) (.d (.int ((0 : Nat) : Int))) M Q
  exact w_qixT rfl (by simp) q
theorem ix1 {a b : Dt} {M : Mem} {Q : Kt} (q : Q (inj b) M) : oQIx (inj (.tup [a, b])) (.d (.int 1)) M Q := by
  show oQIx (.q (.tup [a, b])) (.d (.int ((1 : Nat) : Int))) M Q
  exact w_qixT rfl (by simp) q
theorem sp_lkind {D : List Cell} {x : Dt} {Q : T → List Cell → Prop} (ho : obB x = true) (q : Q (.bl (kindB x)) D) : d__law_is_kind [inj x] D Q := by
  refine ⟨rfl, ?_⟩
  show b__law_is_kind_2 _ [some (inj x)] _
  refine w_seq (w_if (w_bor (w_bnot (w_test (w_isTup rfl ho ⟨_, rfl, ?_⟩)))))
  cases x with
  | tup xs =>
    have no : xs.length ≠ 2 → kindB (.tup xs) = false := fun h => by
      unfold kindB
      split
      · rename_i a b e
        cases e
        simp at h
      · rfl
    simp only [isT, Bool.not_true, Bool.false_eq_true, if_false]
    refine w_bor (w_test ?_)
    simp only [x_op, x_call, x_acons, x_anil, x_var, x_c, List.getElem?_cons_succ, List.getElem?_cons_zero]
    refine ⟨_, rfl, ?_⟩
    refine w_qlenT (a := xs) rfl ?_
    rw [x_eqi]
    refine ⟨_, rfl, ?_⟩
    by_cases h2 : xs.length = 2
    · match xs, h2 with
      | [a, b], _ =>
        obtain ⟨oa, ob⟩ := ob_two ho
        have q : Q (.bl (inB 1 1000000000000000000000000000000 a && alB b)) D := q
        simp
        refine ix0 ⟨by unfold CPow; omega, noL_inj _, ?_⟩
        refine sp_lint oa ?_
        cases h3 : inB 1 1000000000000000000000000000000 a with
        | false =>
          rw [h3] at q
          exact .inl ⟨rfl, q⟩
        | true =>
          rw [h3, Bool.true_and] at q
          refine .inr ⟨rfl, ix1 ⟨noL_inj _, sp_lint ob ?_⟩⟩
          cases h4 : inB 1 64 b with
          | false =>
            have : alB b = false := by
              cases h5 : alB b with
              | false => rfl
              | true => rw [al_64 h5] at h4; cases h4
            rw [this] at q
            exact q
          | true =>
            cases b with
            | int i => exact ix1 ⟨sz64' (by decide), in_al ⟨rfl, q⟩⟩
            | _ => cases h4
    · rw [no h2] at q
      have h3 : ¬ ((xs.length : Int) = 2) := by omega
      simp [h3]
      exact q
  | _ =>
    simp only [isT, Bool.not_false, if_true]
    exact ⟨rfl, q⟩
end K01
set_option Elab.async false
set_option linter.all false
set_option maxRecDepth 100000
set_option maxHeartbeats 1000000
namespace K01
open PySem PySem.Spec L2 L3 Sh Wm Yq
theorem en_law {E : Es} {D : List Cell} : ∀ (xs : List Dt) (k : Nat) {a b c : Option T}, obBs xs = true → (∀ n, badAt k xs = some n → E.rt (.q (.tup [.str "kind", .int n])) ⟨D, []⟩) → (∀ b' c', badAt k xs = none → E.nx [a, b', c'] ⟨D, []⟩) → goEnQ 1 2 b__law_fault_2 E k xs [a, b, c] ⟨D, []⟩
  | [], k, a, b, c, _, _, q => q _ _ rfl
  | x :: xs, k, a, b, c, ho, qr, qn => by
    unfold obBs at ho
    rw [Bool.and_eq_true] at ho
    show b__law_fault_2 _ [a, some (.int (k : Int)), some (inj x)] _
    refine w_if (w_bnot (w_test ?_))
    simp only [x_call, x_acons, x_anil, x_var, x_def, List.getElem?_cons_succ, List.getElem?_cons_zero]
    refine ⟨_, rfl, by simp, ?_⟩
    refine sp_lkind ho.1 ⟨_, rfl, ?_⟩
    cases h : kindB x with
    | true =>
      rw [Bool.not_true, if_neg Bool.false_ne_true]
      refine en_law xs (k + 1) ho.2 (fun n e => qr n ?_) fun b' c' e => qn b' c' ?_
      · unfold badAt; rw [if_pos h]; exact e
      · unfold badAt; rw [if_pos h]; exact e
    | false =>
      rw [Bool.not_false, if_pos rfl]
      refine w_ret (w_qtup ?_)
      simp only [x_acons, x_anil, x_var, x_c, List.getElem?_cons_succ, List.getElem?_cons_zero]
      refine ⟨_, rfl, [.str "kind", .int k], rfl, two_ok, ?_⟩
      refine qr k ?_
      unfold badAt
      rw [if_neg (by rw [h]; exact Bool.false_ne_true)]
theorem sp_lfault {D : List Cell} {x : Dt} {Q : T → List Cell → Prop} (ho : obB x = true) (q : Q (inj (faultD x)) D) : d__law_fault [inj x] D Q := by
  refine ⟨rfl, ?_⟩
  show b__law_fault_5 _ [some (inj x), none, none] _
  refine w_seq (w_if (w_bor (w_bnot (w_test (w_isTup rfl ho ⟨_, rfl, ?_⟩)))))
  cases x with
  | tup xs =>
    simp only [isT, Bool.not_true, Bool.false_eq_true, if_false]
    refine w_bor (w_test ?_)
    simp only [x_op, x_call, x_acons, x_anil, x_var, x_c, List.getElem?_cons_succ, List.getElem?_cons_zero]
    refine ⟨_, rfl, w_qlenT (a := xs) rfl ⟨trivial, _, rfl, ?_⟩⟩
    have ef : faultD (.tup xs) = if 1 ≤ xs.length ∧ xs.length ≤ 6 then (match badAt 0 xs with | some k => .tup [.str "kind", .int k] | none => .non) else .str "form" := rfl
    by_cases h1 : (xs.length : Int) < 1
    · rw [ef, if_neg (by omega)] at q
      rw [decide_eq_true h1]
      exact ⟨rfl, q⟩
    · rw [decide_eq_false h1]
      rw [if_neg Bool.false_ne_true]
      refine w_test ?_
      simp only [x_op, x_call, x_acons, x_anil, x_var, x_c, List.getElem?_cons_succ, List.getElem?_cons_zero]
      refine ⟨_, rfl, w_qlenT (a := xs) rfl ⟨trivial, _, rfl, ?_⟩⟩
      by_cases h2 : (6 : Int) < (xs.length : Int)
      · rw [ef, if_neg (by omega)] at q
        rw [decide_eq_true (show (xs.length : Int) > 6 from h2)]
        exact ⟨rfl, q⟩
      · rw [ef, if_pos (by omega)] at q
        rw [decide_eq_false (show ¬ (xs.length : Int) > 6 from h2)]
        rw [if_neg Bool.false_ne_true]
        show b__law_fault_4 _ [some (.q (.tup xs)), none, none] _
        refine w_seq ?_
        refine ⟨_, rfl, ?_⟩
        show goEnQ 1 2 b__law_fault_2 _ 0 xs [some (.q (.tup xs)), none, none] _
        refine en_law xs 0 ho (fun n e => ?_) fun b' c' e => ?_
        · rw [e] at q
          exact ⟨rfl, q⟩
        · rw [e] at q
          exact ⟨rfl, q⟩
  | _ =>
    simp only [isT, Bool.not_false, if_true]
    exact ⟨rfl, q⟩
theorem bad_lt : ∀ {xs : List Dt} {k n : Nat}, badAt k xs = some n → n < k + xs.length
  | [], k, n, e => by cases e
  | x :: xs, k, n, e => by
    unfold badAt at e
    split at e
    · have := bad_lt e
      rw [List.length_cons]
      omega
    · cases e
      rw [List.length_cons]
      omega
theorem wq_fault (x : Dt) : Wq 300 2 (faultD x) := by
  have fm : Wq 300 2 (.str "form") := wqB_ok (by decide +kernel)
  unfold faultD
  split
  · rename_i xs
    split
    · rename_i hl
      split
      · rename_i k e
        have := bad_lt e
        have wi : Wq 201 0 (.int (k : Int)) := wq_int (by omega)
        exact (wq_tup (wq_cons ((wqB_ok (by decide +kernel) : Wq 10 0 (.str "kind"))) (wq_one wi))).mono (by omega) (by omega)
      · exact wqB_ok (by decide +kernel)
    · exact fm
  · exact fm
theorem w_eqS {a : Str} {M : Mem} {Q : Kt} (q : Q (.bl true) M) : oEq false (.d (.str a)) (.d (.str a)) M Q := by
  rw [x_eqs]
  simpa using q
theorem sp_told {D : List Cell} {x : Dt} {b : Bool} {w k : Nat} {Q : T → List Cell → Prop} (wx : Wq w k x) (hw : w ≤ 30000) (hk : k ≤ 100) (ho : obB x = true) (q : Q (.bl true) D) : d__law_is_told [inj x, .bl b] D Q := by
  obtain ⟨y, py, oy⟩ := wx.ok hw hk
  have wf := wq_fault x
  obtain ⟨z, pz, oz⟩ := (wq_lst (wq_cons wf (wq_one wf))).ok (by omega) (by omega)
  refine ⟨rfl, ?_⟩
  show b__law_is_told_2 _ [some (inj x), some (.bl b), none, none, none] _
  refine w_seq (w_par ?_)
  simp only [x_acons, x_anil, x_call, x_var, x_def, List.getElem?_cons_succ, List.getElem?_cons_zero]
  refine ⟨_, rfl, w_qrepr (tq_inj x) py oy ⟨_, rfl, by simp, sp_lfault ho ?_⟩⟩
  show b__law_is_told_1 _ [some (inj x), some (.bl b), some (.str y.shown), some (inj (faultD x)), none] _
  have fin : b__law_is_told_0 { nx := fun _ M => Q .non M.D, rt := fun t M => noL t = true ∧ Q t M.D } [some (inj x), some (.bl b), some (.str y.shown), some (inj (faultD x)), some (.q (.lst [faultD x, faultD x]))] ⟨D, []⟩ := by
    refine w_ret (w_and ?_)
    simp only [x_op, x_acons, x_anil, x_call, x_var, List.getElem?_cons_succ, List.getElem?_cons_zero]
    refine ⟨_, rfl, w_qrepr rfl pz oz ?_⟩
    refine w_qlst ?_
    simp only [x_acons, x_anil, x_var, List.getElem?_cons_succ, List.getElem?_cons_zero]
    refine ⟨_, rfl, _, rfl, [faultD x, faultD x], tqs_c (tq_inj _) (tqs_c (tq_inj _) rfl), two_ok, w_qrepr rfl pz oz (w_eqS ?_)⟩
    exact ⟨_, rfl, w_qrepr (tq_inj x) py oy ⟨_, rfl, w_eqS ⟨rfl, q⟩⟩⟩
  refine w_seq (w_set (w_qlst ?_))
  rw [x_acons]
  show mTest _ _ _ _
  refine w_test ⟨_, rfl, b, rfl, ?_⟩
  have nxt : ∀ {t : T}, t = inj (faultD x) → (aCons (mCall (fDef d_book_error) (aCons (mVar 0) aNil)) aNil) [some (inj x), some (.bl b), some (.str y.shown), some (inj (faultD x)), none] ⟨D, []⟩ (fun ts M1 => ∃ ds, tqs (t :: ts) = some ds ∧ ds.length ≤ sizeLine ∧ b__law_is_told_0 { nx := fun _ M => Q .non M.D, rt := fun t M => noL t = true ∧ Q t M.D } [some (inj x), some (.bl b), some (.str y.shown), some (inj (faultD x)), some (.q (.lst ds))] M1) := by
    rintro t rfl
    simp only [x_acons, x_anil, x_call, x_var, x_def, List.getElem?_cons_succ, List.getElem?_cons_zero]
    refine ⟨_, rfl, by simp, sp_bookerror ho ?_⟩
    exact ⟨[faultD x, faultD x], tqs_c (tq_inj _) (tqs_c (tq_inj _) rfl), two_ok, fin⟩
  cases b with
  | true =>
    rw [if_pos rfl]
    show mCallK _ _ _ _ _ _ _
    refine ⟨_, rfl, rfl, ?_⟩
    refine ⟨by simp [kb_book_error_0_g], ?_⟩
    show d_book_error [inj x] D _
    refine sp_bookerror ho ?_
    exact nxt rfl
  | false =>
    rw [if_neg Bool.false_ne_true]
    show mCall _ _ _ _ _
    simp only [x_acons, x_anil, x_call, x_var, x_def, List.getElem?_cons_succ, List.getElem?_cons_zero]
    refine ⟨_, rfl, by simp, sp_bookerror ho ?_⟩
    exact nxt rfl
end K01
set_option Elab.async false
set_option linter.all false
set_option maxRecDepth 100000
set_option maxHeartbeats 1000000
namespace K01
open PySem PySem.Spec L2 L3 Sh Wm Yq Wl
theorem sp_pickv {D : List Cell} {xs : List Dt} {Q : T → List Cell → Prop} (hD : RI D) (h1 : xs ≠ []) (h2 : xs.length < 100000) (q : ∀ x D', x ∈ xs → RI D' → Q (inj x) D') : d__law_pick_v [.mr 1, .q (.lst xs)] D Q := by
  have hl : 0 < xs.length := List.length_pos_iff.mpr h1
  refine ⟨rfl, ?_⟩
  show b__law_pick_v_0 _ _ _
  simp only [x_ret, x_op, x_call, x_acons, x_anil, x_var, x_def, List.getElem?_cons_succ, List.getElem?_cons_zero]
  refine ⟨_, rfl, _, rfl, _, rfl, ?_⟩
  refine w_qlen rfl ?_
  refine ⟨by simp, ?_⟩
  refine sp_draw hD (by omega) (by omega) fun n D' n0 n1 hD' => ?_
  obtain ⟨k, rfl⟩ : ∃ k : Nat, n = k := ⟨n.toNat, by omega⟩
  have hk : k < xs.length := by omega
  refine w_qix rfl hk ?_
  exact ⟨noL_inj _, q _ _ (List.getElem_mem hk) hD'⟩
def far : Int := 1000000000000000000000000000000000000000000000000000000000000000000000000000000000000000000000000000000000000000000000000000000000000000000000000000000000000000000000000000000000000000000000000000000000000000000000000000000000000000000000000000000000000000000000000000000000000000000000000000000000000000000000000000000000000000000000000000000000000000000000000000000000000000000000000000000000000000
def tenp (i : Nat) : Int := ((10 ^ (57 * i) : Nat) : Int)
theorem tenp_step (i : Nat) : tenp i * (10 : Int) ^ 57 = tenp (i + 1) := by
  unfold tenp
  rw [Nat.mul_add, Nat.pow_add]
  rfl
theorem tenp_vast {i : Nat} (h : i < 7) : CVast (tenp i) ((10 : Int) ^ 57) := by
  have : ∀ i, i < 7 → (tenp i).natAbs < 2 ^ 2000 := by decide +kernel
  exact ⟨this i h, by decide +kernel⟩
theorem sp_far {D : List Cell} {Q : T → List Cell → Prop} (q : Q (.int far) D) : d__law_far [] D Q := by
  refine ⟨rfl, ?_⟩
  show b__law_far_3 _ [none, none] _
  refine w_seq (w_set (w_c ?_))
  show b__law_far_2 _ [some (.int 1), none] _
  refine w_seq (w_for ?_)
  rw [x_irange]
  refine w_ac (w_c (w_an ⟨by decide, ?_⟩))
  suffices key : ∀ E2 : Es, (∀ p, b__law_far_1 E2 [some (.int far), p] ⟨D, []⟩) → goFor (gN 1) b__law_far_0 { E2 with nx := b__law_far_1 E2 } (rangeT 7) [some (.int 1), none] ⟨D, []⟩ from key { nx := fun _ M => Q .non M.D, rt := fun t M => noL t = true ∧ Q t M.D } fun p => w_ret ⟨_, rfl, rfl, q⟩
  intro E2 k2
  refine for_all (fun i τ M => M = ⟨D, []⟩ ∧ ∃ p, τ = [some (.int (tenp i)), p]) ⟨rfl, none, rfl⟩ ?_ ?_
  · rintro i τ M t R ht ⟨rfl, p, rfl⟩ k
    obtain ⟨hi, rfl⟩ := range_at ht
    rw [x_gn]
    suffices key : ∀ E : Es, (∀ p, E.nx [some (.int (tenp (i + 1))), p] ⟨D, []⟩) → b__law_far_0 E [some (.int (tenp i)), some (.int (i : Int))] ⟨D, []⟩ from key _ fun p => k _ _ ⟨rfl, p, rfl⟩
    intro E q
    refine w_set (w_op ⟨_, rfl, ?_⟩)
    simp only [x_op, x_c]
    refine ⟨by unfold CPow; decide, ?_⟩
    refine w_mulV (tenp_vast hi) ?_
    rw [show ((57 : Int).toNat) = 57 from rfl, tenp_step]
    exact q _
  · rintro τ M ⟨rfl, p, rfl⟩
    have e : tenp (rangeT 7).length = far := by
      rw [range_len]
      decide +kernel
    rw [e]
    exact k2 p
def Pv (x : Dt) : Prop := Wq 3000 4 x ∧ obB x = true
theorem pv_int {i : Int} (h : i.natAbs < 10 ^ 400) : Wq 1331 0 (.int i) := by
  refine wq_intB (by decide) (by decide) (by decide) h ?_
  have : (10 : Nat) ^ 400 < 2 ^ 1330 := by decide +kernel
  omega
theorem wq_strI {i : Int} (h : i.natAbs < 10 ^ 60) : Wq 100 0 (.str (toString i)) := by
  have e := int_text_length_le10 (k := 60) (by decide) h
  refine ⟨.str (toString i), rfl, by simp [PyData.showable], ?_, ?_, by simp [PyData.depth]⟩
  · simp only [PyData.leavesShort]
    refine List.all_eq_true.mpr fun c hc => ?_
    have hc : c ∈ ((toString i).toList.map Char.toNat) := by
      have hc : c ∈ (Str.ofString (toString i)).cps.toList := hc
      rw [Str.ofString_eq_toList] at hc
      exact hc
    obtain ⟨ch, _, rfl⟩ := List.mem_map.mp hc
    refine decide_eq_true ?_
    have := ch.val.toNat_lt
    show ch.val.toNat < _
    omega
  · simp only [PyData.weight]
    have : (Str.ofString (toString i)).length ≤ 62 := by
      rw [ofString_length]
      omega
    show (Str.ofString (toString i)).length ≤ 100
    omega
theorem pv_two {x y : Dt} (hx : Wq 1400 3 x) (hy : Wq 1400 3 y) (ox : obB x = true) (oy : obB y = true) : Pv (.tup [x, y]) :=
  ⟨(wq_tup (wq_cons hx (wq_one hy))).mono (by omega) (by omega), ob_all (xs := [x, y]) fun z hz => by
    rcases List.mem_cons.mp hz with h | h
    · rw [h]
      exact ox
    · rw [List.mem_singleton.mp h]
      exact oy⟩
def FarOk (i : Int) : Prop := i.natAbs < 10 ^ 400
theorem wl_int {i : Int} (h : FarOk i) : Wq 1400 3 (.int i) := (pv_int h).mono (by omega) (by omega)
theorem fo {i : Int} (h : -1000000000000000000000000000000000000000000000000000000000000000000000 < i ∧ i < 1000000000000000000000000000000000000000000000000000000000000000000000) : FarOk i := by
  unfold FarOk
  have : (10 : Nat) ^ 70 < 10 ^ 400 := by decide +kernel
  omega
theorem fo_far : FarOk far := by
  unfold FarOk
  decide +kernel
theorem fo_farN : FarOk (0 - far) := by
  unfold FarOk
  decide +kernel
theorem wq_dicI {i j : Int} (h : i.natAbs < 10 ^ 60) (hj : Wq 201 0 (.int j)) : Wq 500 1 (.dic [.inl i] [.int j]) := by
  obtain ⟨y, h1, h2, h3, h4, h5⟩ := (wq_int h).ex
  obtain ⟨z, j1, j2, j3, j4, j5⟩ := hj.ex
  cases h1
  cases j1
  refine ⟨.dict [(.int i, .int j)], rfl, ?_, ?_, ?_, ?_⟩
  · simp only [PyData.showable, PyData.showableKv] at h2 j2 ⊢
    rw [h2, j2]
    rfl
  · simp only [PyData.leavesShort, PyData.leavesShortKv] at h3 j3 ⊢
    rw [h3, j3]
    rfl
  · simp only [PyData.weight, PyData.weightKv] at h4 j4 ⊢
    omega
  · simp only [PyData.depth, PyData.depthKv] at h5 j5 ⊢
    omega
def odd1 (s a : Int) : List Dt := [.tup [.int far, .int a], .tup [.int (0 - far), .int a], .tup [.int s, .int far], .tup [.int s, .int (0 - far)]]
def whl (s : Int) : List Dt := [.int 0, .int (-1), .int (0 - s), .int (1000000000000000000000000000000 + 1), .bl true, .str (toString s), .non, .tup [.int s], .lst [.int s], .int 1000000000000000000000000000000000000000000000000000000000000, .dic [] []]
def whA (a : Int) : List Dt := [.int 0, .int 3, .int 5, .int 12, .int 63, .int 128, .int (0 - a), .bl true, .bl false, .str (toString a), .non, .lst [.int a]]
def odd2 (s a : Int) : List Dt := [.tup [.int s], .tup [.int s, .int a, .int 1], .lst [.int s, .int a], .tup [], .non, .int s, .str "6/4", .dic [.inl s] [.int a], .tup [.int s, .int a], .tup [.int 1, .int 64]]
def odd3 (s : Int) : List Dt := [.tup [.int s, .int (2 * 1000000000000000000000000000000)]]
def odds (s a : Int) : List Dt := odd1 s a ++ (whl s).map (fun x => .tup [x, .int a]) ++ (whA a).map (fun x => .tup [.int s, x]) ++ odd2 s a ++ odd3 s
theorem odds_len (s a : Int) : (odds s a).length = 38 := by
  unfold odds odd1 whl whA odd2 odd3
  rfl
theorem wl_int1 {i : Int} (h : FarOk i) : Wq 1400 0 (.int i) := (pv_int h).mono (by omega) (by omega)
theorem all_c {p : Dt → Prop} {x : Dt} {l : List Dt} (h : p x) (g : ∀ y ∈ l, p y) : ∀ y ∈ x :: l, p y := fun y hy => by
  rcases List.mem_cons.mp hy with e | e
  · rw [e]; exact h
  · exact g y e
theorem all_n {p : Dt → Prop} : ∀ y ∈ ([] : List Dt), p y := fun y hy => by cases hy
theorem all_a {p : Dt → Prop} {l m : List Dt} (h : ∀ y ∈ l, p y) (g : ∀ y ∈ m, p y) : ∀ y ∈ l ++ m, p y := fun y hy => by
  rcases List.mem_append.mp hy with e | e
  · exact h y e
  · exact g y e
theorem pv_1 {x : Dt} (h : Wq 1400 0 x) (o : obB x = true) : Wq 1400 3 x ∧ obB x = true := ⟨h.mono (Nat.le_refl _) (Nat.zero_le _), o⟩
theorem whl_ok {s : Int} (hs : 1 ≤ s ∧ s ≤ 1000000000000000000000000000000) : ∀ x ∈ whl s, Wq 1400 3 x ∧ obB x = true := by
  unfold whl
  have ws : Wq 201 0 (.int s) := wq_int (by omega)
  refine all_c (pv_1 (wl_int1 (fo (by omega))) rfl) ?_
  refine all_c (pv_1 (wl_int1 (fo (by omega))) rfl) ?_
  refine all_c (pv_1 (wl_int1 (fo (by omega))) rfl) ?_
  refine all_c (pv_1 (wl_int1 (fo (by omega))) rfl) ?_
  refine all_c (pv_1 (wqB_ok (by decide +kernel)) rfl) ?_
  refine all_c (pv_1 ((wq_strI (by omega)).mono (by omega) (Nat.le_refl _)) rfl) ?_
  refine all_c (pv_1 (wqB_ok (by decide +kernel)) rfl) ?_
  refine all_c ⟨(wq_tup (wq_one ws)).mono (by omega) (by omega), rfl⟩ ?_
  refine all_c ⟨(wq_lst (wq_one ws)).mono (by omega) (by omega), rfl⟩ ?_
  refine all_c (pv_1 (wl_int1 (fo (by omega))) rfl) ?_
  refine all_c ⟨wqB_ok (by decide +kernel), rfl⟩ ?_
  exact all_n
theorem whA_ok {a : Int} (ha : 1 ≤ a ∧ a ≤ 64) : ∀ x ∈ whA a, Wq 1400 3 x ∧ obB x = true := by
  unfold whA
  have wa : Wq 201 0 (.int a) := wq_int (by omega)
  refine all_c (pv_1 (wl_int1 (fo (by omega))) rfl) ?_
  refine all_c (pv_1 (wl_int1 (fo (by omega))) rfl) ?_
  refine all_c (pv_1 (wl_int1 (fo (by omega))) rfl) ?_
  refine all_c (pv_1 (wl_int1 (fo (by omega))) rfl) ?_
  refine all_c (pv_1 (wl_int1 (fo (by omega))) rfl) ?_
  refine all_c (pv_1 (wl_int1 (fo (by omega))) rfl) ?_
  refine all_c (pv_1 (wl_int1 (fo (by omega))) rfl) ?_
  refine all_c (pv_1 (wqB_ok (by decide +kernel)) rfl) ?_
  refine all_c (pv_1 (wqB_ok (by decide +kernel)) rfl) ?_
  refine all_c (pv_1 ((wq_strI (by omega)).mono (by omega) (Nat.le_refl _)) rfl) ?_
  refine all_c (pv_1 (wqB_ok (by decide +kernel)) rfl) ?_
  refine all_c ⟨(wq_lst (wq_one wa)).mono (by omega) (by omega), rfl⟩ ?_
  exact all_n
theorem pv_le {w k : Nat} {x : Dt} (h : Wq w k x) (hw : w ≤ 3000) (hk : k ≤ 4) (o : obB x = true) : Pv x := ⟨h.mono hw hk, o⟩
theorem odds_ok {s a : Int} (hs : 1 ≤ s ∧ s ≤ 1000000000000000000000000000000) (ha : 1 ≤ a ∧ a ≤ 64) : ∀ x ∈ odds s a, Pv x := by
  have ws : Wq 201 0 (.int s) := wq_int (by omega)
  have wa : Wq 201 0 (.int a) := wq_int (by omega)
  have is := wl_int (i := s) (fo (by omega))
  have ia := wl_int (i := a) (fo (by omega))
  unfold odds
  refine all_a (all_a (all_a (all_a ?_ fun x hx => ?_) fun x hx => ?_) ?_) ?_
  · show ∀ x ∈ odd1 s a, Pv x
    unfold odd1
    exact all_c (pv_two (wl_int fo_far) ia rfl rfl) (all_c (pv_two (wl_int fo_farN) ia rfl rfl) (all_c (pv_two is (wl_int fo_far) rfl rfl) (all_c (pv_two is (wl_int fo_farN) rfl rfl) all_n)))
  · obtain ⟨y, hy, rfl⟩ := List.mem_map.mp hx
    have := whl_ok hs y hy
    exact pv_two this.1 ia this.2 rfl
  · obtain ⟨y, hy, rfl⟩ := List.mem_map.mp hx
    have := whA_ok ha y hy
    exact pv_two is this.1 rfl this.2
  · show ∀ x ∈ odd2 s a, Pv x
    unfold odd2
    refine all_c (pv_le (wq_tup (wq_one ws)) (by omega) (by omega) rfl) ?_
    refine all_c (pv_le (wq_tup (wq_cons ws (wq_cons wa (wq_one (wqB_ok (by decide +kernel) : Wq 201 0 (.int 1)))))) (by omega) (by omega) rfl) ?_
    refine all_c (pv_le (wq_lst (wq_cons ws (wq_one wa))) (by omega) (by omega) rfl) ?_
    refine all_c (pv_le (wqB_ok (by decide +kernel) : Wq 201 1 (.tup [])) (by omega) (by omega) rfl) ?_
    refine all_c (pv_le (wqB_ok (by decide +kernel) : Wq 201 1 .non) (by omega) (by omega) rfl) ?_
    refine all_c (pv_le ws (by omega) (by omega) rfl) ?_
    refine all_c (pv_le (wqB_ok (by decide +kernel) : Wq 201 1 (.str "6/4")) (by omega) (by omega) rfl) ?_
    refine all_c (pv_le (wq_dicI (by omega) wa) (by omega) (by omega) rfl) ?_
    refine all_c (pv_le (wq_tup (wq_cons ws (wq_one wa))) (by omega) (by omega) rfl) ?_
    exact all_c (pv_le (wqB_ok (by decide +kernel) : Wq 201 1 (.tup [.int 1, .int 64])) (by omega) (by omega) rfl) all_n
  · show ∀ x ∈ odd3 s, Pv x
    exact all_c (pv_two is (wl_int (fo (by omega))) rfl rfl) all_n
end K01
set_option Elab.async false
set_option linter.all false
set_option maxRecDepth 100000
set_option maxHeartbeats 1000000
namespace K01
open PySem PySem.Spec L2 L3 Sh Wm Yq Wl
theorem lcQ_map {xs : List Dt} {g : Mg} {c : Mb} {m : Me} {τ0 : En} {F : List Dt → Mem → Prop} {M : Mem} (f : Dt → Dt) (hz : xs.length ≤ 100000)
    (step : ∀ x (acc : List Dt) (R : List Dt → Mem → Prop), x ∈ xs → acc.length < sizeLine → R (acc ++ [f x]) M → g (inj x) τ0 M fun τ1 M1 => c τ1 M1 fun k M2 => if k = true then m τ1 M2 fun y M3 => ∃ z, tq y = some z ∧ acc.length < sizeLine ∧ R (acc ++ [z]) M3 else R acc M2)
    (done : F (xs.map f) M) : goLcQ g c m τ0 F (xs.map inj) [] M := by
  refine lcQ_all (fun i acc M' => M' = M ∧ acc = (xs.take i).map f) ⟨rfl, rfl⟩ ?_ ?_
  · rintro i acc M' t R ht ⟨rfl, rfl⟩ k
    rw [List.getElem?_map] at ht
    obtain ⟨x, hx, rfl⟩ := Option.map_eq_some_iff.mp ht
    obtain ⟨hi, e⟩ := List.getElem?_eq_some_iff.mp hx
    subst e
    refine step _ _ R (List.getElem_mem hi) ?_ (k _ _ ⟨rfl, ?_⟩)
    · rw [List.length_map, List.length_take]
      exact sz64 (by omega)
    · rw [List.take_add_one, hx, List.map_append]
      rfl
  · rintro acc M' ⟨rfl, rfl⟩
    rw [List.length_map, List.take_length]
    exact done
theorem fo_log {i : Int} (h : i.natAbs < 2 ^ 1900) : i.natAbs.log2 < 1920 := by
  by_cases z : i.natAbs = 0
  · rw [z]
    decide
  · have := (Nat.log2_lt z).mpr h
    omega
abbrev Ov (t : T) (s a : Int) (x y z : Option T) : En := [some (.mr 1), some t, some (.int s), some (.int a), some (.int far), x, y, z]
theorem odd_0 {E : Es} {D : List Cell} {s a : Int} {t : T} {l : List Dt} {y z : Option T} (hD : RI D) (hs : 1 ≤ s ∧ s ≤ 1000000000000000000000000000000) (ha : 1 ≤ a ∧ a ≤ 64) (hl : l ++ odd3 s = odds s a)
    (q : ∀ x D', Pv x → RI D' → E.rt (inj x) ⟨D', []⟩) : b__law_odd_kind_0 E (Ov t s a (some (.q (.lst l))) y z) ⟨D, []⟩ := by
  refine w_ret (w_call ?_)
  simp only [x_acons, x_anil, x_var, x_c, x_op, mQTup, mQLst, List.getElem?_cons_succ, List.getElem?_cons_zero]
  refine ⟨_, rfl, _, rfl, _, rfl, ?_⟩
  refine ⟨by unfold CPow; decide, ?_⟩
  refine ⟨by unfold CMul; decide, ?_⟩
  refine ⟨[.int s, .int (2 * 1000000000000000000000000000000)], rfl, two_ok, ?_⟩
  refine ⟨odd3 s, rfl, sz1, ?_⟩
  refine w_qadd (a := l) (b := odd3 s) rfl rfl (sz64' ?_) ?_
  · have := congrArg List.length hl
    rw [List.length_append, odds_len] at this
    omega
  rw [hl]
  refine ⟨by simp, sp_pickv hD ?_ ?_ fun x D' hx hD' => q x D' (odds_ok hs ha x hx) hD'⟩
  · intro z
    have := odds_len s a
    rw [z] at this
    cases this
  · rw [odds_len]
    omega
theorem odd_1 {E : Es} {D : List Cell} {s a : Int} {t : T} {l : List Dt} {y z : Option T} (et : tq t = some (.tup [.int s, .int a])) (hD : RI D) (hs : 1 ≤ s ∧ s ≤ 1000000000000000000000000000000) (ha : 1 ≤ a ∧ a ≤ 64) (hl : l ++ odd2 s a ++ odd3 s = odds s a)
    (q : ∀ x D', Pv x → RI D' → E.rt (inj x) ⟨D', []⟩) : b__law_odd_kind_1 E (Ov t s a (some (.q (.lst l))) y z) ⟨D, []⟩ := by
  refine w_seq (w_set (w_op ⟨_, rfl, w_qlst ?_⟩))
  simp only [x_acons, x_anil, x_var, x_c, mQTup, mQLst, mQDic, goQD, x_tup, List.getElem?_cons_succ, List.getElem?_cons_zero]
  refine ⟨_, rfl, [.int s], rfl, sz1, ?_⟩
  refine ⟨_, rfl, _, rfl, [.int s, .int a, .int 1], rfl, sz3, ?_⟩
  refine ⟨_, rfl, _, rfl, [.int s, .int a], rfl, two_ok, ?_⟩
  refine ⟨sz64' (by decide), ?_⟩
  refine ⟨_, rfl, ?_⟩
  refine ⟨_, rfl, .inl s, rfl, _, rfl, .int a, rfl, ⟨by simp, by simp⟩, ?_⟩
  refine ⟨_, rfl, ?_⟩
  refine ⟨sz64' (by decide), ?_⟩
  refine ⟨odd2 s a, ?_, sz64' (show 10 ≤ 100000 by decide), ?_⟩
  · exact tqs_c rfl (tqs_c rfl (tqs_c rfl (tqs_c rfl (tqs_c rfl (tqs_c rfl (tqs_c rfl (tqs_c rfl (tqs_c et (tqs_c rfl rfl)))))))))
  refine w_qadd (a := l) (b := odd2 s a) rfl rfl (sz64' ?_) ?_
  · have := congrArg List.length hl
    rw [List.length_append, odds_len] at this
    simp only [List.length_append] at this ⊢
    omega
  exact odd_0 hD hs ha hl q
theorem odd_2 {E : Es} {D : List Cell} {s a : Int} {t : T} {l : List Dt} {y z : Option T} (et : tq t = some (.tup [.int s, .int a])) (hD : RI D) (hs : 1 ≤ s ∧ s ≤ 1000000000000000000000000000000) (ha : 1 ≤ a ∧ a ≤ 64) (hl : l ++ (whA a).map (fun x => .tup [.int s, x]) ++ odd2 s a ++ odd3 s = odds s a)
    (q : ∀ x D', Pv x → RI D' → E.rt (inj x) ⟨D', []⟩) : b__law_odd_kind_2 E (Ov t s a (some (.q (.lst l))) y z) ⟨D, []⟩ := by
  refine w_seq (w_set (w_op ⟨_, rfl, w_qlc ?_⟩))
  simp only [iQSeq, x_acons, x_anil, x_var, x_c, x_op, x_call, mQTup, mQLst, List.getElem?_cons_succ, List.getElem?_cons_zero]
  refine ⟨_, rfl, trivial, ?_⟩
  refine ⟨_, rfl, ?_⟩
  refine ⟨fo_log (i := a) (Nat.lt_of_lt_of_le (m := 65) (by omega) (by decide +kernel)), ?_⟩
  refine ⟨_, rfl, [.int a], rfl, sz1, ?_⟩
  refine ⟨whA a, rfl, sz64' (show 12 ≤ 100000 by decide), ?_⟩
  show goLcQ _ _ _ _ _ ((whA a).map inj) [] _
  refine lcQ_map (fun x => .tup [.int s, x]) (show 12 ≤ 100000 by decide) (fun x acc R hx hz r => ?_) ?_
  · rw [x_gn]
    refine w_yes (ifT rfl (w_qtup ?_))
    simp only [x_acons, x_anil, x_var]
    exact ⟨_, rfl, _, rfl, [.int s, x], tqs_c rfl (tqs_c (tq_inj x) rfl), two_ok, .tup [.int s, x], rfl, hz, r⟩
  · refine w_qadd (a := l) (b := (whA a).map (fun x => .tup [.int s, x])) rfl rfl (sz64' ?_) ?_
    · have := congrArg List.length hl
      rw [odds_len] at this
      simp only [List.length_append] at this ⊢
      omega
    exact odd_1 et hD hs ha hl q
theorem odd_3 {E : Es} {D : List Cell} {s a : Int} {t : T} {l : List Dt} {z : Option T} (et : tq t = some (.tup [.int s, .int a])) (hD : RI D) (hs : 1 ≤ s ∧ s ≤ 1000000000000000000000000000000) (ha : 1 ≤ a ∧ a ≤ 64) (hl : l ++ (whl s).map (fun x => .tup [x, .int a]) ++ (whA a).map (fun x => .tup [.int s, x]) ++ odd2 s a ++ odd3 s = odds s a)
    (q : ∀ x D', Pv x → RI D' → E.rt (inj x) ⟨D', []⟩) : b__law_odd_kind_3 E (Ov t s a (some (.q (.lst l))) (some (.q (.lst (whl s)))) z) ⟨D, []⟩ := by
  refine w_seq (w_set (w_op ⟨_, rfl, w_qlc ?_⟩))
  show iQSeq (mVar 6) _ _ _
  refine ⟨_, rfl, ?_⟩
  show goLcQ _ _ _ _ _ ((whl s).map inj) [] _
  refine lcQ_map (fun x => .tup [x, .int a]) (show 11 ≤ 100000 by decide) (fun x acc R hx hz r => ?_) ?_
  · rw [x_gn]
    refine w_yes (ifT rfl (w_qtup ?_))
    simp only [x_acons, x_anil, x_var]
    exact ⟨_, rfl, _, rfl, [x, .int a], tqs_c (tq_inj x) (tqs_c rfl rfl), two_ok, .tup [x, .int a], rfl, hz, r⟩
  · refine w_qadd (a := l) (b := (whl s).map (fun x => .tup [x, .int a])) rfl rfl (sz64' ?_) ?_
    · have := congrArg List.length hl
      rw [odds_len] at this
      simp only [List.length_append] at this ⊢
      omega
    exact odd_2 et hD hs ha hl q
theorem sp_oddkind {D : List Cell} {s a : Int} {t : T} {Q : T → List Cell → Prop} (et : tq t = some (.tup [.int s, .int a])) (hD : RI D) (hs : 1 ≤ s ∧ s ≤ 1000000000000000000000000000000) (ha : 1 ≤ a ∧ a ≤ 64) (q : ∀ x D', Pv x → RI D' → Q (inj x) D') : d__law_odd_kind [.mr 1, t] D Q := by
  refine ⟨rfl, ?_⟩
  show b__law_odd_kind_6 _ [some (.mr 1), some t, none, none, none, none, none, none] _
  refine w_seq (w_asg (w_qtup ?_))
  simp only [x_acons, x_anil, x_var, x_call, x_def, List.getElem?_cons_succ, List.getElem?_cons_zero]
  refine ⟨_, rfl, by simp, sp_far ?_⟩
  refine ⟨[.tup [.int s, .int a], .int far], tqs_c et (tqs_c rfl rfl), two_ok, ?_⟩
  refine ⟨rfl, ?_⟩
  refine ⟨rfl, ?_⟩
  refine ⟨rfl, ?_⟩
  refine ⟨rfl, ?_⟩
  show b__law_odd_kind_5 _ (Ov t s a none none none) _
  refine w_seq (w_set (w_qlst ?_))
  simp only [x_acons, x_anil, x_var, x_c, x_op, mQTup, List.getElem?_cons_succ, List.getElem?_cons_zero]
  refine ⟨_, rfl, _, rfl, [.int far, .int a], rfl, two_ok, ?_⟩
  refine ⟨_, rfl, trivial, _, rfl, [.int (0 - far), .int a], rfl, two_ok, ?_⟩
  refine ⟨_, rfl, _, rfl, [.int s, .int far], rfl, two_ok, ?_⟩
  refine ⟨_, rfl, _, rfl, trivial, [.int s, .int (0 - far)], rfl, two_ok, ?_⟩
  refine ⟨odd1 s a, rfl, sz4', ?_⟩
  show b__law_odd_kind_4 _ (Ov t s a (some (.q (.lst (odd1 s a)))) none none) _
  refine w_seq (w_set (w_qlst ?_))
  simp only [x_acons, x_anil, x_var, x_c, x_op, x_un, x_call, mQTup, mQLst, mQDic, goQD, List.getElem?_cons_succ, List.getElem?_cons_zero]
  have fs := fo_log (i := s) (Nat.lt_of_lt_of_le (m := 1000000000000000000000000000001) (by omega) (by decide +kernel))
  refine ⟨_, rfl, trivial, ?_⟩
  refine ⟨by unfold CPow; decide, ?_⟩
  refine ⟨_, rfl, fs, ?_⟩
  refine ⟨_, rfl, [.int s], rfl, sz1, ?_⟩
  refine ⟨_, rfl, [.int s], rfl, sz1, ?_⟩
  refine ⟨by unfold CPow; decide, ?_⟩
  refine ⟨⟨by simp, by simp⟩, ?_⟩
  refine ⟨whl s, rfl, sz64' (show 11 ≤ 100000 by decide), ?_⟩
  show b__law_odd_kind_3 _ (Ov t s a (some (.q (.lst (odd1 s a)))) (some (.q (.lst (whl s)))) none) _
  exact odd_3 et hD hs ha rfl fun x D' hx hD' => ⟨noL_inj _, q x D' hx hD'⟩
end K01
set_option Elab.async false
set_option linter.all false
set_option maxRecDepth 100000
set_option maxHeartbeats 1000000
namespace K01
open PySem PySem.Spec L2 L3 Sh Wm Yq Wl
theorem cutT_mem {α : Type} {xs : List α} {lo hi : Option Int} {x : α} (h : x ∈ cutT xs lo hi) : x ∈ xs := List.mem_of_mem_drop (List.mem_of_mem_take h)
theorem cutT_len {α : Type} (xs : List α) (lo hi : Option Int) : (cutT xs lo hi).length ≤ xs.length := by
  unfold cutT
  rw [List.length_take, List.length_drop]
  omega
theorem ups_mem {l : List PyData} {x : Dt} (h : x ∈ ups l) : ∃ y ∈ l, x = up y := by
  induction l with
  | nil => cases h
  | cons a l ih =>
    rcases List.mem_cons.mp (show x ∈ up a :: ups l from h) with e | e
    · exact ⟨a, List.mem_cons_self, e⟩
    · obtain ⟨y, hy, e⟩ := ih e
      exact ⟨y, List.mem_cons_of_mem _ hy, e⟩
theorem ups_len : ∀ l : List PyData, (ups l).length = l.length
  | [] => rfl
  | x :: l => by
    show (ups l).length + 1 = l.length + 1
    rw [ups_len l]
theorem wq_app {w w' k : Nat} : ∀ {a b : List Dt}, WqA w k a → WqA w' k b → WqA (w + w') k (a ++ b)
  | [], b, _, g => g.mono (by omega) (Nat.le_refl _)
  | x :: a, b, h, g => by
    obtain ⟨ys, h1, h2, h3, h4, h5⟩ := h.ex
    unfold pds at h1
    split at h1
    · rename_i y zs e1 e2
      cases h1
      simp only [PyData.showableAll, PyData.leavesShortAll, Bool.and_eq_true] at h2 h3
      simp only [PyData.weightAll] at h4
      simp only [PyData.depthAll] at h5
      have hx : Wq y.weight k x := ⟨y, e1, h2.1, h3.1, Nat.le_refl _, by omega⟩
      have ha : WqA (PyData.weightAll zs) k a := ⟨zs, e2, h2.2, h3.2, Nat.le_refl _, by omega⟩
      exact (wq_cons hx (wq_app ha g)).mono (by omega) (Nat.le_refl _)
    · cases h1
def Sv (x : Dt) : Prop := Wq 20000 7 x ∧ obB x = true
/-- kinds as they were drawn -/
def Ks (xs : List Dt) : Prop := ∀ x ∈ xs, Wq 404 1 x ∧ obB x = true
theorem wq_kd {k : Int × Int} (g : GK k) : Wq 404 1 (up (kd k)) := by
  have := g.1
  have := g.2.pos
  exact (wq_tup (wq_cons (wq_int (by omega)) (wq_one (wq_int (by omega))))).mono (by omega) (by omega)
theorem ks_of {l : List PyData} {K : Bk6} (g : GB K) (h : ∀ x ∈ l, x ∈ K.map kd) : Ks (ups l) := by
  intro x hx
  obtain ⟨y, hy, rfl⟩ := ups_mem hx
  obtain ⟨k, hk, rfl⟩ := List.mem_map.mp (h y hy)
  exact ⟨wq_kd (g.ok k hk), ob_up _⟩
theorem ks_app {xs ys : List Dt} (h : Ks xs) (g : Ks ys) : Ks (xs ++ ys) := all_a h g
theorem ks_tup {xs : List Dt} (h : Ks xs) (hl : xs.length ≤ 43) : Sv (.tup xs) := by
  refine ⟨(wq_tup ((wq_all fun x hx => (h x hx).1).mono (Nat.mul_le_mul_right _ hl) (Nat.le_refl _))).mono (by omega) (by omega), ?_⟩
  exact ob_all fun x hx => (h x hx).2
theorem ks_lst {xs : List Dt} (h : Ks xs) (hl : xs.length ≤ 43) : Sv (.lst xs) := by
  refine ⟨(wq_lst ((wq_all fun x hx => (h x hx).1).mono (Nat.mul_le_mul_right _ hl) (Nat.le_refl _))).mono (by omega) (by omega), ?_⟩
  exact ob_all fun x hx => (h x hx).2
theorem rep_mem {α : Type} {n : Nat} {l : List α} {x : α} (h : x ∈ (List.replicate n l).flatten) : x ∈ l := by
  obtain ⟨m, hm, hx⟩ := List.mem_flatten.mp h
  rw [(List.mem_replicate.mp hm).2] at hx
  exact hx
theorem rep_len {α : Type} {n : Nat} {l : List α} : (List.replicate n l).flatten.length = n * l.length := by
  induction n with
  | zero => simp
  | succ n ih =>
    rw [List.replicate_succ, List.flatten_cons, List.length_append, ih, Nat.succ_mul]
    omega
abbrev Sb (K : Bk6) (n i : Int) (x : Option T) : En := [some (.mr 1), some (.d (bkD K)), some (.int n), some (.int i), x]
theorem uK_ks {K : Bk6} (g : GB K) : Ks (ups (K.map kd)) := ks_of g fun _ h => h
theorem uK_len {K : Bk6} : (ups (K.map kd)).length = K.length := by rw [ups_len, List.length_map]
theorem kd_in {K : Bk6} {i : Nat} (g : GB K) (hi : i < K.length) : (ups (K.map kd))[i]? = some (.tup [.int (kat K i).1, .int (kat K i).2]) := by
  rw [ups_map, List.getElem?_map, (kat_ok g hi).2]
  rfl
theorem w_ixb {K : Bk6} {i : Nat} {M : Mem} {Q : Kt} (g : GB K) (hi : i < K.length) (q : Q (.q (.tup [.int (kat K i).1, .int (kat K i).2])) M) : oQIx (.d (bkD K)) (.d (.int (i : Int))) M Q := by
  have h := kd_in g hi
  refine w_qixT (a := ups (K.map kd)) rfl (by rw [uK_len]; exact hi) ?_
  rw [List.getElem?_eq_getElem (by rw [uK_len]; exact hi)] at h
  rw [Option.some.inj h]
  exact q
theorem w_qaddI {i j : Int} {M : Mem} {Q : Kt} (q : Q (.int (i + j)) M) : oQAdd (.d (.int i)) (.d (.int j)) M Q := q
theorem spoilt_2 {E : Es} {K : Bk6} {D : List Cell} {n i : Int} {x : Option T} (g : GB K) (q : ∀ x, Sv x → E.rt (inj x) ⟨D, []⟩) : b__law_spoilt_2 E (Sb K n i x) ⟨D, []⟩ := by
  have h6 := g.six
  refine w_ret (w_op (w_slT rfl ⟨_, rfl, ?_⟩))
  show oSl (.d (.tuple (K.map kd))) _ _ _ _
  rw [x_sltup]
  simp only [x_sl, x_onone, x_opart, x_var, x_c, x_op, List.getElem?_cons_succ, List.getElem?_cons_zero]
  refine ⟨_, rfl, _, rfl, w_qaddI ?_⟩
  show oSl (.d (.tuple (K.map kd))) _ _ _ _
  rw [x_sltup]
  refine w_qaddT rfl rfl ?_ ?_
  · rw [ups_len, ups_len]
    have h1 := cutT_len (K.map kd) none (some i)
    have h2 := cutT_len (K.map kd) (some (i + 1)) none
    rw [List.length_map] at h1 h2
    exact sz64' (by omega)
  · refine q (.tup _) (ks_tup (ks_app (ks_of g fun x hx => cutT_mem hx) (ks_of g fun x hx => cutT_mem hx)) ?_)
    rw [List.length_append, ups_len, ups_len]
    have h1 := cutT_len (K.map kd) none (some i)
    have h2 := cutT_len (K.map kd) (some (i + 1)) none
    rw [List.length_map] at h1 h2
    omega
theorem spoilt_3 {E : Es} {K : Bk6} {D : List Cell} {n : Int} {i : Nat} {x : Option T} (hD : RI D) (g : GB K) (hi : i < K.length) (q : ∀ x D', Sv x → RI D' → E.rt (inj x) ⟨D', []⟩) : b__law_spoilt_3 E (Sb K n (i : Int) x) ⟨D, []⟩ := by
  have h6 := g.six
  have gk := (kat_ok g hi).1
  refine w_ret (w_op (w_op (w_slT rfl ⟨_, rfl, ?_⟩)))
  show oSl (.d (.tuple (K.map kd))) _ _ _ _
  rw [x_sltup]
  refine w_qtup (w_ac (w_call (w_ac ⟨_, rfl, w_ac (w_op ⟨_, rfl, _, rfl, w_ixb g hi ?_⟩)⟩)))
  refine w_an ⟨by simp, sp_oddkind rfl hD gk.1 gk.2.pos fun y D1 hy hD1 => ?_⟩
  refine w_an ⟨[y], tqs_c (tq_inj y) rfl, sz1, ?_⟩
  show oQAdd (.d (.tuple (cutT (K.map kd) none (some (i : Int))))) _ _ _
  have h1 := cutT_len (K.map kd) none (some (i : Int))
  have h2 := cutT_len (K.map kd) (some ((i : Int) + 1)) none
  rw [List.length_map] at h1 h2
  refine w_qaddT rfl rfl ?_ ?_
  · rw [ups_len]
    exact sz64' (show _ + 1 ≤ _ by omega)
  simp only [x_sl, x_onone, x_opart, x_var, x_c, x_op, List.getElem?_cons_succ, List.getElem?_cons_zero]
  refine ⟨_, rfl, _, rfl, w_qaddI ?_⟩
  show oSl (.d (.tuple (K.map kd))) _ _ _ _
  rw [x_sltup]
  have ka := ks_of g (l := cutT (K.map kd) none (some (i : Int))) fun x hx => cutT_mem hx
  have kb := ks_of g (l := cutT (K.map kd) (some ((i : Int) + 1)) none) fun x hx => cutT_mem hx
  have la : (ups (cutT (K.map kd) none (some (i : Int)))).length ≤ 6 := by rw [ups_len]; omega
  have lb : (ups (cutT (K.map kd) (some ((i : Int) + 1)) none)).length ≤ 6 := by rw [ups_len]; omega
  generalize ups (cutT (K.map kd) none (some (i : Int))) = A at ka la
  show oQAdd _ (.d (.tuple (cutT (K.map kd) (some ((i : Int) + 1)) none))) _ _
  refine w_qaddT (b := ups (cutT (K.map kd) (some ((i : Int) + 1)) none)) rfl rfl ?_ ?_
  · rw [List.length_append]
    exact sz64' (show _ + 1 + _ ≤ _ by omega)
  generalize ups (cutT (K.map kd) (some ((i : Int) + 1)) none) = B at kb lb
  refine q (.tup _) D1 ⟨?_, ?_⟩ hD1
  · have wa : WqA (6 * 405) 4 A := (wq_all fun x hx => ((ka x hx).1.mono (Nat.le_refl _) (by omega) : Wq 404 4 x)).mono (Nat.mul_le_mul_right _ la) (Nat.le_refl _)
    have wb : WqA (6 * 405) 4 B := (wq_all fun x hx => ((kb x hx).1.mono (Nat.le_refl _) (by omega) : Wq 404 4 x)).mono (Nat.mul_le_mul_right _ lb) (Nat.le_refl _)
    refine (wq_tup (wq_app (wq_app wa (wq_one hy.1)) wb)).mono (by omega) (by omega)
  · refine ob_all (xs := A ++ [y] ++ B) fun z hz => ?_
    rcases List.mem_append.mp hz with hz | hz
    · rcases List.mem_append.mp hz with hz | hz
      · exact (ka z hz).2
      · rw [List.mem_singleton.mp hz]
        exact hy.2
    · exact (kb z hz).2
theorem w_qlistT {a : List Dt} {t : T} {M : Mem} {Q : Kt} (e : tq t = some (.tup a)) (q : Q (.q (.lst a)) M) : fQList [t] M Q := by
  unfold fQList
  simp only [e]
  exact q
theorem w_repT {l : List PyData} {j : Int} {M : Mem} {Q : Kt} (h : l ≠ [] ∧ 2 ≤ j ∧ j ≤ 1000 ∧ l.length ≤ 1000) (q : Q (.d (.tuple (List.replicate j.toNat l).flatten)) M) : oRepT (.d (.tuple l)) (.d (.int j)) M Q := ⟨h, q⟩
def spl (K : Bk6) : List Dt := [.lst (ups (K.map kd)), .tup [], .non, .tup (ups (List.replicate 7 (K.map kd)).flatten), .tup [.tup (ups (K.map kd))], .tup [.int (kat K 0).1, .int (kat K 0).2], .str "6/4 3/2", .dic [] [], .int 7, .bl true,
  .tup (ups (K.map kd) ++ ups (List.replicate 6 (cutT (K.map kd) none (some 1))).flatten)]
theorem sv_le {w k : Nat} {x : Dt} (h : Wq w k x) (hw : w ≤ 20000) (hk : k ≤ 7) (o : obB x = true) : Sv x := ⟨h.mono hw hk, o⟩
theorem spl_ok {K : Bk6} (g : GB K) : ∀ x ∈ spl K, Sv x := by
  have h6 := g.six
  have kk := uK_ks g
  have kl : (ups (K.map kd)).length ≤ 6 := by rw [uK_len]; exact h6
  unfold spl
  refine all_c (ks_lst kk (by omega)) ?_
  refine all_c (sv_le (wqB_ok (by decide +kernel) : Wq 201 1 (.tup [])) (by omega) (by omega) rfl) ?_
  refine all_c (sv_le (wqB_ok (by decide +kernel) : Wq 201 1 .non) (by omega) (by omega) rfl) ?_
  refine all_c (ks_tup (ks_of g fun x hx => rep_mem hx) ?_) ?_
  · rw [ups_len, rep_len, List.length_map]
    omega
  refine all_c ⟨(wq_tup (wq_one (wq_tup ((wq_all fun x hx => (kk x hx).1).mono (Nat.mul_le_mul_right _ kl) (Nat.le_refl _))))).mono (by omega) (by omega), ?_⟩ ?_
  · refine ob_all (xs := [.tup (ups (K.map kd))]) fun x hx => ?_
    rw [List.mem_singleton.mp hx]
    exact ob_all fun x hx => (kk x hx).2
  have k0 : 0 < K.length := List.length_pos_iff.mpr g.ne
  refine all_c ⟨(wq_kd (kat_ok g k0).1).mono (by omega) (by omega), rfl⟩ ?_
  refine all_c (sv_le (wqB_ok (by decide +kernel) : Wq 201 1 (.str "6/4 3/2")) (by omega) (by omega) rfl) ?_
  refine all_c (sv_le (wqB_ok (by decide +kernel) : Wq 201 1 (.dic [] [])) (by omega) (by omega) rfl) ?_
  refine all_c (sv_le (wqB_ok (by decide +kernel) : Wq 201 1 (.int 7)) (by omega) (by omega) rfl) ?_
  refine all_c (sv_le (wqB_ok (by decide +kernel) : Wq 201 1 (.bl true)) (by omega) (by omega) rfl) ?_
  refine all_c (ks_tup (ks_app kk (ks_of g fun x hx => cutT_mem (rep_mem hx))) ?_) all_n
  have := cutT_len (K.map kd) none (some 1)
  rw [List.length_map] at this
  rw [List.length_append, ups_len, ups_len, rep_len, List.length_map]
  omega
theorem cut1' {α : Type} {l : List α} (h : l ≠ []) : cutT l none (some 1) ≠ [] := by
  have : 0 < l.length := List.length_pos_iff.mpr h
  have e := cut_to (l := l) (p := 1) (by omega)
  rw [show ((1 : Nat) : Int) = 1 from rfl] at e
  rw [e]
  intro z
  have := congrArg List.length z
  rw [List.length_take, List.length_nil] at this
  omega
theorem spoilt_1 {E : Es} {K : Bk6} {D : List Cell} {n i : Int} {x : Option T} (hD : RI D) (g : GB K) (q : ∀ x D', Sv x → RI D' → E.rt (inj x) ⟨D', []⟩) : b__law_spoilt_1 E (Sb K n i x) ⟨D, []⟩ := by
  have h6 := g.six
  have k0 : 0 < K.length := List.length_pos_iff.mpr g.ne
  have ne : K.map kd ≠ [] := by
    intro z
    have := congrArg List.length z
    rw [List.length_map] at this
    simp at this
    exact g.ne this
  refine w_seq (w_set (w_qlst ?_))
  simp only [x_acons, x_anil, x_var, x_c, x_op, x_call, x_tup, mQTup, mQDic, goQD, x_sl, x_onone, x_opart, List.getElem?_cons_succ, List.getElem?_cons_zero]
  refine ⟨_, rfl, ?_⟩
  refine w_qlistT (a := ups (K.map kd)) rfl ?_
  refine ⟨sz64' (by decide), ?_⟩
  refine ⟨_, rfl, ?_⟩
  refine w_repT (l := K.map kd) ⟨ne, by decide, by decide, by rw [List.length_map]; omega⟩ ?_
  refine ⟨_, rfl, [.tup (ups (K.map kd))], rfl, sz1, ?_⟩
  refine ⟨_, rfl, ?_⟩
  refine w_ixb (i := 0) g k0 ?_
  refine ⟨⟨by simp, by simp⟩, ?_⟩
  refine ⟨_, rfl, _, rfl, ?_⟩
  show oSl (.d (.tuple (K.map kd))) _ _ _ _
  rw [x_sltup]
  have h1 := cutT_len (K.map kd) none (some 1)
  rw [List.length_map] at h1
  refine w_repT (l := cutT (K.map kd) none (some 1)) ⟨cut1' ne, by decide, by decide, by omega⟩ ?_
  refine w_qaddT (a := ups (K.map kd)) (b := ups (List.replicate 6 (cutT (K.map kd) none (some 1))).flatten) rfl rfl ?_ ?_
  · rw [ups_len, ups_len, rep_len, List.length_map]
    exact sz64' (by omega)
  refine ⟨spl K, rfl, sz64' (show 11 ≤ 100000 by decide), ?_⟩
  show b__law_spoilt_0 E (Sb K n i (some (.q (.lst (spl K))))) ⟨D, []⟩
  refine w_ret (w_call (w_ac ⟨_, rfl, w_ac ⟨_, rfl, ⟨by simp, sp_pickv hD (by unfold spl; simp) (show 11 < 100000 by decide) fun x D' hx hD' => ?_⟩⟩⟩))
  exact q x D' (spl_ok g x hx) hD'
theorem sp_spoilt {D : List Cell} {K : Bk6} {Q : T → List Cell → Prop} (hD : RI D) (g : GB K) (q : ∀ x D', Sv x → RI D' → Q (inj x) D') : d__law_spoilt [.mr 1, .d (bkD K)] D Q := by
  have h6 := g.six
  have k0 : 0 < K.length := List.length_pos_iff.mpr g.ne
  refine ⟨rfl, ?_⟩
  show b__law_spoilt_6 _ [some (.mr 1), some (.d (bkD K)), none, none, none] _
  refine w_seq (w_par ?_)
  simp only [x_acons, x_anil, x_var, x_c, x_call, x_def, List.getElem?_cons_succ, List.getElem?_cons_zero]
  refine ⟨_, rfl, by simp, sp_draw hD (by omega) (by omega) fun n D1 n0 n1 hD1 => ?_⟩
  refine ⟨_, rfl, _, rfl, ?_⟩
  refine w_qlenT (a := ups (K.map kd)) rfl ?_
  rw [uK_len]
  refine ⟨by simp, sp_draw hD1 (by omega) (by omega) fun i D2 i0 i1 hD2 => ?_⟩
  obtain ⟨j, rfl⟩ : ∃ j : Nat, i = j := ⟨i.toNat, by omega⟩
  show b__law_spoilt_5 _ (Sb K n (j : Int) none) _
  refine w_seq (w_if (w_test (w_op ⟨_, rfl, w_c ?_⟩)))
  show oEq false (.d (.int n)) (.d (.int 0)) _ _
  rw [x_eqi]
  refine ⟨_, rfl, ?_⟩
  by_cases e0 : n = 0
  · refine ifT (by simp [e0]) ?_
    exact spoilt_1 hD2 g fun x D' hx hD' => ⟨noL_inj _, q x D' hx hD'⟩
  · refine ifF (by simp [e0]) ?_
    show b__law_spoilt_4 _ (Sb K n (j : Int) none) _
    refine w_seq (w_if (w_test (w_op ⟨_, rfl, w_c ?_⟩)))
    show oEq false (.d (.int n)) (.d (.int 1)) _ _
    rw [x_eqi]
    refine ⟨_, rfl, ?_⟩
    by_cases e1 : n = 1
    · refine ifT (by simp [e1]) ?_
      exact spoilt_2 g fun x hx => ⟨noL_inj _, q x D2 hx hD2⟩
    · refine ifF (by simp [e1]) ?_
      exact spoilt_3 hD2 g (by omega) fun x D' hx hD' => ⟨noL_inj _, q x D' hx hD'⟩
end K01
set_option Elab.async false
set_option linter.all false
set_option maxRecDepth 100000
set_option maxHeartbeats 1000000
namespace K01
open PySem PySem.Spec L2 L3 Sh Wm Yq Wl
theorem sh_row (r : List Nat) : SeqAt.shaped (.list (r.map ix)) = true := by
  have := shaped_ints (r.map fun (i : Nat) => (i : Int))
  rw [List.map_map] at this
  exact this
theorem er_map {α β : Type} (f : α → β) : ∀ (l : List α) (k : Nat), (l.map f).eraseIdx k = (l.eraseIdx k).map f
  | [], _ => rfl
  | _ :: _, 0 => rfl
  | a :: l, k + 1 => by
    show f a :: (l.map f).eraseIdx k = f a :: (l.eraseIdx k).map f
    rw [er_map f l k]
theorem er_perm {α : Type} : ∀ (l : List α) (k : Nat) (h : k < l.length), (l[k] :: l.eraseIdx k).Perm l
  | [], _, h => absurd h (Nat.not_lt_zero _)
  | _ :: _, 0, _ => .refl _
  | a :: l, k + 1, h => by
    have ih := er_perm l k (Nat.lt_of_succ_lt_succ h)
    exact (List.Perm.swap a (l[k]'(Nat.lt_of_succ_lt_succ h)) (l.eraseIdx k)).trans (ih.cons a)
theorem mixed_go {r : List Nat} {E : Es} {t : Option T} (hr : r.length ≤ 100) (done : ∀ (f : List Nat) D', f.Perm r → RI D' → E.nx [some (.mr 1), t, some (.lr 0), some (.lr 1)] ⟨D', [some [], some (f.map ix)]⟩) :
    ∀ (m : Nat) (left found : List Nat) (D' : List Cell), left.length = m → RI D' → (found ++ left).Perm r → goWh (mTest (mOp (oEq true) (mVar 2) (mLst aNil))) b__law_mixed_0 E (m + 1) [some (.mr 1), t, some (.lr 0), some (.lr 1)] ⟨D', [some (left.map ix), some (found.map ix)]⟩ := by
  intro m
  induction m with
  | zero =>
    intro left found D' hl hD hp
    have e : left = [] := List.eq_nil_of_length_eq_zero hl
    subst e
    rw [List.append_nil] at hp
    unfold goWh
    simp
    rw [x_eq (a := .list []) (b := .list []) rfl rfl (shaped_ints []) (shaped_ints []) (fun _ z => nomatch z), eqv_nil]
    simp
    exact done found D' hp hD
  | succ m ih =>
    intro left found D' hl hD hp
    have hlen := hp.length_eq
    rw [List.length_append] at hlen
    unfold goWh
    simp
    rw [x_eq (a := .list (left.map ix)) (b := .list []) rfl rfl (sh_row left) (shaped_ints []) (fun _ z => nomatch z), eqv_nil]
    have e1 : (left.map ix).isEmpty = false := by
      cases left with
      | nil => cases hl
      | cons a l => rfl
    simp [e1]
    rw [show ∀ Q : Kt, fLen [T.lr 0] ⟨D', [some (left.map ix), some (found.map ix)]⟩ Q = Q (.int ((left.map ix).length : Nat)) ⟨D', [some (left.map ix), some (found.map ix)]⟩ from fun _ => rfl, List.length_map]
    refine ⟨rfl, ?_⟩
    refine sp_draw hD (by omega) (by omega) fun n D1 n0 n1 hD1 => ?_
    obtain ⟨k, rfl⟩ : ∃ k : Nat, n = k := ⟨n.toNat, by omega⟩
    have hk : k < left.length := by omega
    simp
    try refine ⟨by omega, ?_⟩
    intro z hz
    have hz2 := List.getElem?_eq_getElem hk
    rw [hz2] at hz
    cases hz
    refine ⟨by rw [sizeLine_eq]; omega, ?_⟩
    have e2 : List.map ix found ++ [ix left[k]] = (found ++ [left[k]]).map ix := by simp
    have e3 : (left.map ix).eraseIdx k = (left.eraseIdx k).map ix := er_map ix left k
    rw [e2, e3]
    refine ih (left.eraseIdx k) (found ++ [left[k]]) D1 (by rw [List.length_eraseIdx, if_pos hk]; omega) hD1 ?_
    refine List.Perm.trans ?_ hp
    rw [List.append_assoc]
    refine List.Perm.append_left _ ?_
    exact er_perm left k hk
theorem sp_mixed {r : List Nat} {D : List Cell} {Q : T → List Cell → Prop} (hD : RI D) (hr : r.length ≤ 100) (q : ∀ (f : List Nat) D', f.Perm r → RI D' → Q (.lst (f.map ix)) D') : d__law_mixed [.mr 1, .lst (r.map ix)] D Q := by
  refine ⟨rfl, w_seq ?_⟩
  simp
  rw [show ∀ Q : Kt, fListL [T.lst (r.map ix)] ⟨D, []⟩ Q = Q (.lr 0) ⟨D, [some (r.map ix)]⟩ from fun _ => rfl]
  refine w_seq ⟨r.length + 1, ?_⟩
  refine mixed_go hr (fun f D' hp hD' => ?_) r.length r [] D rfl hD (by simp)
  simp
  exact q f D' hp hD'
theorem noL_tq {t : T} {x : Dt} (e : tq t = some x) : noL t = true := by
  cases t with
  | d y => rfl
  | q y => rfl
  | _ => cases e
theorem w_isTupT {i : Nat} {xs : List Dt} {t : T} {τ : En} {M : Mem} {Q : Kt} (ht : τ[i]? = some (some t)) (et : tq t = some (.tup xs)) (q : Q (.bl true) M) : mQIsj "tuple" qt_tuple [("Desk", false)] (mVar i) τ M Q :=
  ⟨_, ht, _, et, .inl ⟨"tuple", true, rfl, (kit_at (by decide)).2.2, q⟩⟩
theorem sp_tupwithinT {D : List Cell} {t : T} {xs : List Dt} {a b : Int} {Q : T → List Cell → Prop} (et : tq t = some (.tup xs)) (q : Q (.bl (tupB a b (.tup xs))) D) : d_is_tuple_within [t, .int a, .int b] D Q := by
  refine ⟨rfl, w_ret (w_and (w_isTupT rfl et ?_))⟩
  refine chain_int (v_at rfl) (fun R r => ?_) (v_at rfl) ⟨rfl, q⟩
  exact ⟨t, rfl, w_qlenT et r⟩
theorem sp_bookerrorT {D : List Cell} {t : T} {xs : List Dt} {Q : T → List Cell → Prop} (et : tq t = some (.tup xs)) (hl : tupB 1 6 (.tup xs) = true) (ho : obBs xs = true) (q : Q (inj (faultD (.tup xs))) D) : d_book_error [t] D Q := by
  refine ⟨rfl, ?_⟩
  show b_book_error_5 _ [some t, none, none] _
  refine w_seq (w_if (w_bnot (w_test ?_)))
  simp only [x_call, x_acons, x_anil, x_var, x_c, x_def, List.getElem?_cons_succ, List.getElem?_cons_zero]
  refine ⟨_, rfl, by simp [noL_tq et], ?_⟩
  refine sp_tupwithinT et ⟨_, rfl, ?_⟩
  rw [hl, Bool.not_true, if_neg Bool.false_ne_true]
  have e : faultD (.tup xs) = (match badAt 0 xs with | some k => .tup [.str "kind", .int k] | none => .non) := by
    unfold faultD
    exact if_pos (len_in.mp hl)
  rw [e] at q
  show b_book_error_4 _ [some t, none, none] _
  refine w_seq ?_
  refine ⟨_, rfl, ?_⟩
  dsimp only
  rw [et]
  show goEnQ 1 2 b_book_error_2 _ 0 xs [some t, none, none] _
  refine en_prog xs 0 ho (fun n e => ?_) fun b' c' e => ?_
  · rw [e] at q
    exact ⟨rfl, q⟩
  · rw [e] at q
    exact ⟨rfl, q⟩
def bkE : PyData := .tuple [.tuple [.int 4, .int 4], .tuple [.int 1, .int 1]]
theorem w_setI {c f : Str} {o v : Me} {E : Es} {τ : En} {M : Mem} (h : v τ M fun y M1 => o τ M1 fun t M2 => ∃ n fs, t = .mr n ∧ M2.D[n]? = some (.ins c fs) ∧ noL y = true ∧ fs.length < 1000 ∧ E.nx τ { M2 with D := M2.D.set n (.ins c (putI f y fs)) }) : mSetI c f o v E τ M := h
theorem w_newD {r : Ma} {τ : En} {M : Mem} {Q : Kt} (h : r τ M fun ts M1 => ((∀ t ∈ ts, noL t = true) ∧ ts.length ≤ sizeLine) ∧ Q (.mr M1.D.length) { M1 with D := M1.D ++ [.lst ts] }) : mNewD r τ M Q := h
theorem clo_app {D C : List Cell} (h : clo D.length D) : clo D.length (D ++ C) := by
  unfold clo at h ⊢
  rw [List.take_left' rfl]
  rw [List.take_length] at h
  exact h
theorem w_setNew {D R : List Cell} {fs : List (Str × T)} {c f : Str} {L : List (Option (List PyData))} {r : Ma} {ts : List T} {E : Es} {τ : En} (h0 : τ[0]? = some (some (.mr D.length))) (hr : ∀ (M : Mem) (P : List T → Mem → Prop), P ts M → r τ M P) (hn : ∀ t ∈ ts, noL t = true) (hl : ts.length ≤ 1000) (hf : fs.length < 1000)
    (q : E.nx τ ⟨D ++ (Cell.ins c (putI f (.mr (D.length + (R.length + 1))) fs) :: (R ++ [Cell.lst ts])), L⟩) : mSetI c f (mVar 0) (mNewD r) E τ ⟨D ++ (Cell.ins c fs :: R), L⟩ := by
  refine w_setI (w_newD (hr _ _ ⟨⟨hn, sz64' (by omega)⟩, _, h0, D.length, fs, rfl, ?_, rfl, hf, ?_⟩))
  · show (D ++ _ ++ [_])[D.length]? = _
    rw [List.append_assoc, List.getElem?_append_right (Nat.le_refl _), Nat.sub_self]
    rfl
  · dsimp only
    rw [List.append_assoc, List.set_append_right _ _ (Nat.le_refl _), Nat.sub_self, List.length_append]
    exact q
theorem w_desk {D : List Cell} {L : List (Option (List PyData))} {τ : En} {Q : Kt} (hc : clo D.length D) (q : Q (.q (.obj "Desk" ["!"] [])) ⟨D, L⟩) : mNewQ "Desk" d_Desk____init__ (aCons (mTup (aCons (mTup (aCons (mC (.int 4)) (aCons (mC (.int 4)) aNil))) (aCons (mTup (aCons (mC (.int 1)) (aCons (mC (.int 1)) aNil))) aNil))) aNil) τ ⟨D, L⟩ Q := by
  unfold mNewQ
  simp only [x_acons, x_anil, x_tup, x_c]
  refine ⟨two_ok, two_ok, two_ok, by simp, ?_⟩
  refine ⟨rfl, ?_⟩
  show b_Desk____init___5 _ [some (.mr D.length), some (.d bkE), none] _
  refine w_seq (w_set (w_call (w_ac ⟨_, rfl, w_an ⟨by simp, sp_bookerrorT (t := .d bkE) (xs := [up (.tuple [.int 4, .int 4]), up (.tuple [.int 1, .int 1])]) rfl (by decide) rfl ?_⟩⟩)))
  show b_Desk____init___4 _ [some (.mr D.length), some (.d bkE), some (.d .none)] _
  refine w_seq (w_if (w_test (w_op ⟨_, rfl, w_c ⟨rfl, _, rfl, ?_⟩⟩)))
  refine ifF (by simp [isNonT]) (w_next ?_)
  show b_Desk____init___3 _ [some (.mr D.length), some (.d bkE), some (.d .none)] ⟨D ++ [Cell.ins "Desk" []], []⟩
  refine w_seq (w_setNew rfl (ts := [.d bkE]) (fun M P p => w_ac ⟨_, rfl, w_an p⟩) (by simp) (by decide) (by decide) ?_)
  refine w_seq (w_setNew rfl (ts := []) (fun M P p => w_an p) (by simp) (by decide) (show 1 < 1000 by decide) ?_)
  refine w_setNew rfl (ts := []) (fun M P p => w_an p) (by simp) (by decide) (show 2 < 1000 by decide) ?_
  refine ⟨rfl, ?_, clo_app hc, ?_, q⟩
  · exact List.take_left' rfl
  · rw [List.getElem?_append_right (Nat.le_refl _), Nat.sub_self]
    exact ⟨_, rfl⟩
end K01
set_option Elab.async false
set_option linter.all false
set_option maxRecDepth 100000
set_option maxHeartbeats 1000000
namespace K01
open PySem PySem.Spec L2 L3 Sh Wm Yq Wl
theorem ri2 {D : List Cell} (h : RI D) : D.length = 2 ∧ ∀ C, clo 2 (D ++ C) := by
  obtain ⟨deep, cells, st, cn, rfl, _⟩ := h.ex
  refine ⟨rfl, fun C => ?_⟩
  show (List.take 2 [_, _]).all (Cell.lo 2) = true
  rw [show List.take 2 [Cell.lst (deep.map T.int), Cell.dct (rk cells st cn)] = [Cell.lst (deep.map T.int), Cell.dct (rk cells st cn)] from rfl]
  simp [Cell.lo, T.lo, rk]
theorem w_callC {d : FD} {ts : List T} {D C : List Cell} {L : List (Option (List PyData))} {Q : Kt} (hD : RI D) (ht : ∀ t ∈ ts, noL t = true ∧ T.lo 2 t = true) (h : d ts D fun t D' => D'.length = 2 ∧ Q t ⟨D' ++ C, L⟩) : fDefC d ts ⟨D ++ C, L⟩ Q := by
  obtain ⟨h1, h2⟩ := ri2 hD
  refine ⟨2, by show 2 ≤ (D ++ C).length; rw [List.length_append]; omega, h2 C, ht, ?_⟩
  show d ts ((D ++ C).take 2) fun t D' => D'.length = 2 ∧ Q t ⟨D' ++ (D ++ C).drop 2, L⟩
  rw [List.take_left' h1, List.drop_left' h1]
  exact h
theorem lo_inj (x : Dt) (n : Nat) : T.lo n (inj x) = true := by cases x <;> rfl
theorem sv_bk {K : Bk6} (g : GB K) : Sv (up (bkD K)) := ks_tup (uK_ks g) (by rw [uK_len]; have := g.six; omega)
/-- the environment of the law -/
abbrev Lv (ns : List Int) (l : List (Option T)) : En := some (.scr ns) :: some (.mr 1) :: l
theorem w_eqI2 {a b : Int} {M : Mem} {Q : Kt} (q : Q (.bl (decide (a = b))) M) : oQEq false (.d (.int a)) (.d (.int b)) M Q := by
  refine ⟨_, _, rfl, rfl, ?_⟩
  rw [x_eqi]
  exact q
theorem forR_all {n i : Nat} {ds : List T} {b : Ms} {E : Es} {D C : List Cell} (F : Option T → En) (hn : (D ++ C)[n]? = some (.lst ds))
    (step : ∀ t ∈ ds, ∀ τ, (∃ a, τ = F a) → ∀ E2 : Es, E2.rt = E.rt → (∀ τ, (∃ a, τ = F a) → E2.nx τ ⟨D ++ C, []⟩) → b E2 (τ.set i (some t)) ⟨D ++ C, []⟩) :
    ∀ (ts : List T) (τ : En), (∀ t ∈ ts, t ∈ ds) → (∃ a, τ = F a) → (∀ τ, (∃ a, τ = F a) → E.nx τ ⟨D ++ C, []⟩) → goForR n ds (gN i) b E ts τ ⟨D ++ C, []⟩
  | [], τ, _, h, q => q τ h
  | t :: ts, τ, hs, h, q => by
    show b _ (τ.set i (some t)) _
    refine step t (hs t List.mem_cons_self) τ h _ rfl fun τ2 h2 => ⟨hn, ?_⟩
    exact forR_all F hn step ts τ2 (fun t ht => hs t (List.mem_cons_of_mem _ ht)) h2 q
theorem law_1 {E : Es} {ns : List Int} {D C : List Cell} {i : Nat} {a3 a4 a5 a6 a7 a8 a9 a11 a12 a13 a14 : Option T} {x : Dt} (hD : RI D) (hx : Sv x) (q : E.nx (Lv ns [some (.int (i : Int)), a3, a4, a5, a6, a7, a8, a9, some (inj x), a11, a12, a13, a14]) ⟨D ++ C, []⟩) :
    b_law_1 E (Lv ns [some (.int (i : Int)), a3, a4, a5, a6, a7, a8, a9, some (inj x), a11, a12, a13, a14]) ⟨D ++ C, []⟩ := by
  refine w_if (w_bnot (w_test (w_call (w_ac ⟨_, rfl, w_ac (w_op (w_op ⟨_, rfl, w_c ⟨(by decide : (0 : Int) < 3), w_c (w_eqI2 ?_)⟩⟩))⟩))))
  refine w_an (w_callC hD (fun t ht => ?_) ?_)
  · rcases List.mem_cons.mp ht with e | e
    · rw [e]
      exact ⟨noL_inj _, lo_inj _ _⟩
    · rw [List.mem_singleton.mp e]
      exact ⟨rfl, rfl⟩
  · refine sp_told hx.1 (by omega) (by omega) hx.2 ⟨(ri2 hD).1, true, rfl, ifF (by simp) (w_next q)⟩
abbrev Lt (ns : List Int) (i : Nat) (l : List (Option T)) : En := Lv ns (some (.int (i : Int)) :: l)
theorem law_2 {E : Es} {ns : List Int} {D C : List Cell} {i n : Nat} {a3 a5 a6 a7 a8 a9 a10 a11 a12 a13 a14 : Option T} {xs : List Dt} (hD : RI D) (hn : (D ++ C)[n]? = some (.lst (xs.map inj))) (hx : ∀ x ∈ xs, Sv x)
    (q : ∀ a10, E.nx (Lt ns i [a3, some (.mr n), a5, a6, a7, a8, a9, a10, a11, a12, a13, a14]) ⟨D ++ C, []⟩) :
    b_law_2 E (Lt ns i [a3, some (.mr n), a5, a6, a7, a8, a9, a10, a11, a12, a13, a14]) ⟨D ++ C, []⟩ := by
  refine ⟨_, rfl, n, _, rfl, hn, ?_⟩
  refine forR_all (fun a10 => Lt ns i [a3, some (.mr n), a5, a6, a7, a8, a9, a10, a11, a12, a13, a14]) hn (fun t ht τ hτ E2 _ q2 => ?_) _ _ (fun t ht => ht) ⟨_, rfl⟩ fun τ hτ => ?_
  · obtain ⟨a, rfl⟩ := hτ
    obtain ⟨x, hxm, rfl⟩ := List.mem_map.mp ht
    exact law_1 hD (hx x hxm) (q2 _ ⟨some (inj x), rfl⟩)
  · obtain ⟨a, rfl⟩ := hτ
    exact q a
theorem two_gn {i j : Nat} {x : Int} {y : PyData} {τ : En} {M : Mem} {P : En → Mem → Prop} (h : P ((τ.set i (some (.int x))).set j (some (.d y))) M) : gTu 2 (gsCons (gN i) (gsCons (gN j) gsNil)) (T.wt [.int x, y]) τ M P := ⟨rfl, rfl, h⟩
theorem getD_kd {K : Bk6} {i : Nat} (h : i < K.length) : (K.map kd).getD i .none = kd (kat K i) := by
  unfold kat
  rw [List.getD_eq_getElem?_getD, List.getD_eq_getElem?_getD, List.getElem?_map, List.getElem?_eq_getElem h]
  rfl
theorem w_qtupL {a : List Dt} {t : T} {M : Mem} {Q : Kt} (e : tq t = some (.lst a)) (q : Q (.q (.tup a)) M) : fQTuple [t] M Q := by
  unfold fQTuple
  simp only [e]
  exact q
theorem lo_cell (l : List Dt) (n : Nat) : Cell.lo n (.lst (l.map inj)) = true := by
  show (l.map inj).all (T.lo n) = true
  rw [List.all_eq_true]
  intro t ht
  obtain ⟨x, _, rfl⟩ := List.mem_map.mp ht
  exact lo_inj x n
theorem law_3 {E : Es} {ns : List Int} {D C : List Cell} {i : Nat} {f : List Nat} {K : Bk6} {a3 a5 a8 a9 a10 a11 a12 a13 a14 : Option T} {xs : List Dt} (hD : RI D) (g : GB K) (hx : ∀ x ∈ xs, Sv x) (hl : xs.length ≤ 10)
    (q : ∀ D' X a10, (∀ n, Cell.lo n X = true) → RI D' → E.nx (Lt ns i [a3, some (.mr (2 + C.length)), a5, some (.d (bkD K)), some (.d (.list (f.map ix))), a8, a9, a10, a11, a12, a13, a14]) ⟨D' ++ (C ++ [X]), []⟩) :
    b_law_3 E (Lt ns i [a3, some (.mr (2 + C.length)), a5, some (.d (bkD K)), some (.d (.list (f.map ix))), a8, a9, a10, a11, a12, a13, a14]) ⟨D ++ (C ++ [.lst (xs.map inj)]), []⟩ := by
  have h6 := g.six
  have at_n : ∀ {D' : List Cell}, RI D' → ∀ c, (D' ++ (C ++ [c]))[2 + C.length]? = some c := fun {D'} h c => by
    rw [← List.append_assoc, List.getElem?_append_right (by rw [List.length_append, (ri2 h).1]; exact Nat.le_refl _), List.length_append, (ri2 h).1, Nat.sub_self]
    rfl
  refine w_seq ?_
  show mDrop _ _ _ _
  refine (?_ : mMeth _ _ _ _ _ _)
  rw [x_meth]
  refine ⟨_, rfl, ⟨_, at_n hD _⟩, ?_⟩
  refine w_ac (w_call (w_ac (w_qlc ?_)))
  rw [x_ienum]
  refine w_ac ⟨_, rfl, w_an ?_⟩
  show goLcQ _ _ _ _ _ (enumT (K.map kd)) [] _
  refine lcQ_all (fun j acc M => ∃ D', M = ⟨D' ++ (C ++ [.lst (xs.map inj)]), []⟩ ∧ RI D' ∧ acc.length = j ∧ ∀ x ∈ acc, Pv x) ⟨D, rfl, hD, rfl, fun x hx => nomatch hx⟩ ?_ ?_
  · rintro j acc M t R ht ⟨D', rfl, hD', hla, ha⟩ k
    have hj : j < K.length := by
      obtain ⟨h, _⟩ := List.getElem?_eq_some_iff.mp ht
      simpa [enumT] using h
    have et : t = T.wt [.int (j : Int), kd (kat K j)] := by
      unfold enumT at ht
      rw [List.length_map, List.getElem?_map, List.getElem?_range hj, Option.map_some, getD_kd hj] at ht
      exact (Option.some.inj ht).symm
    subst et
    have gk := (kat_ok g hj).1
    refine two_gn (w_yes (ifT rfl ?_))
    rw [x_ite]
    refine w_test (w_op ⟨_, rfl, _, rfl, ?_⟩)
    refine ⟨⟨rfl, sh_row f⟩, ?_⟩
    refine ⟨_, rfl, ?_⟩
    have app : ∀ y D2, Pv y → RI D2 → R (acc ++ [y]) ⟨D2 ++ (C ++ [.lst (xs.map inj)]), []⟩ := fun y D2 hy hD2 => by
      refine k _ _ ⟨D2, rfl, hD2, by simp [hla], fun z hz => ?_⟩
      rcases List.mem_append.mp hz with h | h
      · exact ha z h
      · rw [List.mem_singleton.mp h]
        exact hy
    cases (if false = true then !(f.map ix).any (fun z => PyData.eqv z (.int (j : Int))) else (f.map ix).any (fun z => PyData.eqv z (.int (j : Int)))) with
    | true =>
      refine ifT rfl ?_
      refine w_call (w_ac ⟨_, rfl, w_ac ⟨_, rfl, w_an (w_callC hD' (by simp [noL, T.lo]) (sp_oddkind (t := .d (kd (kat K j))) rfl hD' gk.1 gk.2.pos fun y D2 hy hD2 => ⟨(ri2 hD2).1, y, tq_inj y, sz64 (by omega), app y D2 hy hD2⟩))⟩⟩)
    | false =>
      refine ifF Bool.false_ne_true ?_
      exact ⟨_, rfl, up (kd (kat K j)), rfl, sz64 (by omega), app _ D' ⟨(wq_kd gk).mono (by omega) (by omega), ob_up _⟩ hD'⟩
  · rintro acc M ⟨D', rfl, hD', hla, ha⟩
    have hla : acc.length = K.length := by rw [hla]; simp [enumT]
    refine w_an (w_qtupL (a := acc) rfl ?_)
    refine w_an ?_
    unfold fApp
    dsimp only
    rw [at_n hD']
    refine ⟨rfl, by rw [List.length_map]; exact sz64 (by omega), ?_⟩
    have e : (D' ++ (C ++ [Cell.lst (xs.map inj)])).set (2 + C.length) (.lst (xs.map inj ++ [.q (.tup acc)])) = D' ++ (C ++ [.lst ((xs ++ [Dt.tup acc]).map inj)]) := by
      rw [List.set_append_right _ _ (by rw [(ri2 hD').1]; omega), (ri2 hD').1, List.set_append_right _ _ (by omega)]
      rw [show 2 + C.length - 2 - C.length = 0 by omega, List.map_append]
      rfl
    rw [e]
    refine law_2 (xs := xs ++ [Dt.tup acc]) hD' (at_n hD' _) (fun x hx' => ?_) fun a10 => q D' _ a10 (lo_cell _) hD'
    rcases List.mem_append.mp hx' with h | h
    · exact hx x h
    · rw [List.mem_singleton.mp h]
      refine ⟨(wq_tup ((wq_all fun x hx => (ha x hx).1).mono (Nat.mul_le_mul_right _ (show acc.length ≤ 6 by omega)) (Nat.le_refl _))).mono (by omega) (by omega), ?_⟩
      exact ob_all fun x hx => (ha x hx).2
end K01
set_option Elab.async false
set_option linter.all false
set_option maxRecDepth 100000
set_option maxHeartbeats 1000000
namespace K01
open PySem PySem.Spec L2 L3 Sh Wm Yq Wl
theorem law_4 {E : Es} {ns : List Int} {D C : List Cell} {i : Nat} {K : Bk6} {a3 a5 a7 a8 a9 a10 a11 a12 a13 a14 : Option T} {xs : List Dt} (hD : RI D) (g : GB K) (hx : ∀ x ∈ xs, Sv x) (hl : xs.length ≤ 10)
    (q : ∀ D' X a7 a10, (∀ n, Cell.lo n X = true) → RI D' → E.nx (Lt ns i [a3, some (.mr (2 + C.length)), a5, some (.d (bkD K)), a7, a8, a9, a10, a11, a12, a13, a14]) ⟨D' ++ (C ++ [X]), []⟩) :
    b_law_4 E (Lt ns i [a3, some (.mr (2 + C.length)), a5, some (.d (bkD K)), a7, a8, a9, a10, a11, a12, a13, a14]) ⟨D ++ (C ++ [.lst (xs.map inj)]), []⟩ := by
  refine w_seq (w_set ?_)
  show mSl _ _ _ _ _ _
  rw [x_sl]
  refine w_call (w_ac ⟨_, rfl, w_ac ?_⟩)
  rw [x_listR]
  refine w_c ⟨by decide, w_an (w_callC hD ?_ (sp_mixed (r := List.range 6) hD (by decide) fun f D1 hf hD1 => ⟨(ri2 hD1).1, ?_⟩))⟩
  · intro t ht
    rcases List.mem_cons.mp ht with e | e
    · rw [e]
      exact ⟨rfl, rfl⟩
    · rw [List.mem_singleton.mp e]
      exact ⟨rfl, rfl⟩
  simp only [x_onone, x_opart, x_c]
  show oSl (.d (.list (f.map ix))) _ _ _ _
  rw [x_sllst, cut_map]
  show b_law_3 E (Lt ns i [a3, some (.mr (2 + C.length)), a5, some (.d (bkD K)), some (.d (.list ((cutT f none (some 2)).map ix))), a8, a9, a10, a11, a12, a13, a14]) ⟨D1 ++ (C ++ [.lst (xs.map inj)]), []⟩
  exact law_3 hD1 g hx hl fun D' X a10 c h => q D' X _ a10 c h
theorem law_6 {E : Es} {ns : List Int} {D C : List Cell} {i : Nat} {K : Bk6} {a4 a5 a6 a7 a8 a9 a10 a11 a12 a13 a14 : Option T} (hD : RI D) (g : GB K)
    (q : ∀ D' X a4 a6 a7 a10, (∀ n, Cell.lo n X = true) → RI D' → E.nx (Lt ns i [some (.d (bkD K)), a4, a5, a6, a7, a8, a9, a10, a11, a12, a13, a14]) ⟨D' ++ (C ++ [X]), []⟩) :
    b_law_6 E (Lt ns i [some (.d (bkD K)), a4, a5, a6, a7, a8, a9, a10, a11, a12, a13, a14]) ⟨D ++ C, []⟩ := by
  refine w_seq (w_set (w_op (w_qlst (w_ac ⟨_, rfl, w_an ⟨[up (bkD K)], rfl, sz1, ?_⟩⟩))))
  refine w_qlc ?_
  rw [x_irange]
  refine w_ac (w_c (w_an ⟨by decide, ?_⟩))
  refine lcQ_all (fun j acc M => ∃ D', M = ⟨D' ++ C, []⟩ ∧ RI D' ∧ acc.length = j ∧ ∀ x ∈ acc, Sv x) ⟨D, rfl, hD, rfl, fun x hx => nomatch hx⟩ ?_ ?_
  · rintro j acc M t R ht ⟨D', rfl, hD', hla, ha⟩ k
    obtain ⟨hj, rfl⟩ := range_at ht
    have hj : j < 5 := hj
    rw [x_gn]
    refine w_yes (ifT rfl ?_)
    refine w_call (w_ac ⟨_, rfl, w_ac ⟨_, rfl, w_an (w_callC hD' (by simp [noL, T.lo]) (sp_spoilt hD' g fun y D2 hy hD2 => ⟨(ri2 hD2).1, y, tq_inj y, sz64 (by omega), k _ _ ⟨D2, rfl, hD2, by simp [hla], fun z hz => ?_⟩⟩))⟩⟩)
    rcases List.mem_append.mp hz with h | h
    · exact ha z h
    · rw [List.mem_singleton.mp h]
      exact hy
  · rintro acc M ⟨D', rfl, hD', hla, ha⟩
    rw [range_len] at hla
    have hla : acc.length = 5 := hla
    refine ⟨[up (bkD K)], acc, rfl, rfl, sz64' (by rw [hla]; show 1 + 5 ≤ 100000; decide), ?_⟩
    have e : (D' ++ C).length = 2 + C.length := by rw [List.length_append, (ri2 hD').1]
    dsimp only
    rw [e, List.append_assoc]
    show b_law_5 E (Lt ns i [some (.d (bkD K)), some (.mr (2 + C.length)), a5, a6, a7, a8, a9, a10, a11, a12, a13, a14]) ⟨D' ++ (C ++ [.lst (([up (bkD K)] ++ acc).map inj)]), []⟩
    refine w_seq (w_set (w_call (w_ac ⟨_, rfl, w_ac (w_c (w_an (w_callC hD' (by simp [noL, T.lo]) (sp_book hD' (by decide) (by decide) fun K2 D2 g2 hK2 hD2 => ⟨(ri2 hD2).1, ?_⟩))))⟩)))
    show b_law_4 E (Lt ns i [some (.d (bkD K)), some (.mr (2 + C.length)), a5, some (.d (bkD K2)), a7, a8, a9, a10, a11, a12, a13, a14]) ⟨D2 ++ (C ++ [.lst (([up (bkD K)] ++ acc).map inj)]), []⟩
    refine law_4 hD2 g2 (fun x hx => ?_) (by rw [List.length_append, hla]; show 1 + 5 ≤ 10; decide) fun D3 X a7 a10 c h => q D3 X _ _ a7 a10 c h
    rcases List.mem_append.mp hx with h | h
    · rw [List.mem_singleton.mp h]
      exact sv_bk g
    · exact ha x h
theorem law_7 {E : Es} {ns : List Int} {D C : List Cell} {i : Nat} {a3 a4 a5 a6 a7 a8 a9 a10 a11 a12 a13 a14 : Option T} (hD : RI D)
    (q : ∀ D' X a3 a4 a6 a7 a10, (∀ n, Cell.lo n X = true) → RI D' → E.nx (Lt ns i [a3, a4, a5, a6, a7, a8, a9, a10, a11, a12, a13, a14]) ⟨D' ++ (C ++ [X]), []⟩) :
    b_law_7 E (Lt ns i [a3, a4, a5, a6, a7, a8, a9, a10, a11, a12, a13, a14]) ⟨D ++ C, []⟩ := by
  refine w_seq (w_set (w_call (w_ac ⟨_, rfl, w_ac (w_op (w_c (w_call (w_ac ⟨_, rfl, w_ac (w_c (w_an (w_callC hD (by simp [noL, T.lo]) (sp_draw hD (by decide) (by decide) fun n D1 n0 n1 hD1 => ⟨(ri2 hD1).1, w_qaddI ?_⟩))))⟩))))⟩)))
  refine w_an (w_callC hD1 (by simp [noL, T.lo]) (sp_book hD1 (by omega) (by omega) fun K D2 g hK hD2 => ⟨(ri2 hD2).1, ?_⟩))
  show b_law_6 E (Lt ns i [some (.d (bkD K)), a4, a5, a6, a7, a8, a9, a10, a11, a12, a13, a14]) ⟨D2 ++ C, []⟩
  exact law_6 hD2 g fun D' X a4 a6 a7 a10 c h => q D' X _ a4 a6 a7 a10 c h
def rep (n : Nat) (x : PyData) : PyData := .tuple (List.replicate n [x]).flatten
def endsD : List PyData := [rep 6 (.tuple [.int 1000000000000000000000000000000, .int 64]), rep 7 (.tuple [.int 1000000000000000000000000000000, .int 64]), .tuple [.tuple [.int 1, .int 1]], .tuple [.tuple [.int 1000000000000000000000000000001, .int 64]],
  .tuple ([.none] ++ (List.replicate 6 [.tuple [.int 1, .int 1]]).flatten)]
theorem ends_ok : (ups endsD).all (wqB 20000 7) = true := by decide +kernel
abbrev qs : List Dt := [.obj "Unfit" [] [], .obj "Desk" ["!"] []]
theorem law_9 {E : Es} {ns : List Int} {D C : List Cell} {a2 a3 a4 a5 a6 a7 a8 a9 a10 a11 a12 : Option T} {ts : List T} {x : Dt} (hD : RI D) (hl : ts.length ≤ 10) (hq : x = .obj "Unfit" [] [] ∨ x = .obj "Desk" ["!"] [])
    (q : E.nx (Lv ns [a2, a3, a4, a5, a6, a7, a8, a9, a10, a11, a12, some (.mr (2 + C.length)), some (inj x)]) ⟨D ++ (C ++ [.lst (ts ++ [.q (.lst [.str "form", .tup [.str "kind", .int 1], .tup [.str "kind", .int 0], .tup [.str "kind", .int 0]])])]), []⟩) :
    b_law_9 E (Lv ns [a2, a3, a4, a5, a6, a7, a8, a9, a10, a11, a12, some (.mr (2 + C.length)), some (inj x)]) ⟨D ++ (C ++ [.lst ts]), []⟩ := by
  have at_n : ∀ c, (D ++ (C ++ [c]))[2 + C.length]? = some c := fun c => by
    rw [← List.append_assoc, List.getElem?_append_right (by rw [List.length_append, (ri2 hD).1]; exact Nat.le_refl _), List.length_append, (ri2 hD).1, Nat.sub_self]
    rfl
  have hx : obB x = true := by rcases hq with rfl | rfl <;> rfl
  have hf : faultD x = .str "form" := by rcases hq with rfl | rfl <;> rfl
  have o2 : ∀ y z : Dt, obB y = true → obB z = true → obB (.tup [y, z]) = true := fun y z hy hz => by
    show (obB y && (obB z && true)) = true
    rw [hy, hz]
    rfl
  have o1 : ∀ y : Dt, obB y = true → obB (.tup [y]) = true := fun y hy => by
    show (obB y && true) = true
    rw [hy]
    rfl
  have f1 : faultD (.tup [.tup [.int 1, .int 1], x]) = .tup [.str "kind", .int 1] := by rcases hq with rfl | rfl <;> rfl
  have f2 : faultD (.tup [.tup [x, .int 1]]) = .tup [.str "kind", .int 0] := by rcases hq with rfl | rfl <;> rfl
  have f3 : faultD (.tup [.tup [.int 6, x]]) = .tup [.str "kind", .int 0] := by rcases hq with rfl | rfl <;> rfl
  refine (?_ : mMeth _ _ _ _ _ _)
  rw [x_meth]
  refine ⟨_, rfl, ⟨_, at_n _⟩, ?_⟩
  refine w_ac (w_qlst ?_)
  refine w_ac (w_call (w_ac ⟨_, rfl, w_an (w_callC hD (fun t ht => ?_) (sp_bookerror hx ⟨(ri2 hD).1, ?_⟩))⟩))
  · rw [List.mem_singleton.mp ht]
    exact ⟨noL_inj _, lo_inj _ _⟩
  rw [hf]
  refine w_ac (w_call (w_ac (w_qtup ?_)))
  simp only [x_acons, x_anil, x_tup, x_c, x_var, List.getElem?_cons_succ, List.getElem?_cons_zero]
  refine ⟨two_ok, _, rfl, [.tup [.int 1, .int 1], x], tqs_c rfl (tqs_c (tq_inj x) rfl), two_ok, ?_⟩
  refine w_callC hD (by simp [noL, T.lo]) (sp_bookerror (x := .tup [.tup [.int 1, .int 1], x]) (o2 _ _ rfl hx) ⟨(ri2 hD).1, ?_⟩)
  rw [f1]
  simp only [x_call, x_acons, x_anil, x_tup, x_c, x_var, mQTup, List.getElem?_cons_succ, List.getElem?_cons_zero]
  refine ⟨_, rfl, [x, .int 1], tqs_c (tq_inj x) rfl, two_ok, [.tup [x, .int 1]], rfl, sz1, ?_⟩
  refine w_callC hD (by simp [noL, T.lo]) (sp_bookerror (x := .tup [.tup [x, .int 1]]) (o1 _ (o2 _ _ hx rfl)) ⟨(ri2 hD).1, ?_⟩)
  rw [f2]
  refine ⟨_, rfl, [.int 6, x], tqs_c rfl (tqs_c (tq_inj x) rfl), two_ok, [.tup [.int 6, x]], rfl, sz1, ?_⟩
  refine w_callC hD (by simp [noL, T.lo]) (sp_bookerror (x := .tup [.tup [.int 6, x]]) (o1 _ (o2 _ _ rfl hx)) ⟨(ri2 hD).1, ?_⟩)
  rw [f3]
  refine ⟨[.str "form", .tup [.str "kind", .int 1], .tup [.str "kind", .int 0], .tup [.str "kind", .int 0]], rfl, sz4', ?_⟩
  unfold fApp
  dsimp only
  rw [at_n]
  refine ⟨rfl, sz64 (by omega), ?_⟩
  rw [List.set_append_right _ _ (by rw [(ri2 hD).1]; omega), (ri2 hD).1, List.set_append_right _ _ (by omega), show 2 + C.length - 2 - C.length = 0 by omega]
  exact q
end K01
set_option Elab.async false
set_option linter.all false
set_option maxRecDepth 100000
set_option maxHeartbeats 1000000
namespace K01
open PySem PySem.Spec L2 L3 Sh Wm Yq Wl
def rwD : Dt := .lst [.str "form", .tup [.str "kind", .int 1], .tup [.str "kind", .int 0], .tup [.str "kind", .int 0]]
theorem law_10 {E : Es} {ns : List Int} {D C : List Cell} {a2 a3 a4 a5 a6 a7 a8 a9 a10 a11 a12 a14 : Option T} (hD : RI D) (q : ∀ M, E.rt (.bl true) M) :
    b_law_10 E (Lv ns [a2, a3, a4, a5, a6, a7, a8, a9, a10, a11, a12, some (.mr (2 + C.length)), a14]) ⟨D ++ (C ++ [.lst [.q rwD, .q rwD]]), []⟩ := by
  have at_n : ∀ c, (D ++ (C ++ [c]))[2 + C.length]? = some c := fun c => by
    rw [← List.append_assoc, List.getElem?_append_right (by rw [List.length_append, (ri2 hD).1]; exact Nat.le_refl _), List.length_append, (ri2 hD).1, Nat.sub_self]
    rfl
  obtain ⟨y, py, oy⟩ := (wqB_ok (by decide +kernel) : Wq 1000 5 (.lst [rwD, rwD])).ok (by omega) (by omega)
  refine w_ret (w_op (w_call (w_ac ⟨_, rfl, w_an (w_qreprM (x := .lst [rwD, rwD]) ?_ py oy ?_)⟩)))
  · unfold tqM
    dsimp only
    rw [at_n]
    rfl
  simp only [x_call, x_acons, x_anil, x_op, x_lst, x_tup, x_c]
  refine ⟨two_ok, two_ok, two_ok, sz4', sz1, ⟨by omega, by omega, sz64' (by simp)⟩, ?_⟩
  refine w_qrepr (x := .lst [rwD, rwD]) rfl py oy ?_
  refine ⟨_, _, rfl, rfl, w_eqS (q _)⟩
theorem law_11 {E : Es} {ns : List Int} {D C : List Cell} {a2 a3 a4 a5 a6 a7 a8 a9 a10 a11 a14 : Option T} (hD : RI D) (q : ∀ M, E.rt (.bl true) M) :
    b_law_11 E (Lv ns [a2, a3, a4, a5, a6, a7, a8, a9, a10, a11, some (.q (.lst qs)), some (.mr (2 + C.length)), a14]) ⟨D ++ (C ++ [.lst []]), []⟩ := by
  refine w_seq (w_for ?_)
  show iQSeq (mVar 12) _ _ _
  refine ⟨_, rfl, ?_⟩
  dsimp only [tq]
  refine law_9 (x := .obj "Unfit" [] []) hD (by decide) (.inl rfl) ?_
  refine law_9 (x := .obj "Desk" ["!"] []) hD (by decide) (.inr rfl) ?_
  exact law_10 hD q
theorem clo_all {D C : List Cell} (hD : RI D) (hC : ∀ c ∈ C, ∀ n, Cell.lo n c = true) : clo (D ++ C).length (D ++ C) := by
  unfold clo
  rw [List.take_length, List.length_append, (ri2 hD).1]
  obtain ⟨deep, cells, st, cn, rfl, _⟩ := hD.ex
  rw [List.all_append, Bool.and_eq_true]
  constructor
  · rw [show rd deep cells st cn = [Cell.lst (deep.map T.int), Cell.dct (rk cells st cn)] from rfl]
    simp [Cell.lo, T.lo, rk]
    omega
  · rw [List.all_eq_true]
    exact fun c hc => hC c hc _
theorem law_13 {E : Es} {ns : List Int} {D C : List Cell} {a2 a3 a4 a5 a6 a7 a8 a9 a10 a11 a12 a13 a14 : Option T} (hD : RI D) (hC : ∀ c ∈ C, ∀ n, Cell.lo n c = true) (q : ∀ M, E.rt (.bl true) M) :
    b_law_13 E (Lv ns [a2, a3, a4, a5, a6, a7, a8, a9, a10, a11, a12, a13, a14]) ⟨D ++ C, []⟩ := by
  refine w_seq (w_set (w_qlst (w_ac ?_)))
  unfold mMk0
  refine w_ac (w_desk (clo_all hD hC) (w_an ⟨qs, rfl, two_ok, ?_⟩))
  refine w_seq (w_set (w_newD (w_an ⟨⟨by simp, sz64' (by decide)⟩, ?_⟩)))
  have e : (D ++ C).length = 2 + C.length := by rw [List.length_append, (ri2 hD).1]
  dsimp only
  rw [e, List.append_assoc]
  exact law_11 hD q
theorem law_14 {E : Es} {ns : List Int} {D C : List Cell} {a2 a3 a4 a5 a6 a7 a8 a9 a10 a12 a13 a14 : Option T} (hD : RI D) (hC : ∀ c ∈ C, ∀ n, Cell.lo n c = true) (q : ∀ M, E.rt (.bl true) M) :
    b_law_14 E (Lv ns [a2, a3, a4, a5, a6, a7, a8, a9, a10, some (.d (.list endsD)), a12, a13, a14]) ⟨D ++ C, []⟩ := by
  refine w_seq (w_if (w_test (w_op (w_qlc ?_))))
  show iQSeq (mVar 11) _ _ _
  refine ⟨_, rfl, ?_⟩
  show goLcQ _ _ _ _ _ ((ups endsD).map inj) [] _
  refine lcQ_all (fun j acc M => M = ⟨D ++ C, []⟩ ∧ acc = []) ⟨rfl, rfl⟩ ?_ ?_
  · rintro j acc M t R ht ⟨rfl, rfl⟩ k
    rw [List.getElem?_map] at ht
    obtain ⟨x, hx, rfl⟩ := Option.map_eq_some_iff.mp ht
    have hm := List.mem_of_getElem? hx
    have hw := ends_ok
    rw [List.all_eq_true] at hw
    have hw := wqB_ok (hw x hm)
    have ho : obB x = true := by
      obtain ⟨y, _, rfl⟩ := ups_mem hm
      exact ob_up y
    rw [x_gn]
    refine w_bnot (w_test (w_call (w_ac ⟨_, rfl, w_ac (w_c (w_an (w_callC hD (fun t ht => ?_) (sp_told hw (by omega) (by omega) ho ⟨(ri2 hD).1, true, rfl, ifF (by simp) (k _ _ ⟨rfl, rfl⟩)⟩))))⟩)))
    rcases List.mem_cons.mp ht with e | e
    · rw [e]
      exact ⟨noL_inj _, lo_inj _ _⟩
    · rw [List.mem_singleton.mp e]
      exact ⟨rfl, rfl⟩
  · rintro acc M ⟨rfl, rfl⟩
    refine w_lst (w_an ⟨sz64' (by decide), ?_⟩)
    refine ⟨.list [], .list [], rfl, rfl, ?_⟩
    rw [x_eq (a := .list []) (b := .list []) rfl rfl (shaped_ints []) (shaped_ints []) (fun _ z => nomatch z), eqv_nil]
    refine ⟨false, rfl, ifF (by simp) (w_next ?_)⟩
    exact law_13 hD hC q
theorem law_15 {E : Es} {ns : List Int} {D C : List Cell} {a2 a3 a4 a5 a6 a7 a8 a9 a10 a11 a12 a13 a14 : Option T} (hD : RI D) (hC : ∀ c ∈ C, ∀ n, Cell.lo n c = true) (q : ∀ M, E.rt (.bl true) M) :
    b_law_15 E (Lv ns [a2, a3, a4, a5, a6, a7, a8, a9, a10, a11, a12, a13, a14]) ⟨D ++ C, []⟩ := by
  refine w_seq (w_set (w_lst ?_))
  simp only [x_acons, x_anil, x_op, x_tup, x_c]
  refine ⟨by unfold CPow; decide, two_ok, sz1, ?_⟩
  refine w_repT (l := [.tuple [.int 1000000000000000000000000000000, .int 64]]) ⟨by simp, by decide, by decide, by decide⟩ ?_
  refine ⟨by unfold CPow; decide, two_ok, sz1, ?_⟩
  refine w_repT (l := [.tuple [.int 1000000000000000000000000000000, .int 64]]) ⟨by simp, by decide, by decide, by decide⟩ ?_
  refine ⟨two_ok, sz1, ?_⟩
  refine ⟨by unfold CPow; decide, two_ok, sz1, ?_⟩
  refine ⟨sz1, two_ok, sz1, ?_⟩
  refine w_repT (l := [.tuple [.int 1, .int 1]]) ⟨by simp, by decide, by decide, by decide⟩ ?_
  refine ⟨sz64' (by decide), sz64' (by decide), ?_⟩
  suffices key : b_law_14 E (Lv ns [a2, a3, a4, a5, a6, a7, a8, a9, a10, some (.d (.list endsD)), a12, a13, a14]) ⟨D ++ C, []⟩ from key
  exact law_14 hD hC q
theorem law_17 {E : Es} {ns : List Int} (h : ns.length ≤ 63) (q : ∀ M, E.rt (.bl true) M) : b_law_17 E [some (.scr ns), none, none, none, none, none, none, none, none, none, none, none, none, none, none] ⟨[], []⟩ := by
  refine w_seq (w_set (w_call (w_ac ⟨_, rfl, w_an ⟨by simp, sp_reel h fun D hD => ?_⟩⟩)))
  show b_law_16 E (Lv ns [none, none, none, none, none, none, none, none, none, none, none, none, none]) ⟨D, []⟩
  refine w_seq (w_for ?_)
  rw [x_irange]
  refine w_ac (w_c (w_an ⟨by decide, ?_⟩))
  refine for_all (fun i τ M => ∃ D' C a2 a3 a4 a6 a7 a10, M = ⟨D' ++ C, []⟩ ∧ RI D' ∧ (∀ c ∈ C, ∀ n, Cell.lo n c = true) ∧ τ = Lv ns [a2, a3, a4, none, a6, a7, none, none, a10, none, none, none, none]) ⟨D, [], none, none, none, none, none, none, by rw [List.append_nil], hD, (fun c hc => nomatch hc), rfl⟩ ?_ ?_
  · rintro i τ M t R ht ⟨D', C, a2, a3, a4, a6, a7, a10, rfl, hD', hC, rfl⟩ k
    obtain ⟨hi, rfl⟩ := range_at ht
    rw [x_gn]
    suffices key : ∀ E : Es, (∀ D2 X a3 a4 a6 a7 a10, (∀ n, Cell.lo n X = true) → RI D2 → E.nx (Lt ns i [a3, a4, none, a6, a7, none, none, a10, none, none, none, none]) ⟨D2 ++ (C ++ [X]), []⟩) → b_law_7 E (Lt ns i [a3, a4, none, a6, a7, none, none, a10, none, none, none, none]) ⟨D' ++ C, []⟩ from key _ fun D2 X a3 a4 a6 a7 a10 hX hD2 => k _ _ ⟨D2, C ++ [X], _, a3, a4, a6, a7, a10, rfl, hD2, (fun c hc => by
      rcases List.mem_append.mp hc with h | h
      · exact hC c h
      · rw [List.mem_singleton.mp h]
        exact hX), rfl⟩
    intro E q
    exact law_7 hD' q
  · rintro τ M ⟨D', C, a2, a3, a4, a6, a7, a10, rfl, hD', hC, rfl⟩
    exact law_15 hD' hC q
theorem law_true (ns : List Int) (h : ns.length ≤ 63) : d_law [.scr ns] [] fun t _ => t = T.bl true := by
  refine ⟨rfl, ?_⟩
  refine law_17 (E := { nx := fun _ M => clo 0 M.D ∧ T.non = T.bl true, rt := fun t M => (∃ x, t = .d x) ∧ clo 0 M.D ∧ t = T.bl true }) h fun M => ?_
  exact ⟨⟨_, rfl⟩, rfl, rfl⟩
end K01
set_option Elab.async false
set_option linter.all false
set_option maxRecDepth 100000
open PySem PySem.W PyProof.Rows
set_option maxHeartbeats 0 in
theorem PySem.Challenge.cw_fallingfields_k01_what_is_a_book_holds : PySem.Challenge.rw_fallingfields_k01_what_is_a_book.Holds := by
  w_on; o_law; k_head; (case hw => w_witness2)
  k_fill
  refine L3.walkG (l := PySem.Challenge.rw_fallingfields_k01_what_is_a_book) (n := 63) (k := 8) (x := "script") (m := K01.d_law) rfl (by decide) rfl ⟨rfl, by decide, by decide⟩ (fun w h Y => PySem.W.kIn_of Y) ?F K01.law_true
  case F =>
    intro w mg fa h KX G hmg
    refine' K01.all_mk KX G hmg ?a0 ?l0 ?c0 ?k0 ?a1 ?l1 ?c1 ?k1 ?a2 ?l2 ?c2 ?k2 ?a3 ?l3 ?c3 ?k3 ?a4 ?l4 ?c4 ?k4 ?a6 ?l6 ?c6 ?k6 ?a7 ?l7 ?c7 ?k7 ?a8 ?l8 ?c8 ?k8 ?a9 ?l9 ?c9 ?k9 ?a10 ?l10 ?c10 ?k10 ?a11 ?l11 ?c11 ?k11 ?a12 ?l12 ?c12 ?k12 ?a13 ?l13 ?c13 ?k13 ?a14 ?l14 ?c14 ?k14 ?a15 ?l15 ?c15 ?k15 ?a16 ?l16 ?c16 ?k16 ?a17 ?l17 ?c17 ?k17 ?a18 ?l18 ?c18 ?k18 ?a19 ?l19 ?c19 ?k19 ?a20 ?l20 ?c20 ?k20 ?xa_Desk ?xk_Desk ?ca_Desk ?a21 ?l21 ?c21 ?k21 ?im21 ?ifn21 ?a22 ?l22 ?c22 ?k22 ?z_isinstance ?z_int ?z_bool ?z_tuple ?z_len ?z_enumerate ?z_range ?z_list ?z_max ?z_min ?z_str ?z_repr ?g_MAX_SIZE ?g_ALIGNMENTS ?gl_ALIGNMENTS ?g_MAX_KINDS ?xa_Unfit ?xk_Unfit ?xs_Unfit ?xt_Unfit ?xi_Unfit ?xg_Unfit ?xh_Unfit ?xc_Unfit ?xm_Unfit ?xsp ?xtk ?ca_Unfit ?xe_Unfit ?qx_all ?qt_int ?qj_int ?qt_bool ?qj_bool ?qt_tuple ?qj_tuple ?ipg_Desk ?ihd_Desk ?ipo_Desk ?isa_Desk ?ina_Desk__books ?ina_Desk__edits ?ina_Desk__undone
    (case a0 => k_is); (case l0 => k_is); (case c0 => k_is); (case k0 => k_is); (case a1 => k_is); (case l1 => k_is); (case c1 => k_is); (case k1 => k_is); (case a2 => k_is); (case l2 => k_is); (case c2 => k_is); (case k2 => k_is); (case a3 => k_is); (case l3 => k_is); (case c3 => k_is); (case k3 => k_is); (case a4 => k_is); (case l4 => k_is); (case c4 => k_is); (case k4 => k_is); (case a6 => k_is); (case l6 => k_is); (case c6 => k_is); (case k6 => k_is); (case a7 => k_is); (case l7 => k_is); (case c7 => k_is); (case k7 => k_is); (case a8 => k_is); (case l8 => k_is); (case c8 => k_is); (case k8 => k_is); (case a9 => k_is); (case l9 => k_is); (case c9 => k_is); (case k9 => k_is); (case a10 => k_is); (case l10 => k_is); (case c10 => k_is); (case k10 => k_is); (case a11 => k_is); (case l11 => k_is); (case c11 => k_is); (case k11 => k_is); (case a12 => k_is); (case l12 => k_is); (case c12 => k_is); (case k12 => k_is); (case a13 => k_is); (case l13 => k_is); (case c13 => k_is); (case k13 => k_is); (case a14 => k_is); (case l14 => k_is); (case c14 => k_is); (case k14 => k_is); (case a15 => k_is); (case l15 => k_is); (case c15 => k_is); (case k15 => k_is); (case a16 => k_is); (case l16 => k_is); (case c16 => k_is); (case k16 => k_is); (case a17 => k_is); (case l17 => k_is); (case c17 => k_is); (case k17 => k_is); (case a18 => k_is); (case l18 => k_is); (case c18 => k_is); (case k18 => k_is); (case a19 => k_is); (case l19 => k_is); (case c19 => k_is); (case k19 => k_is); (case a20 => k_is); (case l20 => k_is); (case c20 => k_is); (case k20 => k_is); (case xa_Desk => k_is); (case xk_Desk => k_is); (case ca_Desk => (first | rfl | decide +kernel)); (case a21 => k_is); (case l21 => k_is); (case c21 => k_is); (case k21 => k_is); (case im21 => k_is); (case ifn21 => k_is); (case a22 => k_is); (case l22 => k_is); (case c22 => k_is); (case k22 => k_is); (case z_isinstance => k_is); (case z_int => k_is); (case z_bool => k_is); (case z_tuple => k_is); (case z_len => k_is); (case z_enumerate => k_is); (case z_range => k_is); (case z_list => k_is); (case z_max => k_is); (case z_min => k_is); (case z_str => k_is); (case z_repr => k_is); (case g_MAX_SIZE => k_is); (case g_ALIGNMENTS => k_is); (case gl_ALIGNMENTS => k_is); (case g_MAX_KINDS => k_is); (case xa_Unfit => k_is); (case xk_Unfit => k_is); (case xs_Unfit => k_is); (case xt_Unfit => k_is); (case xi_Unfit => k_is); (case xg_Unfit => k_is); (case xh_Unfit => k_is); (case xc_Unfit => k_is); (case xm_Unfit => k_is); (case xsp => k_is); (case xtk => k_is); (case ca_Unfit => (first | rfl | decide +kernel)); (case xe_Unfit => k_exc); (case qx_all => (first | rfl | decide +kernel)); (case qt_int => (first | rfl | decide +kernel)); (case qj_int => (first | rfl | decide +kernel)); (case qt_bool => (first | rfl | decide +kernel)); (case qj_bool => (first | rfl | decide +kernel)); (case qt_tuple => (first | rfl | decide +kernel)); (case qj_tuple => (first | rfl | decide +kernel)); (case ipg_Desk => k_is); (case ihd_Desk => k_is); (case ipo_Desk => k_is); (case isa_Desk => k_is); (case ina_Desk__books => k_is); (case ina_Desk__edits => k_is); (case ina_Desk__undone => k_is)
