import PyProof.Rows.All
import Wide.All
import OpenK.AllK
import Wide.FinOn
import HandS.ForMost
import HandS.Wide
import HandS.Walk
import PyProof.ReprRoads
import KE.KeyNested
import HandS.Exc
import HandS.ExcField
import HandS.TupAny
import HandS.TupMul
import HandS.SetFor
import KE.GoesNew
import KE.GoesMore
import KE.BitLaws
import HandS.More
import HandS.Conv
import HandS.Text
import HandS.FStr
import HandS.IsInst
import HandS.Deep
import HandS.Strs
import HandS.SortOrd
import HandS.SortRule
import HandS.TupSets
import HandS.Style
import HandS.ExcOwn
import HandS.TryOnly
import HandS.WordsExc
import KE.KExcIs
import PyProof.DictRoadsH
import PyProof.Rows.TupDisplay
import HandS.Dict
import KE.KDictPairs
import KE.DatumOrd
import PyProof.ListRange
import PyProof.TupleOfSeq
import HandS.SortKw
import HandS.SortInts
import HandS.TupLe
import PyProof.Rows.SortKeyStr
import HandS.ExcInit
import KE.KExcSuper
import HandS.TryMany
import HandS.ExcValue
import HandS.ExcBuiltin
import PyProof.StrOps2
import HandS.Iter
import KE.GoesNewDict
import HandS.SetBool
import KE.KDictCopyH
import KE.KDictOf
import HandS.Property
import PySem.Challenge.RW_fallingfields_k02_records_rows_and_piece
set_option Elab.async false
set_option linter.all false
set_option maxRecDepth 100000
namespace L3
open PySem PySem.Spec L2
/-- an exception: its class by its name, the one field that it has -/
structure Exn where
  cls : Str
  arg : Option (Str × PyData) := none
/-- values of all kinds: dicts (keys ints and texts), objects of a class by its name, their fields -/
inductive Dt where
  | non
  | bl (b : Bool)
  | int (i : Int)
  | str (x : Str)
  | lst (xs : List Dt)
  | tup (xs : List Dt)
  | dic (ks : List Key) (xs : List Dt)
  | obj (c : Str) (fs : List Str) (xs : List Dt)
inductive T where
  | d (x : PyData)
  | mr (i : Nat)
  | lr (i : Nat)
  | scr (ns : List Int)
  | wt (xs : List PyData)
  | exo (a : Addr) (cls : Value) (d : Option Addr) (e : Exn)
  | q (x : Dt)
abbrev T.int (i : Int) : T := .d (.int i)
abbrev T.bl (b : Bool) : T := .d (.bool b)
abbrev T.non : T := .d .none
abbrev T.str (x : Str) : T := .d (.str x)
abbrev T.lst (x : List PyData) : T := .d (.list x)
abbrev T.tup (x : List PyData) : T := .d (.tuple x)
inductive Cell where
  | lst (ts : List T)
  | dct (kvs : List (Key × T))
  | dnk (kvs : List (NestedKey × T))
  | held (u : HO)
  | dnd (kvs : List (PyData × T))
  | exc (f : Str) (e : Exn)
  | ins (c : Str) (fs : List (Str × T))
  | tup (ts : List T)
structure Mem where
  D : List Cell
  L : List (Option (List PyData))
/-- a tuple that is known to have no names of its own -/
def TupC (K : PySem.W.Frag) (G : Hp) (a : Addr) (xs : List V) : Prop := (∃ o : Obj, G a = some (.frz o (.tup xs)) ∧ o.dict = none) ∨
  ∃ o its n, List.lookup a K = some o ∧ o.cls = Value.type "tuple" ∧ o.dict = none ∧ o.data = Data.seq its n ∧ its.size ≤ sizeLine ∧ Vals xs its.toList
theorem TupC.t {K : PySem.W.Frag} {G : Hp} {a : Addr} {xs : List V} : TupC K G a xs → SqT K G a xs
  | .inl ⟨o, e, _⟩ => .inl (.inr ⟨o, e⟩)
  | .inr ⟨o, its, n, h1, h2, _, h3, h4, h5⟩ => .inr ⟨o, its, n, h1, h2, h3, h4, h5⟩
theorem TupC.mono {K : PySem.W.Frag} {G G' : Hp} (g : ∀ a o, G a = some o → G' a = some o) {a : Addr} {xs : List V} : TupC K G a xs → TupC K G' a xs
  | .inl ⟨o, e, h⟩ => .inl ⟨o, g _ _ e, h⟩
  | .inr h => .inr h
mutual
inductive Rp (K : PySem.W.Frag) (G : Hp) : V → PyData → Prop
  | non : Rp K G .non .none
  | bl (b : Bool) : Rp K G (.bl b) (.bool b)
  | int (i : Int) : Rp K G (.int i) (.int i)
  | str (x : Str) : Rp K G (.str x) (.str x)
  | lst {a : Addr} {xs : List V} {ds : List PyData} : G a = some (.lst xs) → RpA K G xs ds → Rp K G (.ref a) (.list ds)
  | tup {a : Addr} {xs : List V} {ds : List PyData} : TupC K G a xs → RpA K G xs ds → Rp K G (.ref a) (.tuple ds)
inductive RpA (K : PySem.W.Frag) (G : Hp) : List V → List PyData → Prop
  | nil : RpA K G [] []
  | cons {v : V} {vs : List V} {d : PyData} {ds : List PyData} : Rp K G v d → RpA K G vs ds → RpA K G (v :: vs) (d :: ds)
end
/-- an exception that was caught: an object of ours at a, its class cls, its dict d -/
def exh (a : Addr) (cls : Value) (d : Option Addr) : HO := .ext fun h => ∃ (oe : Obj) (vs : Array Value), h.get? a = some oe ∧ Zc cls d oe ∧ oe.data = .fields vs
/-- where the class of a name stands -/
def CA (K : PySem.W.Frag) (c : Str) : Option Addr := K.findSome? fun p => match p.2.data with
  | .cls k => if k.name == c then some p.1 else none
  | _ => none
mutual
inductive Rq (K : PySem.W.Frag) (G : Hp) : V → Dt → Prop
  | non : Rq K G .non .non
  | bl (b : Bool) : Rq K G (.bl b) (.bl b)
  | int (i : Int) : Rq K G (.int i) (.int i)
  | str (x : Str) : Rq K G (.str x) (.str x)
  | lst {a : Addr} {xs : List V} {ds : List Dt} : G a = some (.lst xs) → RqA K G xs ds → Rq K G (.ref a) (.lst ds)
  | tup {a : Addr} {xs : List V} {ds : List Dt} : TupC K G a xs → RqA K G xs ds → Rq K G (.ref a) (.tup ds)
  | dic {a : Addr} {kvs : List (Key × V)} {ks : List Key} {vs : List V} {ds : List Dt} : G a = some (.dK kvs) → kvs.map (·.1) = ks → kvs.map (·.2) = vs → RqA K G vs ds → Rq K G (.ref a) (.dic ks ds)
  | obj {a C : Addr} {c : Str} : CA K c = some C → G a = some (exh a (.ref C) none) → Rq K G (.ref a) (.obj c [] [])
  | obj1 {a C dd : Addr} {c f : Str} {v : V} {x : Dt} : CA K c = some C → G a = some (exh a (.ref C) (some dd)) → G dd = some (.xd [(f, v)]) → Rq K G v x → Rq K G (.ref a) (.obj c [f] [x])
  | ins {a C dx : Addr} {c g : Str} {fs : List (Str × V)} {gs : List Str} : CA K c = some C → G a = some (.ins C dx fs) → Rq K G (.ref a) (.obj c (g :: gs) [])
inductive RqA (K : PySem.W.Frag) (G : Hp) : List V → List Dt → Prop
  | nil : RqA K G [] []
  | cons {v : V} {vs : List V} {d : Dt} {ds : List Dt} : Rq K G v d → RqA K G vs ds → RqA K G (v :: vs) (d :: ds)
end
/-- what stands frozen, the deck's addresses, the frame's own -/
structure Bk where
  G : Hp
  r : List Addr
  l : List Addr
/-- what an exception's own dict d holds -/
def ExR (K : PySem.W.Frag) (G : Hp) (d : Option Addr) (e : Exn) : Prop := match e.arg with
  | none => d = none
  | some (f, x) => ∃ dd v, d = some dd ∧ G dd = some (.xd [(f, v)]) ∧ Rp K G v x
mutual
/-- a key that no text is in, not too deep: its hash is the same in each world -/
def okKey : Nat → NestedKey → Bool
  | _, .none => true
  | _, .num _ => true
  | _, .text _ => false
  | 0, .tup _ => false
  | n + 1, .tup ks => okKeys n ks
def okKeys : Nat → List NestedKey → Bool
  | _, [] => true
  | n, k :: ks => okKey n k && okKeys n ks
end
mutual
/-- the key that a tree is: True is the number 1 -/
def nk : PyData → Option NestedKey
  | .none => some .none
  | .bool b => some (.num (if b = true then 1 else 0))
  | .int i => some (.num i)
  | .str x => some (.text x)
  | .tuple ds => (nks ds).map NestedKey.tup
  | _ => none
def nks : List PyData → Option (List NestedKey)
  | [] => some []
  | d :: ds => match nk d, nks ds with
    | some k, some ks => some (k :: ks)
    | _, _ => none
end
/-- a dict at a with the keys, the keys' own addresses, the values of es -/
def DNok (a : Addr) (es : List (NestedKey × Addr × V)) (h : Heap) : Prop := es.length ≤ sizeLine ∧ (a == sysModules) = false ∧ (es.map (·.1)).Nodup ∧
  ∃ (w : World) (xs : List (NestedKey × Addr × Value)), Paired (fun (p : NestedKey × Addr × V) (q : NestedKey × Addr × Value) => p.1 = q.1 ∧ p.2.1 = q.2.1 ∧ RelV p.2.2 q.2.2) es xs ∧
    ∃ o ds ep, h.get? a = some o ∧ o.ExactDict ∧ o.data = .dict ds ep ∧ ds.toList = xs.map fun x => (⟨x.1.hash w, .ref x.2.1, x.2.2⟩ : DictEntry)
def Rt (K : PySem.W.Frag) (B : Bk) : V → T → Prop
  | v, .d x => Rp K B.G v x
  | v, .mr i => ∃ a, v = .ref a ∧ B.r[i]? = some a
  | v, .lr i => ∃ a, v = .ref a ∧ B.l[i]? = some a
  | v, .scr ns => ∃ a, v = .ref a ∧ SqL K B.G a (ns.map V.int)
  | v, .wt ds => ∃ a xs, v = .ref a ∧ SqT K B.G a xs ∧ RpA K B.G xs ds
  | v, .exo a _ d e => v = .ref a ∧ ExR K B.G d e
  | v, .q x => Rq K B.G v x
def CellAt (K : PySem.W.Frag) (B : Bk) (H : Hp) (a : Addr) : Cell → Prop
  | .lst ts => ∃ xs, H a = some (.lst xs) ∧ Paired (Rt K { B with l := [] }) xs ts
  | .dct kvs => ∃ vs, H a = some (.dK vs) ∧ Paired (fun (p : Key × V) (q : Key × T) => p.1 = q.1 ∧ Rt K { B with l := [] } p.2 q.2) vs kvs
  | .held u => H a = some u
  | .ins c fs => ∃ (C dx : Addr) (vs : List (Str × V)), CA K c = some C ∧ H a = some (.ins C dx vs) ∧ Paired (fun (p : Str × V) (q : Str × T) => p.1 = q.1 ∧ Rt K { B with l := [] } p.2 q.2) vs fs
  | .tup ts => ∃ (o : Obj) (xs : List V), H a = some (.frz o (.tup xs)) ∧ o.dict = none ∧ Paired (Rt K { B with l := [] }) xs ts
  | .exc f e => ∃ (C : Addr) (d : Option Addr), H a = some (exh a (.ref C) d) ∧ ExR K B.G d e ∧ XfC K C ∧ PySem.W.findIn K (.ref C) f = some none
  | .dnd kvs => ∃ es, H a = some (.ext (DNok a es)) ∧ Paired (fun (p : NestedKey × Addr × V) (q : PyData × T) => nk q.1 = some p.1 ∧ okKey 8 p.1 = true ∧ Rp K B.G (.ref p.2.1) q.1 ∧ Rt K { B with l := [] } p.2.2 q.2) es kvs
  | .dnk kvs => ∃ es, H a = some (.ext (DNok a es)) ∧ Paired (fun (p : NestedKey × Addr × V) (q : NestedKey × T) => p.1 = q.1 ∧ okKey 8 q.1 = true ∧ Rp K B.G (.ref p.2.1) q.1.data ∧ Rt K { B with l := [] } p.2.2 q.2) es kvs
/-- the world: the heap H holds the memory M by the book B -/
structure Wd (K : PySem.W.Frag) (B : Bk) (M : Mem) (H : Hp) : Prop where
  le : ∀ a o, B.G a = some o → H a = some o
  rlen : B.r.length = M.D.length
  llen : B.l.length = M.L.length
  nd : (B.r ++ B.l).Nodup
  dc : ∀ (i : Nat) (a : Addr) (c : Cell), B.r[i]? = some a → M.D[i]? = some c → B.G a = none ∧ CellAt K B H a c
  lc : ∀ (i : Nat) (a : Addr) (ds : List PyData), B.l[i]? = some a → M.L[i]? = some (some ds) → B.G a = none ∧ ∃ xs, H a = some (.lst xs) ∧ RpA K B.G xs ds
  tr : ∀ a, a ∈ B.r ++ B.l → H a ≠ none
structure Ext (B : Bk) (H : Hp) (B' : Bk) (H' : Hp) : Prop where
  g : ∀ a o, B.G a = some o → B'.G a = some o
  r : B.r <+: B'.r
  l : B.l <+: B'.l
  fr : ∀ a o, H a = some o → a ∉ B.r → a ∉ B.l → H' a = some o
  tr : ∀ a, H' a = none → H a = none
  rn : ∀ a, a ∈ B'.r → a ∈ B.r ∨ H a = none
  ln : ∀ a, a ∈ B'.l → a ∈ B.l ∨ H a = none
  gf : ∀ a o, B'.G a = some o → B.G a = some o ∨ H a = none ∨ a ∈ B.l
theorem Ext.refl (B : Bk) (H : Hp) : Ext B H B H :=
  ⟨fun _ _ e => e, List.prefix_refl _, List.prefix_refl _, fun _ _ e _ _ => e, fun _ e => e, fun _ e => .inl e, fun _ e => .inl e, fun _ _ e => .inl e⟩
theorem Ext.trans {B B1 B2 : Bk} {H H1 H2 : Hp} (x : Ext B H B1 H1) (y : Ext B1 H1 B2 H2) : Ext B H B2 H2 where
  g a o e := y.g a o (x.g a o e)
  r := x.r.trans y.r
  l := x.l.trans y.l
  fr a o e nr nl := by
    refine y.fr a o (x.fr a o e nr nl) (fun z => ?_) (fun z => ?_)
    · rcases x.rn a z with q | q
      · exact nr q
      · rw [e] at q; cases q
    · rcases x.ln a z with q | q
      · exact nl q
      · rw [e] at q; cases q
  tr a e := x.tr a (y.tr a e)
  rn a e := by
    rcases y.rn a e with q | q
    · exact x.rn a q
    · exact .inr (x.tr a q)
  ln a e := by
    rcases y.ln a e with q | q
    · exact x.ln a q
    · exact .inr (x.tr a q)
  gf a o e := by
    rcases y.gf a o e with q | q | q
    · exact x.gf a o q
    · exact .inr (.inl (x.tr a q))
    · rcases x.ln a q with z | z
      · exact .inr (.inr z)
      · exact .inr (.inl z)
mutual
theorem Rp.mono {K : PySem.W.Frag} {G G' : Hp} (g : ∀ a o, G a = some o → G' a = some o) : ∀ {v : V} {x : PyData}, Rp K G v x → Rp K G' v x
  | _, _, .non => .non
  | _, _, .bl b => .bl b
  | _, _, .int i => .int i
  | _, _, .str x => .str x
  | _, _, .lst e q => .lst (g _ _ e) (RpA.mono g q)
  | _, _, .tup e q => .tup (e.mono g) (RpA.mono g q)
theorem RpA.mono {K : PySem.W.Frag} {G G' : Hp} (g : ∀ a o, G a = some o → G' a = some o) : ∀ {v : List V} {x : List PyData}, RpA K G v x → RpA K G' v x
  | _, _, .nil => .nil
  | _, _, .cons p q => .cons (Rp.mono g p) (RpA.mono g q)
end
mutual
theorem Rq.mono {K : PySem.W.Frag} {G G' : Hp} (g : ∀ a o, G a = some o → G' a = some o) : ∀ {v : V} {x : Dt}, Rq K G v x → Rq K G' v x
  | _, _, .non => .non
  | _, _, .bl b => .bl b
  | _, _, .int i => .int i
  | _, _, .str x => .str x
  | _, _, .lst e q => .lst (g _ _ e) (RqA.mono g q)
  | _, _, .tup e q => .tup (e.mono g) (RqA.mono g q)
  | _, _, .dic e k v q => .dic (g _ _ e) k v (RqA.mono g q)
  | _, _, .obj c e => .obj c (g _ _ e)
  | _, _, .obj1 c e e2 q => .obj1 c (g _ _ e) (g _ _ e2) (Rq.mono g q)
  | _, _, .ins c e => .ins c (g _ _ e)
theorem RqA.mono {K : PySem.W.Frag} {G G' : Hp} (g : ∀ a o, G a = some o → G' a = some o) : ∀ {v : List V} {x : List Dt}, RqA K G v x → RqA K G' v x
  | _, _, .nil => .nil
  | _, _, .cons p q => .cons (Rq.mono g p) (RqA.mono g q)
end
theorem SqL.mono {K : PySem.W.Frag} {G G' : Hp} (g : ∀ a o, G a = some o → G' a = some o) {a : Addr} {xs : List V} (e : SqL K G a xs) : SqL K G' a xs := by
  rcases e with e | e
  · rcases e with e | ⟨o, e⟩
    · exact .inl (.inl (g _ _ e))
    · exact .inl (.inr ⟨o, g _ _ e⟩)
  · exact .inr e
theorem SqT.mono0 {K : PySem.W.Frag} {G G' : Hp} (g : ∀ a o, G a = some o → G' a = some o) {a : Addr} {xs : List V} (e : SqT K G a xs) : SqT K G' a xs := by
  rcases e with e | e
  · rcases e with e | ⟨o, e⟩
    · exact .inl (.inl (g _ _ e))
    · exact .inl (.inr ⟨o, g _ _ e⟩)
  · exact .inr e
/-- what a clean tuple is in a greater heap -/
theorem SqT.mono {K : PySem.W.Frag} {G G' : Hp} (g : ∀ a o, G a = some o → G' a = some o) {a : Addr} {xs : List V} (e : TupC K G a xs) : SqT K G' a xs := (e.mono g).t
theorem get_prefix {α : Type} {a b : List α} (p : a <+: b) {i : Nat} {x : α} (e : a[i]? = some x) : b[i]? = some x := by
  obtain ⟨c, rfl⟩ := p
  rw [List.getElem?_append_left (by
    rcases Nat.lt_or_ge i a.length with q | q
    · exact q
    · rw [List.getElem?_eq_none q] at e; cases e)]
  exact e
theorem ExR.mono {K : PySem.W.Frag} {G G' : Hp} (g : ∀ a o, G a = some o → G' a = some o) {d : Option Addr} {e : Exn} (h : ExR K G d e) : ExR K G' d e := by
  unfold ExR at h ⊢
  split at h
  · exact h
  · obtain ⟨dd, v, h1, h2, h3⟩ := h
    exact ⟨dd, v, h1, g _ _ h2, Rp.mono g h3⟩
theorem Rt.mono' {K : PySem.W.Frag} {B B' : Bk} (g : ∀ a o, B.G a = some o → B'.G a = some o) (r : B.r <+: B'.r) (l : B.l <+: B'.l) {v : V} {t : T} (h : Rt K B v t) : Rt K B' v t := by
  cases t with
  | d x => exact Rp.mono g h
  | mr i => obtain ⟨a, e, q⟩ := h; exact ⟨a, e, get_prefix r q⟩
  | lr i => obtain ⟨a, e, q⟩ := h; exact ⟨a, e, get_prefix l q⟩
  | scr ns => obtain ⟨a, e, q⟩ := h; exact ⟨a, e, SqL.mono g q⟩
  | wt xs => obtain ⟨a, vs, e, q, r⟩ := h; exact ⟨a, vs, e, SqT.mono0 g q, RpA.mono g r⟩
  | exo a c d e => exact ⟨h.1, h.2.mono g⟩
  | q x => exact Rq.mono g h
theorem Rt.mono {K : PySem.W.Frag} {B B' : Bk} {H H' : Hp} (x : Ext B H B' H') {v : V} {t : T} (h : Rt K B v t) : Rt K B' v t := Rt.mono' x.g x.r x.l h
theorem Paired.imp {α β : Type} {F F' : α → β → Prop} (f : ∀ a b, F a b → F' a b) : ∀ {l : List α} {m : List β}, Paired F l m → Paired F' l m
  | _, _, .nil => .nil
  | _, _, .cons h q => .cons (f _ _ h) (Paired.imp f q)
theorem Rts.mono {K : PySem.W.Frag} {B B' : Bk} {H H' : Hp} (x : Ext B H B' H') {v : List V} {t : List T} (h : Paired (Rt K B) v t) : Paired (Rt K B') v t := Paired.imp (fun _ _ q => Rt.mono x q) h
abbrev En := List (Option T)
structure Sl (K : PySem.W.Frag) (B : Bk) (σ : St) (τ : En) : Prop where
  len : σ.length = τ.length
  at_ : ∀ (i : Nat) (t : T), τ[i]? = some (some t) → ∃ v, σ[i]? = some (some v) ∧ Rt K B v t
theorem Sl.mono {K : PySem.W.Frag} {B B' : Bk} {H H' : Hp} (x : Ext B H B' H') {σ : St} {τ : En} (s : Sl K B σ τ) : Sl K B' σ τ :=
  ⟨s.len, fun i t e => let ⟨v, h, q⟩ := s.at_ i t e; ⟨v, h, Rt.mono x q⟩⟩
theorem Sl.set {K : PySem.W.Frag} {B : Bk} {σ : St} {τ : En} (s : Sl K B σ τ) (i : Nat) {v : V} {t : T} (q : Rt K B v t) : Sl K B (σ.set i (some v)) (τ.set i (some t)) := by
  refine ⟨by rw [List.length_set, List.length_set, s.len], fun j u e => ?_⟩
  by_cases h : i = j
  · subst h
    rcases Nat.lt_or_ge i τ.length with z | z
    · rw [List.getElem?_set_self z] at e
      cases e
      exact ⟨v, by rw [List.getElem?_set_self (by rw [s.len]; exact z)], q⟩
    · rw [List.getElem?_eq_none (by rw [List.length_set]; exact z)] at e
      cases e
  · rw [List.getElem?_set_ne h] at e
    obtain ⟨w, h1, h2⟩ := s.at_ j u e
    exact ⟨w, by rw [List.getElem?_set_ne h]; exact h1, h2⟩
theorem Sl.clr {K : PySem.W.Frag} {B : Bk} {σ : St} {τ : En} (s : Sl K B σ τ) (i : Nat) : Sl K B (σ.set i none) (τ.set i none) := by
  refine ⟨by rw [List.length_set, List.length_set, s.len], fun j u e => ?_⟩
  by_cases h : i = j
  · subst h
    rcases Nat.lt_or_ge i τ.length with z | z
    · rw [List.getElem?_set_self z] at e
      cases e
    · rw [List.getElem?_eq_none (by rw [List.length_set]; exact z)] at e
      cases e
  · rw [List.getElem?_set_ne h] at e
    obtain ⟨w, h1, h2⟩ := s.at_ j u e
    exact ⟨w, by rw [List.getElem?_set_ne h]; exact h1, h2⟩
def wipeT (τ : En) : List Nat → En
  | [] => τ
  | v :: vs => (wipeT τ vs).set v none
theorem Sl.wipe {K : PySem.W.Frag} {B : Bk} {σ : St} {τ : En} (s : Sl K B σ τ) : ∀ vs : List Nat, Sl K B (L2.wipe σ vs) (wipeT τ vs)
  | [] => s
  | v :: vs => (Sl.wipe s vs).clr v
abbrev Kt := T → Mem → Prop
abbrev Me := En → Mem → Kt → Prop
abbrev Mb := En → Mem → (Bool → Mem → Prop) → Prop
abbrev Ma := En → Mem → (List T → Mem → Prop) → Prop
structure Es where
  nx : En → Mem → Prop
  rt : Kt
  bk : En → Mem → Prop := fun _ _ => False
  ct : En → Mem → Prop := fun _ _ => False
abbrev Ms := Es → En → Mem → Prop
abbrev Mg := T → En → Mem → (En → Mem → Prop) → Prop
def rE (K : PySem.W.Frag) (m : Me) : TE := fun σ H Q' => ∃ τ M B Q, m τ M Q ∧ Wd K B M H ∧ Sl K B σ τ ∧ ∀ v t M' B' H', Q t M' → Wd K B' M' H' → Ext B H B' H' → Rt K B' v t → Q' v H'
def rB (K : PySem.W.Frag) (m : Mb) : TT := fun σ H Q' => ∃ τ M B Q, m τ M Q ∧ Wd K B M H ∧ Sl K B σ τ ∧ ∀ b M' B' H', Q b M' → Wd K B' M' H' → Ext B H B' H' → Q' b H'
def rA (K : PySem.W.Frag) (m : Ma) : TA := fun σ H Q' => ∃ τ M B Q, m τ M Q ∧ Wd K B M H ∧ Sl K B σ τ ∧ ∀ v t M' B' H', Q t M' → Wd K B' M' H' → Ext B H B' H' → Paired (Rt K B') v t → Q' v H'
/-- what is wanted behind a statement, told over trees -/
structure Go (K : PySem.W.Frag) (E : Es) (D : Ends) (B : Bk) (H : Hp) : Prop where
  nx : ∀ τ' M' B' σ' H', E.nx τ' M' → Wd K B' M' H' → Ext B H B' H' → Sl K B' σ' τ' → D.nx σ' H'
  rt : ∀ v t M' B' H', E.rt t M' → Wd K B' M' H' → Ext B H B' H' → Rt K B' v t → D.rt v H'
  bk : ∀ τ' M' B' σ' H', E.bk τ' M' → Wd K B' M' H' → Ext B H B' H' → Sl K B' σ' τ' → D.bk σ' H'
  ct : ∀ τ' M' B' σ' H', E.ct τ' M' → Wd K B' M' H' → Ext B H B' H' → Sl K B' σ' τ' → D.ct σ' H'
theorem Go.ext {K : PySem.W.Frag} {E : Es} {D : Ends} {B B1 : Bk} {H H1 : Hp} (x : Ext B H B1 H1) (g : Go K E D B H) : Go K E D B1 H1 :=
  ⟨fun t m b s h q w e => g.nx t m b s h q w (x.trans e), fun v t m b h q w e => g.rt v t m b h q w (x.trans e), fun t m b s h q w e => g.bk t m b s h q w (x.trans e), fun t m b s h q w e => g.ct t m b s h q w (x.trans e)⟩
def rS (K : PySem.W.Frag) (m : Ms) : TS := fun D σ H => ∃ E : Es, ∃ τ M B, m E τ M ∧ Wd K B M H ∧ Sl K B σ τ ∧ Go K E D B H
/-- alike but for the slots os -/
structure Ag (os : List Nat) (σ σ' : St) : Prop where
  len : σ'.length = σ.length
  at_ : ∀ j : Nat, j ∉ os → σ'[j]? = σ[j]?
theorem Ag.trans {o o' : List Nat} {a b c : St} (x : Ag o a b) (y : Ag o' b c) : Ag (o ++ o') a c :=
  ⟨y.len.trans x.len, fun j n => (y.at_ j fun z => n (List.mem_append_right _ z)).trans (x.at_ j fun z => n (List.mem_append_left _ z))⟩
theorem wipe_at (σ : St) (j : Nat) : ∀ vs : List Nat, (L2.wipe σ vs)[j]? = if j ∈ vs then (if j < σ.length then some none else none) else σ[j]?
  | [] => by simp [L2.wipe]
  | v :: vs => by
    unfold L2.wipe
    by_cases h : v = j
    · subst h
      rw [if_pos (by simp)]
      by_cases q : v < σ.length
      · rw [List.getElem?_set_self (by rw [wipe_length]; exact q), if_pos q]
      · rw [List.getElem?_eq_none (by rw [List.length_set, wipe_length]; omega), if_neg q]
    · rw [List.getElem?_set_ne h, wipe_at σ j vs]
      by_cases q : j ∈ vs
      · rw [if_pos q, if_pos (List.mem_cons_of_mem _ q)]
      · rw [if_neg q, if_neg]
        intro z
        rcases List.mem_cons.mp z with z | z
        · exact h z.symm
        · exact q z
theorem Ag.wipe {os vs : List Nat} {σ σ' : St} (sub : ∀ j ∈ os, j ∈ vs) (x : Ag os (L2.wipe σ vs) σ') : L2.wipe σ' vs = L2.wipe σ vs := by
  apply List.ext_getElem?
  intro j
  have hl : σ'.length = σ.length := x.len.trans (wipe_length σ vs)
  rw [wipe_at, wipe_at, hl]
  by_cases h : j ∈ vs
  · rw [if_pos h, if_pos h]
  · rw [if_neg h, if_neg h, x.at_ j fun z => h (sub j z), wipe_at, if_neg h]
def rG (K : PySem.W.Frag) (os : List Nat) (m : Mg) : TG := fun v σ H Q' => ∃ t τ M B Q, m t τ M Q ∧ Wd K B M H ∧ Sl K B σ τ ∧ Rt K B v t ∧ ∀ τ' M' B' σ' H', Q τ' M' → Wd K B' M' H' → Ext B H B' H' → Sl K B' σ' τ' → Ag os σ σ' → Q' σ' H'
abbrev ME (X : Cx) (e : Expr) (m : Me) : Prop := PE X e (rE X.K m)
abbrev MB (X : Cx) (e : Expr) (m : Mb) : Prop := PT X e (rB X.K m)
abbrev MA (X : Cx) (e : List Expr) (m : Ma) : Prop := PA X e (rA X.K m)
abbrev MS (X : Cx) (e : Stmt) (m : Ms) : Prop := PS X e (rS X.K m)
abbrev MSs (X : Cx) (e : List Stmt) (m : Ms) : Prop := PSs X e (rS X.K m)
abbrev MG (X : Cx) (e : Expr) (os : List Nat) (m : Mg) : Prop := PG X e (rG X.K os m)
theorem PE.of {X : Cx} {e : Expr} {t t' : TE} (h : PE X e t) (w : ∀ σ H Q, t' σ H Q → t σ H Q) : PE X e t' := ⟨fun _ _ _ _ _ iv q => h.run _ _ _ _ _ iv (w _ _ _ q)⟩
theorem PT.of {X : Cx} {e : Expr} {t t' : TT} (h : PT X e t) (w : ∀ σ H Q, t' σ H Q → t σ H Q) : PT X e t' := ⟨fun _ _ _ _ _ iv q => h.run _ _ _ _ _ iv (w _ _ _ q)⟩
theorem PW.of {X : Cx} {e : Expr} {t t' : TT} (h : PW X e t) (w : ∀ σ H Q, t' σ H Q → t σ H Q) : PW X e t' := ⟨fun _ _ _ _ _ _ iv q => h.run _ _ _ _ _ _ iv (w _ _ _ q)⟩
theorem PA.of {X : Cx} {e : List Expr} {t t' : TA} (h : PA X e t) (w : ∀ σ H Q, t' σ H Q → t σ H Q) : PA X e t' := ⟨fun _ _ _ _ _ _ iv q => h.run _ _ _ _ _ _ iv (w _ _ _ q)⟩
theorem PS.of {X : Cx} {e : Stmt} {t t' : TS} (h : PS X e t) (w : ∀ D σ H, t' D σ H → t D σ H) : PS X e t' := ⟨fun _ _ _ _ _ iv q => h.run _ _ _ _ _ iv (w _ _ _ q)⟩
theorem PSs.of {X : Cx} {e : List Stmt} {t t' : TS} (h : PSs X e t) (w : ∀ D σ H, t' D σ H → t D σ H) : PSs X e t' := ⟨fun _ _ _ _ _ iv q => h.run _ _ _ _ _ iv (w _ _ _ q)⟩
theorem PG.of {X : Cx} {e : Expr} {t t' : TG} (h : PG X e t) (w : ∀ v σ H Q, t' v σ H Q → t v σ H Q) : PG X e t' := ⟨fun _ _ _ _ _ _ _ iv rv q => h.run _ _ _ _ _ _ _ iv rv (w _ _ _ _ q)⟩
section
variable {X : Cx} {a b c e : Expr} {es : List Expr} {ma mb mc m : Me} {pos : Pos}
def mVar (i : Nat) : Me := fun τ M Q => ∃ t, τ[i]? = some (some t) ∧ Q t M
def mC (x : PyData) : Me := fun _ M Q => Q (.d x) M
theorem me_var {i : Nat} {x : Str} (h : PE X (.Name x pos) (tVar i)) : ME X (.Name x pos) (mVar i) := PE.of h fun σ H Q' ⟨τ, M, B, Q, ⟨t, ht, q⟩, w, s, k⟩ => by
  obtain ⟨v, hv, r⟩ := s.at_ i t ht
  exact ⟨v, hv, k v t M B H q w (.refl _ _) r⟩
theorem me_const {v : V} {x : PyData} (h : PE X e (tC v)) (hr : ∀ G, Rp X.K G v x) : ME X e (mC x) := PE.of h fun σ H Q' ⟨τ, M, B, Q, q, w, s, k⟩ => k v (.d x) M B H q w (.refl _ _) (hr _)
theorem me_int {i : Int} {j : Nat} : ME X (.Constant (.int i) j pos) (mC (.int i)) := me_const pe_int fun _ => .int i
theorem me_bl {i : Bool} {j : Nat} : ME X (.Constant (.bool i) j pos) (mC (.bool i)) := me_const pe_bl fun _ => .bl i
theorem me_non {j : Nat} : ME X (.Constant .none j pos) (mC .none) := me_const pe_non fun _ => .non
theorem me_str {i : Str} {j : Nat} : ME X (.Constant (.str i) j pos) (mC (.str i)) := me_const pe_str fun _ => .str i
abbrev F2 := T → T → Mem → Kt → Prop
/-- an operation by values is told by f -/
def OpL (K : PySem.W.Frag) (r : R2) (f : F2) : Prop := ∀ x y t u M B H Q Q', f t u M Q → Wd K B M H → Rt K B x t → Rt K B y u →
  (∀ v t' M' B' H', Q t' M' → Wd K B' M' H' → Ext B H B' H' → Rt K B' v t' → Q' v H') → r x y H Q'
def mOp (f : F2) (ma mb : Me) : Me := fun τ M Q => ma τ M fun x M1 => mb τ M1 fun y M2 => f x y M2 Q
theorem two {K : PySem.W.Frag} {r : R2} {f : F2} (ho : OpL K r f) {σ : St} {H : Hp} {Q' : VK} (h : rE K (mOp f ma mb) σ H Q') : tOp r (rE K ma) (rE K mb) σ H Q' := by
  obtain ⟨τ, M, B, Q, h, w, s, k⟩ := h
  refine ⟨τ, M, B, _, h, w, s, fun x t M1 B1 H1 h1 w1 e1 r1 => ⟨τ, M1, B1, _, h1, w1, s.mono e1, fun y u M2 B2 H2 h2 w2 e2 r2 => ?_⟩⟩
  exact ho x y t u M2 B2 H2 Q Q' h2 w2 (Rt.mono e2 r1) r2 fun v t' M' B' H' q w' e' r' => k v t' M' B' H' q w' (e1.trans (e2.trans e')) r'
theorem me_op {op : Operator} {r : R2} {f : F2} (ho : OpR X (binaryOp op) r) (hl : OpL X.K r f) (ha : ME X a ma) (hb : ME X b mb) : ME X (.BinOp a op b pos) (mOp f ma mb) := PE.of (pe_op ho ha hb) fun _ _ _ h => two hl h
theorem me_cmp {op : CmpOp} {r : R2} {f : F2} (ho : OpR X (compareOp op) r) (hl : OpL X.K r f) (ha : ME X a ma) (hb : ME X b mb) (hm : behindInMarks op b = false) : ME X (.Compare a [op] [b] pos) (mOp f ma mb) := PE.of (pe_cmpR ho ha hb hm) fun _ _ _ h => two hl h
/-- a value as a test -/
def mTest (m : Me) : Mb := fun τ M Q => m τ M fun x M1 => ∃ k, x = .d (.bool k) ∧ Q k M1
theorem mb_cmp {op : CmpOp} {r : R2} {f : F2} (ho : OpR X (compareOp op) r) (hl : OpL X.K r f) (ha : ME X a ma) (hb : ME X b mb) (hm : behindInMarks op b = false) : MB X (.Compare a [op] [b] pos) (mTest (mOp f ma mb)) := by
  refine PT.of (pt_cmpR ho ha hb hm) fun σ H Q' ⟨τ, M, B, Q, h, w, s, k⟩ => ?_
  refine two hl ⟨τ, M, B, _, h, w, s, fun v t M' B' H' ⟨k2, e, q⟩ w' e' r' => ?_⟩
  subst e
  cases r'
  exact ⟨k2, rfl, k k2 M' B' H' q w' e'⟩
end
end L3
set_option Elab.async false
set_option linter.all false
set_option maxRecDepth 100000
namespace L3
open PySem PySem.Spec L2
section
variable {K : PySem.W.Frag} {B : Bk} {M : Mem} {H : Hp}
mutual
theorem Rp.dp {G : Hp} : ∀ {v : V} {x : PyData}, Rp K G v x → Dp K G v x
  | _, _, .non => .non
  | _, _, .bl b => .bl b
  | _, _, .int i => .int i
  | _, _, .str x => .str x
  | _, _, .lst e q => .lst (.inl (.inl e)) (RpA.dp q)
  | _, _, .tup e q => .tup e.t (RpA.dp q)
theorem RpA.dp {G : Hp} : ∀ {v : List V} {x : List PyData}, RpA K G v x → DpAll K G v x
  | _, _, .nil => .nil
  | _, _, .cons p q => .cons (Rp.dp p) (RpA.dp q)
end
theorem Wd.rp (w : Wd K B M H) {v : V} {x : PyData} (h : Rp K B.G v x) : Rp K H v x := Rp.mono w.le h
theorem Wd.rpa (w : Wd K B M H) {v : List V} {x : List PyData} (h : RpA K B.G v x) : RpA K H v x := RpA.mono w.le h
theorem RpA.length {G : Hp} : ∀ {v : List V} {x : List PyData}, RpA K G v x → v.length = x.length
  | _, _, .nil => rfl
  | _, _, .cons _ q => by rw [List.length_cons, List.length_cons, RpA.length q]
theorem RpA.append {G : Hp} : ∀ {v w : List V} {x y : List PyData}, RpA K G v x → RpA K G w y → RpA K G (v ++ w) (x ++ y)
  | _, _, _, _, .nil, q => q
  | _, _, _, _, .cons p q, r => .cons p (RpA.append q r)
theorem RpA.get {G : Hp} : ∀ {v : List V} {x : List PyData} {i : Nat} {d : PyData}, RpA K G v x → x[i]? = some d → ∃ u, v[i]? = some u ∧ Rp K G u d
  | _, _, _, _, .nil, e => by simp at e
  | _, _, 0, _, .cons p _, e => by simp at e; subst e; exact ⟨_, rfl, p⟩
  | _, _, i + 1, _, .cons _ q, e => by
    obtain ⟨u, h1, h2⟩ := RpA.get (i := i) q (by simpa using e)
    exact ⟨u, by simpa using h1, h2⟩
theorem RpA.set {G : Hp} {u : V} {d : PyData} (r : Rp K G u d) : ∀ {v : List V} {x : List PyData} (i : Nat), RpA K G v x → RpA K G (v.set i u) (x.set i d)
  | _, _, _, .nil => .nil
  | _, _, 0, .cons _ q => .cons r q
  | _, _, i + 1, .cons p q => .cons p (RpA.set r i q)
theorem RpA.take {G : Hp} : ∀ {v : List V} {x : List PyData} (n : Nat), RpA K G v x → RpA K G (v.take n) (x.take n)
  | _, _, 0, _ => .nil
  | _, _, _ + 1, .nil => .nil
  | _, _, n + 1, .cons p q => .cons p (RpA.take n q)
theorem RpA.drop {G : Hp} : ∀ {v : List V} {x : List PyData} (n : Nat), RpA K G v x → RpA K G (v.drop n) (x.drop n)
  | _, _, 0, r => r
  | _, _, _ + 1, .nil => .nil
  | _, _, n + 1, .cons _ q => RpA.drop n q
theorem RpA.eraseIdx {G : Hp} : ∀ {v : List V} {x : List PyData} (n : Nat), RpA K G v x → RpA K G (v.eraseIdx n) (x.eraseIdx n)
  | _, _, _, .nil => .nil
  | _, _, 0, .cons _ q => q
  | _, _, n + 1, .cons p q => .cons p (RpA.eraseIdx n q)
theorem RpA.dropLast {G : Hp} {v : List V} {x : List PyData} (h : RpA K G v x) : RpA K G v.dropLast x.dropLast := by
  rw [List.dropLast_eq_take, List.dropLast_eq_take, RpA.length h]
  exact RpA.take _ h
theorem RpA.ints {G : Hp} : ∀ {v : List V} {ns : List Int}, RpA K G v (ns.map PyData.int) → v = ns.map V.int
  | _, [], .nil => rfl
  | _, _ :: _, .cons (.int _) q => by rw [RpA.ints q]; rfl
theorem RpA.of_ints {G : Hp} : ∀ ns : List Int, RpA K G (ns.map V.int) (ns.map PyData.int)
  | [] => .nil
  | n :: ns => .cons (.int n) (RpA.of_ints ns)
theorem RpA.rep {G : Hp} {v : List V} {x : List PyData} (h : RpA K G v x) : ∀ n : Nat, RpA K G (List.replicate n v).flatten (List.replicate n x).flatten
  | 0 => .nil
  | n + 1 => by
    rw [List.replicate_succ, List.replicate_succ, List.flatten_cons, List.flatten_cons]
    exact RpA.append h (RpA.rep h n)
/-- values that all are trees -/
def datas : List T → Option (List PyData)
  | [] => some []
  | .d x :: r => (datas r).map (x :: ·)
  | _ :: _ => none
theorem datas_rpa : ∀ {xs : List V} {ts : List T} {ds : List PyData}, Paired (Rt K B) xs ts → datas ts = some ds → RpA K B.G xs ds
  | _, _, _, .nil, e => by
    cases e
    exact .nil
  | _, _, _, .cons (b := t) p q, e => by
    cases t with
    | d x =>
      unfold datas at e
      cases h : datas _ with
      | none => rw [h] at e; cases e
      | some r =>
        rw [h] at e
        cases e
        exact .cons p (datas_rpa q h)
    | mr i => cases e
    | lr i => cases e
    | scr ns => cases e
    | wt xs => cases e
    | exo a c d e' => cases e
    | q x => cases e
theorem Wd.fresh (w : Wd K B M H) {p : Addr} (hp : H p = none) : B.G p = none ∧ p ∉ B.r ∧ p ∉ B.l := by
  refine ⟨?_, fun z => ?_, fun z => ?_⟩
  · cases e : B.G p with
    | none => rfl
    | some o => rw [w.le _ _ e] at hp; cases hp
  · exact w.tr p (List.mem_append_left _ z) hp
  · exact w.tr p (List.mem_append_right _ z) hp
theorem upd_keep {G : Hp} {p : Addr} {o : HO} (h : G p = none) : ∀ a u, G a = some u → upd G p o a = some u := fun a u e => by
  rw [upd_ne (ne_of_none e h)]
  exact e
theorem CellAt.mono {B' : Bk} {H' : Hp} {a : Addr} {c : Cell} (g : ∀ a o, B.G a = some o → B'.G a = some o) (r : B.r <+: B'.r) (e : H' a = H a) (h : CellAt K B H a c) : CellAt K B' H' a c := by
  have f : ∀ v t, Rt K { B with l := [] } v t → Rt K { B' with l := [] } v t := fun v t q => Rt.mono' (B := { B with l := [] }) (B' := { B' with l := [] }) g r (List.prefix_refl _) q
  cases c with
  | lst ts =>
    obtain ⟨xs, h1, h2⟩ := h
    exact ⟨xs, e.trans h1, Paired.imp f h2⟩
  | dct kvs =>
    obtain ⟨xs, h1, h2⟩ := h
    exact ⟨xs, e.trans h1, Paired.imp (fun _ _ q => ⟨q.1, f _ _ q.2⟩) h2⟩
  | dnk kvs =>
    obtain ⟨xs, h1, h2⟩ := h
    exact ⟨xs, e.trans h1, Paired.imp (fun _ _ q => ⟨q.1, q.2.1, Rp.mono g q.2.2.1, f _ _ q.2.2.2⟩) h2⟩
  | held u => exact e.trans h
  | ins c fs =>
    obtain ⟨C, dx, vs, hc, h1, h2⟩ := h
    exact ⟨C, dx, vs, hc, e.trans h1, Paired.imp (fun _ _ q => ⟨q.1, f _ _ q.2⟩) h2⟩
  | tup ts =>
    obtain ⟨o, xs, h1, ho, h2⟩ := h
    exact ⟨o, xs, e.trans h1, ho, Paired.imp f h2⟩
  | exc f2 e2 =>
    obtain ⟨C, d, h1, h2, h3⟩ := h
    exact ⟨C, d, e.trans h1, ExR.mono g h2, h3⟩
  | dnd kvs =>
    obtain ⟨xs, h1, h2⟩ := h
    exact ⟨xs, e.trans h1, Paired.imp (fun _ _ q => ⟨q.1, q.2.1, Rp.mono g q.2.2.1, f _ _ q.2.2.2⟩) h2⟩
theorem mem_of_get {α : Type} {l : List α} {i : Nat} {a : α} (e : l[i]? = some a) : a ∈ l := List.mem_of_getElem? e
/-- a new object that never changes -/
theorem Wd.alloc (w : Wd K B M H) {p : Addr} (hp : H p = none) (o : HO) : Wd K { B with G := upd B.G p o } M (upd H p o) ∧ Ext B H { B with G := upd B.G p o } (upd H p o) := by
  obtain ⟨hG, hr, hl⟩ := w.fresh hp
  have ne : ∀ {a : Addr}, a ∈ B.r ++ B.l → a ≠ p := fun {a} h z => by
    subst z
    exact w.tr _ h hp
  refine ⟨⟨fun a u e => ?_, w.rlen, w.llen, w.nd, fun i a c h1 h2 => ?_, fun i a ds h1 h2 => ?_, fun a ha => ?_⟩, ⟨upd_keep hG, List.prefix_refl _, List.prefix_refl _, fun a u e _ _ => upd_keep hp a u e, fun a e => ?_, fun a e => .inl e, fun a e => .inl e, fun a u e => ?_⟩⟩
  · by_cases z : a = p
    · subst z
      have e' : upd B.G a o a = some u := e
      rw [upd_same] at e' ⊢
      exact e'
    · have e' : upd B.G p o a = some u := e
      rw [upd_ne z] at e' ⊢
      exact w.le a u e'
  · obtain ⟨q1, q2⟩ := w.dc i a c h1 h2
    have na := ne (List.mem_append_left _ (mem_of_get h1))
    exact ⟨(upd_ne na).trans q1, CellAt.mono (upd_keep hG) (List.prefix_refl _) (upd_ne na) q2⟩
  · obtain ⟨q1, xs, q2, q3⟩ := w.lc i a ds h1 h2
    have na := ne (List.mem_append_right _ (mem_of_get h1))
    exact ⟨(upd_ne na).trans q1, xs, (upd_ne na).trans q2, RpA.mono (upd_keep hG) q3⟩
  · rw [upd_ne (ne ha)]
    exact w.tr a ha
  · by_cases z : a = p
    · subst z
      exact hp
    · rw [upd_ne z] at e
      exact e
  · by_cases z : a = p
    · subst z
      exact .inr (.inl hp)
    · have e' : upd B.G p o a = some u := e
      rw [upd_ne z] at e'
      exact .inl e'
theorem nodup_snoc {α : Type} {l : List α} {a : α} (h : l.Nodup) (n : a ∉ l) : (l ++ [a]).Nodup := by
  rw [List.nodup_append]
  refine ⟨h, by simp, fun x hx y hy => ?_⟩
  rw [List.mem_singleton] at hy
  subst hy
  intro z
  subst z
  exact n hx
/-- a new list of the frame's own -/
theorem Wd.newL (w : Wd K B M H) {p : Addr} (hp : H p = none) {xs : List V} {ds : List PyData} (h : RpA K B.G xs ds) :
    Wd K { B with l := B.l ++ [p] } { M with L := M.L ++ [some ds] } (upd H p (.lst xs)) ∧ Ext B H { B with l := B.l ++ [p] } (upd H p (.lst xs)) := by
  obtain ⟨hG, hr, hl⟩ := w.fresh hp
  have ne : ∀ {a : Addr}, a ∈ B.r ++ B.l → a ≠ p := fun {a} h z => by
    subst z
    exact w.tr _ h hp
  refine ⟨⟨fun a u e => upd_keep hp a u (w.le a u e), w.rlen, by simp [w.llen], ?_, fun i a c h1 h2 => ?_, fun i a es h1 h2 => ?_, fun a ha => ?_⟩, ⟨fun a u e => e, List.prefix_refl _, List.prefix_append _ _, fun a u e _ _ => upd_keep hp a u e, fun a e => ?_, fun a e => .inl e, fun a e => ?_, fun a u e => .inl e⟩⟩
  · show (B.r ++ (B.l ++ [p])).Nodup
    rw [← List.append_assoc]
    exact nodup_snoc w.nd fun z => ne z rfl
  · obtain ⟨q1, q2⟩ := w.dc i a c h1 h2
    have na := ne (List.mem_append_left _ (mem_of_get h1))
    exact ⟨q1, CellAt.mono (fun _ _ e => e) (List.prefix_refl _) (upd_ne na) q2⟩
  · have h1' : (B.l ++ [p])[i]? = some a := h1
    have h2' : (M.L ++ [some ds])[i]? = some (some es) := h2
    rcases Nat.lt_or_ge i B.l.length with z | z
    · rw [List.getElem?_append_left z] at h1'
      rw [List.getElem?_append_left (by rw [← w.llen]; exact z)] at h2'
      obtain ⟨q1, ys, q2, q3⟩ := w.lc i a es h1' h2'
      exact ⟨q1, ys, (upd_ne (ne (List.mem_append_right _ (mem_of_get h1')))).trans q2, q3⟩
    · rw [List.getElem?_append_right z] at h1'
      rw [List.getElem?_append_right (by rw [← w.llen]; exact z), ← w.llen] at h2'
      cases j : i - B.l.length with
      | succ k => rw [j] at h1'; simp at h1'
      | zero =>
        rw [j] at h1' h2'
        simp only [List.getElem?_cons_zero, Option.some.injEq] at h1' h2'
        subst h1'
        subst h2'
        exact ⟨hG, xs, upd_same, h⟩
  · have ha' : a ∈ B.r ++ (B.l ++ [p]) := ha
    rw [← List.append_assoc] at ha'
    rcases List.mem_append.mp ha' with z | z
    · rw [upd_ne (ne z)]
      exact w.tr a z
    · rw [List.mem_singleton] at z
      subst z
      rw [upd_same]
      exact fun q => nomatch q
  · by_cases z : a = p
    · subst z
      exact hp
    · rw [upd_ne z] at e
      exact e
  · rcases List.mem_append.mp e with z | z
    · exact .inl z
    · rw [List.mem_singleton] at z
      subst z
      exact .inr hp
theorem nodup_get {α : Type} : ∀ {l : List α} {i j : Nat} {a : α}, l.Nodup → l[i]? = some a → l[j]? = some a → i = j
  | [], _, _, _, _, e, _ => by simp at e
  | x :: l, 0, 0, _, _, _, _ => rfl
  | x :: l, 0, j + 1, a, n, e, f => by
    rw [List.getElem?_cons_zero] at e
    cases e
    rw [List.getElem?_cons_succ] at f
    exact absurd (mem_of_get f) (List.nodup_cons.mp n).1
  | x :: l, i + 1, 0, a, n, e, f => by
    rw [List.getElem?_cons_zero] at f
    cases f
    rw [List.getElem?_cons_succ] at e
    exact absurd (mem_of_get e) (List.nodup_cons.mp n).1
  | x :: l, i + 1, j + 1, a, n, e, f => by
    rw [List.getElem?_cons_succ] at e f
    rw [nodup_get (List.nodup_cons.mp n).2 e f]
theorem Wd.rl (w : Wd K B M H) {a : Addr} (h1 : a ∈ B.r) (h2 : a ∈ B.l) : False := (List.nodup_append.mp w.nd).2.2 a h1 a h2 rfl
/-- one of the frame's own lists is written -/
theorem Wd.setL (w : Wd K B M H) {i : Nat} {p : Addr} (hp : B.l[i]? = some p) {ds0 : List PyData} (h0 : M.L[i]? = some (some ds0)) {xs : List V} {ds : List PyData} (h : RpA K B.G xs ds) :
    Wd K B { M with L := M.L.set i (some ds) } (upd H p (.lst xs)) ∧ Ext B H B (upd H p (.lst xs)) := by
  obtain ⟨hG, _⟩ := w.lc i p ds0 hp h0
  have pl := mem_of_get hp
  refine ⟨⟨fun a u e => ?_, w.rlen, by simp [w.llen], w.nd, fun j a c h1 h2 => ?_, fun j a es h1 h2 => ?_, fun a ha => ?_⟩, ⟨fun a u e => e, List.prefix_refl _, List.prefix_refl _, fun a u e _ n => ?_, fun a e => ?_, fun a e => .inl e, fun a e => .inl e, fun a u e => .inl e⟩⟩
  · rw [upd_ne (ne_of_none e hG)]
    exact w.le a u e
  · obtain ⟨q1, q2⟩ := w.dc j a c h1 h2
    have na : a ≠ p := fun z => by
      subst z
      exact w.rl (mem_of_get h1) pl
    exact ⟨q1, CellAt.mono (fun _ _ e => e) (List.prefix_refl _) (upd_ne na) q2⟩
  · by_cases z : i = j
    · subst z
      rw [hp] at h1
      cases h1
      have lt : i < M.L.length := by
        rcases Nat.lt_or_ge i M.L.length with q | q
        · exact q
        · rw [List.getElem?_eq_none q] at h0; cases h0
      have h2' : (M.L.set i (some ds))[i]? = some (some es) := h2
      rw [List.getElem?_set_self lt] at h2'
      cases h2'
      exact ⟨hG, xs, upd_same, h⟩
    · have h2' : (M.L.set i (some ds))[j]? = some (some es) := h2
      rw [List.getElem?_set_ne z] at h2'
      obtain ⟨q1, ys, q2, q3⟩ := w.lc j a es h1 h2'
      refine ⟨q1, ys, (upd_ne fun y => z ?_).trans q2, q3⟩
      subst y
      exact nodup_get (List.nodup_append.mp w.nd).2.1 hp h1
  · by_cases z : a = p
    · subst z
      rw [upd_same]
      exact fun q => nomatch q
    · rw [upd_ne z]
      exact w.tr a ha
  · rw [upd_ne fun z => n (by subst z; exact pl)]
    exact e
  · by_cases z : a = p
    · subst z
      rw [upd_same] at e
      cases e
    · rw [upd_ne z] at e
      exact e
/-- one of the frame's own lists never changes any more -/
theorem Wd.freeze (w : Wd K B M H) {i : Nat} {p : Addr} (hp : B.l[i]? = some p) {ds : List PyData} (h0 : M.L[i]? = some (some ds)) :
    ∃ B', Wd K B' { M with L := M.L.set i none } H ∧ Ext B H B' H ∧ Rp K B'.G (.ref p) (.list ds) := by
  obtain ⟨hG, xs, e0, h⟩ := w.lc i p ds hp h0
  have pl := mem_of_get hp
  refine ⟨{ B with G := upd B.G p (.lst xs) }, ⟨fun a u e => ?_, w.rlen, by simp [w.llen], w.nd, fun j a c h1 h2 => ?_, fun j a es h1 h2 => ?_, w.tr⟩, ⟨upd_keep hG, List.prefix_refl _, List.prefix_refl _, fun a u e _ n => e, fun a e => e, fun a e => .inl e, fun a e => .inl e, fun a u e => ?_⟩, .lst upd_same (RpA.mono (upd_keep hG) h)⟩
  · by_cases z : a = p
    · subst z
      rw [show ({ B with G := upd B.G a (.lst xs) } : Bk).G = upd B.G a (.lst xs) from rfl, upd_same] at e
      rw [e0]
      exact e
    · have e' : upd B.G p (.lst xs) a = some u := e
      rw [upd_ne z] at e'
      exact w.le a u e'
  · obtain ⟨q1, q2⟩ := w.dc j a c h1 h2
    have na : a ≠ p := fun z => by
      subst z
      exact w.rl (mem_of_get h1) pl
    exact ⟨(upd_ne na).trans q1, CellAt.mono (upd_keep hG) (List.prefix_refl _) rfl q2⟩
  · by_cases z : i = j
    · subst z
      have lt : i < M.L.length := by
        rcases Nat.lt_or_ge i M.L.length with q | q
        · exact q
        · rw [List.getElem?_eq_none q] at h0; cases h0
      have h2' : (M.L.set i none)[i]? = some (some es) := h2
      rw [List.getElem?_set_self lt] at h2'
      cases h2'
    · have h2' : (M.L.set i none)[j]? = some (some es) := h2
      rw [List.getElem?_set_ne z] at h2'
      obtain ⟨q1, ys, q2, q3⟩ := w.lc j a es h1 h2'
      refine ⟨(upd_ne fun y => z ?_).trans q1, ys, q2, RpA.mono (upd_keep hG) q3⟩
      subst y
      exact nodup_get (List.nodup_append.mp w.nd).2.1 hp h1
  · by_cases z : a = p
    · subst z
      exact .inr (.inr pl)
    · have e' : upd B.G p (.lst xs) a = some u := e
      rw [upd_ne z] at e'
      exact .inl e'
/-- a new object of the deck -/
theorem Wd.newD (w : Wd K B M H) {p : Addr} (hp : H p = none) {o : HO} {c : Cell} (h : ∀ H', H' p = some o → CellAt K { B with r := B.r ++ [p] } H' p c) :
    Wd K { B with r := B.r ++ [p] } { M with D := M.D ++ [c] } (upd H p o) ∧ Ext B H { B with r := B.r ++ [p] } (upd H p o) := by
  obtain ⟨hG, hr, hl⟩ := w.fresh hp
  have ne : ∀ {a : Addr}, a ∈ B.r ++ B.l → a ≠ p := fun {a} ha z => by
    rw [z] at ha
    exact w.tr _ ha hp
  refine ⟨⟨fun a u e => upd_keep hp a u (w.le a u e), by simp [w.rlen], w.llen, ?_, fun i a c' h1 h2 => ?_, fun i a es h1 h2 => ?_, fun a ha => ?_⟩, ⟨fun a u e => e, List.prefix_append _ _, List.prefix_refl _, fun a u e _ _ => upd_keep hp a u e, fun a e => ?_, fun a e => ?_, fun a e => .inl e, fun a u e => .inl e⟩⟩
  · show ((B.r ++ [p]) ++ B.l).Nodup
    rw [List.nodup_append]
    obtain ⟨n1, n2, n3⟩ := List.nodup_append.mp w.nd
    refine ⟨nodup_snoc n1 hr, n2, fun x hx y hy z => ?_⟩
    rcases List.mem_append.mp hx with q | q
    · exact n3 x q y hy z
    · rw [List.mem_singleton] at q
      subst z
      subst q
      exact hl hy
  · have h1' : (B.r ++ [p])[i]? = some a := h1
    have h2' : (M.D ++ [c])[i]? = some c' := h2
    rcases Nat.lt_or_ge i B.r.length with z | z
    · rw [List.getElem?_append_left z] at h1'
      rw [List.getElem?_append_left (by rw [← w.rlen]; exact z)] at h2'
      obtain ⟨q1, q2⟩ := w.dc i a c' h1' h2'
      exact ⟨q1, CellAt.mono (B := B) (B' := { B with r := B.r ++ [p] }) (fun _ _ e => e) (List.prefix_append _ _) (upd_ne (ne (List.mem_append_left _ (mem_of_get h1')))) q2⟩
    · rw [List.getElem?_append_right z] at h1'
      rw [List.getElem?_append_right (by rw [← w.rlen]; exact z), ← w.rlen] at h2'
      cases j : i - B.r.length with
      | succ k => rw [j] at h1'; simp at h1'
      | zero =>
        rw [j] at h1' h2'
        simp only [List.getElem?_cons_zero, Option.some.injEq] at h1' h2'
        subst h1'
        subst h2'
        exact ⟨hG, h _ upd_same⟩
  · obtain ⟨q1, ys, q2, q3⟩ := w.lc i a es h1 h2
    exact ⟨q1, ys, (upd_ne (ne (List.mem_append_right _ (mem_of_get h1)))).trans q2, q3⟩
  · have ha' : a ∈ (B.r ++ [p]) ++ B.l := ha
    rcases List.mem_append.mp ha' with z | z
    · rcases List.mem_append.mp z with z | z
      · rw [upd_ne (ne (List.mem_append_left _ z))]
        exact w.tr a (List.mem_append_left _ z)
      · rw [List.mem_singleton] at z
        subst z
        rw [upd_same]
        exact fun q => nomatch q
    · rw [upd_ne (ne (List.mem_append_right _ z))]
      exact w.tr a (List.mem_append_right _ z)
  · by_cases z : a = p
    · subst z
      exact hp
    · rw [upd_ne z] at e
      exact e
  · rcases List.mem_append.mp e with z | z
    · exact .inl z
    · rw [List.mem_singleton] at z
      subst z
      exact .inr hp
/-- an object of the deck is written -/
theorem Wd.setD (w : Wd K B M H) {i : Nat} {p : Addr} (hp : B.r[i]? = some p) {c0 : Cell} (h0 : M.D[i]? = some c0) {o : HO} {c : Cell} (h : ∀ H', H' p = some o → CellAt K B H' p c) :
    Wd K B { M with D := M.D.set i c } (upd H p o) ∧ Ext B H B (upd H p o) := by
  obtain ⟨hG, _⟩ := w.dc i p c0 hp h0
  have pl := mem_of_get hp
  refine ⟨⟨fun a u e => ?_, by simp [w.rlen], w.llen, w.nd, fun j a c' h1 h2 => ?_, fun j a es h1 h2 => ?_, fun a ha => ?_⟩, ⟨fun a u e => e, List.prefix_refl _, List.prefix_refl _, fun a u e n _ => ?_, fun a e => ?_, fun a e => .inl e, fun a e => .inl e, fun a u e => .inl e⟩⟩
  · rw [upd_ne (ne_of_none e hG)]
    exact w.le a u e
  · by_cases z : i = j
    · subst z
      rw [hp] at h1
      cases h1
      have lt : i < M.D.length := by
        rcases Nat.lt_or_ge i M.D.length with q | q
        · exact q
        · rw [List.getElem?_eq_none q] at h0; cases h0
      have h2' : (M.D.set i c)[i]? = some c' := h2
      rw [List.getElem?_set_self lt] at h2'
      cases h2'
      exact ⟨hG, h _ upd_same⟩
    · have h2' : (M.D.set i c)[j]? = some c' := h2
      rw [List.getElem?_set_ne z] at h2'
      obtain ⟨q1, q2⟩ := w.dc j a c' h1 h2'
      refine ⟨q1, CellAt.mono (fun _ _ e => e) (List.prefix_refl _) (upd_ne fun y => z ?_) q2⟩
      subst y
      exact nodup_get (List.nodup_append.mp w.nd).1 hp h1
  · obtain ⟨q1, ys, q2, q3⟩ := w.lc j a es h1 h2
    refine ⟨q1, ys, (upd_ne fun z => ?_).trans q2, q3⟩
    subst z
    exact w.rl pl (mem_of_get h1)
  · by_cases z : a = p
    · subst z
      rw [upd_same]
      exact fun q => nomatch q
    · rw [upd_ne z]
      exact w.tr a ha
  · rw [upd_ne fun z => n (by subst z; exact pl)]
    exact e
  · by_cases z : a = p
    · subst z
      rw [upd_same] at e
      cases e
    · rw [upd_ne z] at e
      exact e
end
end L3
set_option Elab.async false
set_option linter.all false
set_option maxRecDepth 100000
namespace L3
open PySem PySem.Spec L2 PyProof.Rows
def nuT (us : List Value) : Obj := { cls := .type "tuple", data := .seq us.toArray }
theorem okC {P : Program} {w : World} {H : Hp} {h : Heap} {a : Addr} {us : List Value} {xs : List V} (z : xs.length ≤ sizeLine) (r : Vals xs us) (e : h.get? a = some (nuT us)) : ObjOk P w H h a (.frz (nuT us) (.tup xs)) := by
  unfold L2.ObjOk
  refine ⟨e, ?_⟩
  unfold L2.ObjOk
  exact ⟨z, us, r, _, e, rfl, 0, rfl⟩
section
variable {X : Cx} {es : List Expr} {t : TA} {pos : Pos}
def tTupC (t : TA) : TE := fun σ H Q => t σ H fun xs H1 => xs.length ≤ sizeLine ∧ ∀ (p : Addr) (o : Obj), H1 p = none → o.dict = none → Q (.ref p) (upd H1 p (.frz o (.tup xs)))
theorem pe_tupC {x1 : Nat} (h : PA X es t) : PE X (.Tuple es x1 pos) (tTupC t) := ⟨fun pins s σ H Q I hq => by
  refine wpAny_Tuple_spliced (thn (h.run pos pins s σ H (fun xs H1 => xs.length ≤ sizeLine ∧ ∀ (p : Addr) (o : Obj), H1 p = none → o.dict = none → Q (.ref p) (upd H1 p (.frz o (.tup xs)))) I hq) fun us s1 ⟨xs, H1, I1, r, z, q⟩ => ?_)
  refine ⟨by rw [← r.length]; exact z, ?_⟩
  exact ⟨.ref s1.heap.objs.size, upd H1 s1.heap.objs.size (.frz (nuT us) (.tup xs)), I1.laid (fun b u e => Heap.get?_push_of_some _ e) (Nat.le_refl _) (okC z r (Heap.get?_push_size _ rfl)), rfl, q _ _ (I1.hok.fresh (Nat.le_refl _)) rfl⟩⟩
def rCatC (K : PySem.W.Frag) : R2 := fun x y H Q => ∃ a b xs ys, x = .ref a ∧ y = .ref b ∧ SqT K H a xs ∧ SqT K H b ys ∧ xs.length + ys.length ≤ sizeLine ∧ (xs = [] → Q (.ref b) H) ∧ (xs ≠ [] → ys = [] → Q (.ref a) H) ∧
  (xs ≠ [] → ys ≠ [] → ∀ (p : Addr) (o : Obj), H p = none → o.dict = none → Q (.ref p) (upd H p (.frz o (.tup (xs ++ ys)))))
theorem op_catC : OpR X (binaryOp .Add) (rCatC X.K) := by
  intro pins s σ H x y v u Q I rx ry h
  obtain ⟨a, b, xs, ys, rfl, rfl, ha, hb, hz, q0, q1, q2⟩ := h
  by_cases hx : xs = []
  · exact op_catA pins s σ H (.ref a) (.ref b) v u Q I rx ry ⟨a, b, xs, ys, rfl, rfl, ha, hb, hz, q0, q1, fun z => absurd hx z⟩
  · cases rx
    cases ry
    obtain ⟨us, r1, p1, _⟩ := I.tuple ha
    obtain ⟨vs, r2, p2, _⟩ := I.tuple hb
    refine HT.cat_tup p1 p2 (fun z => hx ?_) (fun z => ?_) (fun z => ?_) (by rw [← r1.length, ← r2.length]; exact hz)
    · subst z
      cases r1
      rfl
    · subst z
      cases r2
      exact ⟨.ref a, H, I, rfl, q1 hx rfl⟩
    · have hy : ys ≠ [] := fun e => by
        subst e
        cases r2
        exact z rfl
      exact ⟨.ref s.heap.objs.size, upd H s.heap.objs.size (.frz (nuT (us ++ vs)) (.tup (xs ++ ys))), I.laid (fun b u e => Heap.get?_push_of_some _ e) (Nat.le_refl _) (okC (by rw [List.length_append]; exact hz) (Vals.append r1 r2) (Heap.get?_push_size _ rfl)), rfl, q2 hx hy _ _ (I.hok.fresh (Nat.le_refl _)) rfl⟩
def rSlC (K : PySem.W.Frag) : V → Option Int → Option Int → Hp → VK → Prop := fun x lo hi H Q => ∃ a xs, x = .ref a ∧ SqT K H a xs ∧ (HT.sIx xs.length 0 lo = 0 ∧ HT.sIx xs.length xs.length hi = xs.length → Q (.ref a) H) ∧
  (¬(HT.sIx xs.length 0 lo = 0 ∧ HT.sIx xs.length xs.length hi = xs.length) → ∀ (p : Addr) (o : Obj), H p = none → o.dict = none → Q (.ref p) (upd H p (.frz o (.tup (cutV xs lo hi)))))
theorem sl_tupC : SlR X (rSlC X.K) := by
  intro pins s σ H x v vl vu lo hi sl Q I rx hs pl pu h
  obtain ⟨a, xs, rfl, ha, q1, q2⟩ := h
  by_cases hw : HT.sIx xs.length 0 lo = 0 ∧ HT.sIx xs.length xs.length hi = xs.length
  · exact sl_tupA pins s σ H (.ref a) v vl vu lo hi sl Q I rx hs pl pu ⟨a, xs, rfl, ha, q1, fun z => absurd hw z⟩
  · cases rx
    obtain ⟨us, r1, p1, hz⟩ := I.tuple ha
    have e : us.toArray.size = xs.length := by rw [r1.length]; simp
    have p2 := p1
    obtain ⟨o, ho, hc, _⟩ := p2
    refine ⟨"tuple", "tuple.__getitem__", slot_tuple_getitem.lookup, ⟨o, ho, hc⟩, HT.getItem_tuple_cut p1 hs pl pu (by rw [e]; exact hw) ?_ (by rw [e]; exact hz)⟩
    rw [e]
    have r3 : Vals (cutV xs lo hi) (List.take (HT.sIx xs.length xs.length hi - HT.sIx xs.length 0 lo) (List.drop (HT.sIx xs.length 0 lo) us)) := Vals.take _ (Vals.drop _ r1)
    exact ⟨.ref s.heap.objs.size, upd H s.heap.objs.size (.frz (nuT _) (.tup (cutV xs lo hi))), I.laid (fun b u e => Heap.get?_push_of_some _ e) (Nat.le_refl _) (okC (by
      unfold cutV
      rw [List.length_take, List.length_drop]
      omega) r3 (Heap.get?_push_size _ rfl)), rfl, q2 hw _ _ (I.hok.fresh (Nat.le_refl _)) rfl⟩
theorem call_tupleC : CallR X (.type "tuple") fun xs H Q => ∃ p ys, xs = [V.ref p] ∧ ((SqL X.K H p ys ∧ ∀ (l : Addr) (o : Obj), H l = none → o.dict = none → Q (.ref l) (upd H l (.frz o (.tup ys)))) ∨ (SqT X.K H p ys ∧ Q (.ref p) H)) := by
  intro pins s σ H xs us Q I r h
  obtain ⟨p, ys, rfl, h⟩ := h
  rcases h with ⟨hl, q⟩ | h
  · rw [Vals.ref1 r]
    obtain ⟨its, rv, pl, hz⟩ := I.list hl
    obtain ⟨o, n, h1, h2⟩ := pl
    refine call_tuple_list (items := its.toArray) ⟨o, h1, h2.1, n, h2.2.2⟩ (fun h' hk => ?_) (by simpa [← rv.length] using hz)
    have I2 := I.kept (t' := s.toks) hk
    exact ⟨.ref h'.objs.size, upd H h'.objs.size (.frz (nuT its) (.tup ys)), I2.laid (fun b u e => Heap.get?_push_of_some _ e) (Nat.le_refl _) (okC hz rv (Heap.get?_push_size _ rfl)), rfl, q _ _ (I2.hok.fresh (Nat.le_refl _)) rfl⟩
  · exact call_tuple_of pins s σ H _ us Q I r ⟨p, ys, rfl, .inr h⟩
/-- t * n, n from 2 on -/
def rRepC (K : PySem.W.Frag) : R2 := fun x y H Q => ∃ l k xs, x = .ref l ∧ y = .int k ∧ SqT K H l xs ∧ xs ≠ [] ∧ 2 ≤ k ∧ k ≤ 1000 ∧ xs.length ≤ 1000 ∧ ∀ (p : Addr) (o : Obj), H p = none → o.dict = none → Q (.ref p) (upd H p (.frz o (.tup (List.replicate k.toNat xs).flatten)))
theorem vals_rep {xs : List V} {us : List Value} (r : Vals xs us) : ∀ n : Nat, Vals (List.replicate n xs).flatten (List.replicate n us).flatten
  | 0 => .nil
  | n + 1 => by
    rw [List.replicate_succ, List.replicate_succ, List.flatten_cons, List.flatten_cons]
    exact Vals.append r (vals_rep r n)
theorem foldl_rep (us : List Value) : ∀ (n : Nat) (a : Array Value), (List.replicate n us.toArray).foldl (fun x1 x2 => x1 ++ x2) a = a ++ (List.replicate n us).flatten.toArray
  | 0, a => by simp
  | n + 1, a => by
    rw [List.replicate_succ, List.foldl_cons, foldl_rep us n, List.replicate_succ, List.flatten_cons]
    simp
theorem op_repC : OpR X (binaryOp .Mult) (rRepC X.K) := by
  intro pins s σ H x y v u Q I rx ry h
  obtain ⟨l, k, xs, rfl, rfl, hT, hne, k2, k3, hl, q⟩ := h
  cases rx
  obtain ⟨t, rfl⟩ := ry
  obtain ⟨its, r, ⟨⟨cls, dd, data, sl⟩, ho, hc, n, hd⟩, hs⟩ := I.tuple hT
  simp only at hc hd
  subst hc hd
  have hlen := r.length
  have hi : its.toArray.isEmpty = false := by
    cases r with
    | nil => exact absurd rfl hne
    | cons _ _ => rfl
  have hsz : its.toArray.size = xs.length := by rw [hlen]; simp
  have hm : (xs.length : Int) * k ≤ 1000 * 1000 := Int.mul_le_mul (by omega) k3 (by omega) (by omega)
  have hm0 : 0 ≤ (xs.length : Int) * k := Int.mul_nonneg (by omega) (by omega)
  have hf : ((List.replicate k.toNat xs).flatten).length ≤ sizeLine := by
    rw [List.length_flatten, List.map_replicate, List.sum_replicate_nat]
    have : k.toNat * xs.length ≤ 1000 * 1000 := Nat.mul_le_mul (by omega) hl
    exact Nat.le_trans this (by decide)
  have r3 := vals_rep r k.toNat
  have e3 : (List.foldl (fun x1 x2 => x1 ++ x2) #[] (List.replicate k.toNat its.toArray)) = ((List.replicate k.toNat its).flatten).toArray := by
    rw [foldl_rep]
    simp
  refine wpAny_binaryOp_repeat_ref (T := "tuple") (U := "int") (by decide) ⟨_, ho, rfl⟩ (fun s' => typeIs_int s' k t) noFill_tuple_mul F.fills_int_mul F.slot_int_rmul repeat_tuple F.slot_int_index.lookup
    (call_meets F.slot_int_rmul (typeIs_int s k t) F.entry_int_rmul (F.args_int_rmul_2 _ _) (int_rmul_tuple k t l its.toArray n dd sl)
      ⟨ho, rfl, ⟨_, ho, rfl⟩, call_meets F.slot_tuple_mul ⟨_, ho, rfl⟩ F.entry_tuple_mul (F.args_tuple_mul_2 _ _) (tuple_mulW l its.toArray n dd sl k t (by simp; omega) (by rw [hi]; simp; omega) (by rw [hi]; simp; omega) (by rw [hsz]; omega) ?_ ?_) ⟨ho, ?_⟩⟩)
  · unfold Builtin.Tuple.tupleTooMany
    rw [hsz]
    refine decide_eq_false ?_
    have : (sizeLine : Int) ≥ 1000 * 1000 := by decide
    omega
  · rw [e3]
    have := r3.length
    simp only [List.size_toArray]
    omega
  · rw [e3]
    exact ⟨.ref s.heap.objs.size, upd H s.heap.objs.size (.frz (nuT _) (.tup (List.replicate k.toNat xs).flatten)), I.laid (fun b u e => Heap.get?_push_of_some _ e) (Nat.le_refl _) (okC hf r3 (Heap.get?_push_size _ rfl)), rfl, q _ _ (I.hok.fresh (Nat.le_refl _)) rfl⟩
end
end L3
set_option Elab.async false
set_option linter.all false
set_option maxRecDepth 100000
namespace L3
open PySem PySem.Spec L2
theorem OpR.or {X : Cx} {f : Value → Value → Sem Value} {r q : R2} (h : OpR X f r) (k : OpR X f q) : OpR X f (fun x y H Q => r x y H Q ∨ q x y H Q) := by
  intro pn sh sg hp a b va vb W iv ra rb z
  exact z.elim (h pn sh sg hp a b va vb W iv ra rb) (k pn sh sg hp a b va vb W iv ra rb)
theorem CallR.or {X : Cx} {f : Value} {r q : List V → Hp → VK → Prop} (h : CallR X f r) (k : CallR X f q) : CallR X f (fun x H Q => r x H Q ∨ q x H Q) := by
  intro pn sh sg hp a va W iv ra z
  exact z.elim (h pn sh sg hp a va W iv ra) (k pn sh sg hp a va W iv ra)
/-- what a value is now, as a tree -/
def now (t : T) (M : Mem) : Option PyData := match t with
  | .d x => some x
  | .lr i => match M.L[i]? with
    | some (some ds) => some (.list ds)
    | _ => none
  | .mr i => match M.D[i]? with
    | some (.lst ts) => (datas ts).map .list
    | _ => none
  | .scr ns => some (.list (ns.map .int))
  | .wt _ => none
  | .exo .. => none
  | .q _ => none
section
variable {K : PySem.W.Frag} {B : Bk} {M : Mem} {H : Hp}
theorem Wd.dpNow (w : Wd K B M H) {v : V} {t : T} {x : PyData} (r : Rt K B v t) (e : now t M = some x) : Dp K H v x := by
  cases t with
  | d y => cases e; exact Rp.dp (w.rp r)
  | lr i =>
    obtain ⟨a, rfl, ha⟩ := r
    unfold now at e
    cases h : M.L[i]? with
    | none => simp [h] at e
    | some o =>
      cases o with
      | none => simp [h] at e
      | some ds =>
        simp only [h] at e
        cases e
        obtain ⟨_, xs, h1, h2⟩ := w.lc i a ds ha h
        exact .lst (.inl (.inl h1)) (RpA.dp (w.rpa h2))
  | mr i =>
    obtain ⟨a, rfl, ha⟩ := r
    unfold now at e
    cases h : M.D[i]? with
    | none => simp [h] at e
    | some o =>
      cases o with
      | dct _ => simp [h] at e
      | dnk _ => simp [h] at e
      | held _ => simp [h] at e
      | exc _ _ => simp [h] at e
      | ins _ _ => simp [h] at e
      | tup _ => simp [h] at e
      | dnd _ => simp [h] at e
      | lst ts =>
        simp only [h] at e
        cases q : datas ts with
        | none => rw [q] at e; cases e
        | some ds =>
          rw [q] at e
          cases e
          obtain ⟨_, xs, h1, h2⟩ := w.dc i a _ ha h
          exact .lst (.inl (.inl h1)) (RpA.dp (w.rpa (datas_rpa (B := { B with l := [] }) h2 q)))
  | scr ns =>
    obtain ⟨a, rfl, ha⟩ := r
    cases e
    refine .lst (SqL.mono w.le ha) ?_
    exact RpA.dp (G := H) (RpA.of_ints ns)
  | wt xs => cases e
  | exo a c d e' => cases e
  | q x => cases e
end
def oI (C : Int → Int → Prop) (g : Int → Int → PyData) : F2 := fun x y M Q => match x, y with
  | .d (.int i), .d (.int j) => C i j ∧ Q (.d (g i j)) M
  | _, _ => False
theorem opl_I {K : PySem.W.Frag} {C : Int → Int → Prop} {gV : Int → Int → V} {g : Int → Int → PyData} (hg : ∀ i j G, Rp K G (gV i j) (g i j)) : OpL K (rI C gV) (oI C g) := by
  intro x y t u M B H Q Q' h w rx ry k
  unfold oI at h
  split at h
  · cases rx
    cases ry
    obtain ⟨c, q⟩ := h
    exact ⟨_, _, rfl, rfl, c, k _ _ M B H q w (.refl _ _) (hg _ _ _)⟩
  · exact h.elim
theorem opl_I0 {K : PySem.W.Frag} {gV : Int → Int → V} {g : Int → Int → PyData} (hg : ∀ i j G, Rp K G (gV i j) (g i j)) : OpL K (rI0 gV) (oI (fun _ _ => True) g) := by
  intro x y t u M B H Q Q' h w rx ry k
  obtain ⟨i, j, e1, e2, _, q⟩ := opl_I (C := fun _ _ => True) hg x y t u M B H Q Q' h w rx ry k
  exact ⟨i, j, e1, e2, q⟩
def oAdd : F2 := fun x y M Q => match x, y with
  | .d (.int i), .d (.int j) => Q (.int (i + j)) M
  | .d (.str a), .d (.str b) => a.length + b.length ≤ sizeLine ∧ Q (.str (a ++ b)) M
  | .d (.list a), .d (.list b) => a.length + b.length ≤ sizeLine ∧ Q (.lst (a ++ b)) M
  | .d (.tuple a), .d (.tuple b) => a.length + b.length ≤ sizeLine ∧ Q (.tup (a ++ b)) M
  | _, _ => False
def rAdd (K : PySem.W.Frag) : R2 := fun x y H Q => rI0 (fun i j => .int (i + j)) x y H Q ∨ ((∃ i j, x = .str i ∧ y = .str j ∧ i.length + j.length ≤ sizeLine ∧ Q (.str (i ++ j)) H) ∨ (rCat x y H Q ∨ rCatC K x y H Q))
theorem opr_add {X : Cx} : OpR X (binaryOp .Add) (rAdd X.K) := op_add.or (op_add_str.or (op_cat.or op_catC))
theorem opl_add {K : PySem.W.Frag} : OpL K (rAdd K) oAdd := by
  intro x y t u M B H Q Q' h w rx ry k
  unfold oAdd at h
  split at h
  · cases rx
    cases ry
    exact .inl ⟨_, _, rfl, rfl, k _ _ M B H h w (.refl _ _) (.int _)⟩
  · cases rx
    cases ry
    exact .inr (.inl ⟨_, _, rfl, rfl, h.1, k _ _ M B H h.2 w (.refl _ _) (.str _)⟩)
  · cases rx with
    | lst e1 q1 =>
      cases ry with
      | lst e2 q2 =>
        refine .inr (.inr (.inl ⟨_, _, _, _, rfl, rfl, w.le _ _ e1, w.le _ _ e2, ?_, fun p hp => ?_⟩))
        · rw [RpA.length q1, RpA.length q2]
          exact h.1
        · obtain ⟨w', x'⟩ := w.alloc hp (.lst (_ ++ _))
          exact k _ _ M _ _ h.2 w' x' (.lst upd_same (RpA.mono x'.g (RpA.append q1 q2)))
  · cases rx with
    | tup e1 q1 =>
      cases ry with
      | tup e2 q2 =>
        obtain ⟨hl, q⟩ := h
        refine .inr (.inr (.inr ⟨_, _, _, _, rfl, rfl, SqT.mono w.le e1, SqT.mono w.le e2, ?_, fun z => ?_, fun _ z => ?_, fun _ z p o hp ho => ?_⟩))
        · rw [RpA.length q1, RpA.length q2]
          exact hl
        · subst z
          cases q1
          exact k _ _ M B H q w (.refl _ _) (.tup e2 q2)
        · subst z
          cases q2
          rw [List.append_nil] at q
          exact k _ _ M B H q w (.refl _ _) (.tup e1 q1)
        · obtain ⟨w', x'⟩ := w.alloc hp (.frz o (.tup (_ ++ _)))
          exact k _ _ M _ _ q w' x' (.tup (.inl ⟨o, upd_same, ho⟩) (RpA.mono x'.g (RpA.append q1 q2)))
  · exact h.elim
def oMul : F2 := fun x y M Q => match x, y with
  | .d (.int i), .d (.int j) => CMul i j ∧ Q (.int (i * j)) M
  | .d (.list a), .d (.int j) => (-(2 ^ 63) ≤ j ∧ j < 2 ^ 63 ∧ a.length * j.toNat ≤ sizeLine) ∧ Q (.lst (List.replicate j.toNat a).flatten) M
  | _, _ => False
def rMul : R2 := fun x y H Q => rI CMul (fun i j => .int (i * j)) x y H Q ∨ rRep x y H Q
theorem opr_mul {X : Cx} : OpR X (binaryOp .Mult) rMul := op_mul.or op_rep
theorem opl_mul {K : PySem.W.Frag} : OpL K rMul oMul := by
  intro x y t u M B H Q Q' h w rx ry k
  unfold oMul at h
  split at h
  · cases rx
    cases ry
    exact .inl ⟨_, _, rfl, rfl, h.1, k _ _ M B H h.2 w (.refl _ _) (.int _)⟩
  · cases rx with
    | lst e1 q1 =>
      cases ry
      obtain ⟨⟨h1, h2, h3⟩, q⟩ := h
      refine .inr ⟨_, _, _, rfl, rfl, w.le _ _ e1, h1, h2, ?_, fun p hp => ?_⟩
      · rw [RpA.length q1]
        exact h3
      · obtain ⟨w', x'⟩ := w.alloc hp (.lst _)
        exact k _ _ M _ _ q w' x' (.lst upd_same (RpA.mono x'.g (RpA.rep q1 _)))
  · exact h.elim
/-- ==, != -/
def oEq (n : Bool) : F2 := fun x y M Q => match x, y with
  | .d (.str a), .d (.str b) => Q (.bl (if n then !decide (a = b) else decide (a = b))) M
  | _, _ => match now x M, now y M with
    | some a, some b => (SeqAt.shaped a = true ∧ SeqAt.shaped b = true) ∧ Q (.bl (if n then !PyData.eqv a b else PyData.eqv a b)) M
    | _, _ => False
def rEqs (K : PySem.W.Frag) : R2 := fun x y H Q => rEq x y H Q ∨ rEqD K x y H Q
def rNes (K : PySem.W.Frag) : R2 := fun x y H Q => rNe x y H Q ∨ rNeD K x y H Q
theorem dec_str {a b : Str} : decide (V.str a = V.str b) = decide (a = b) := by
  by_cases h : a = b
  · rw [h, decide_eq_true rfl, decide_eq_true rfl]
  · rw [decide_eq_false h, decide_eq_false fun z => h (V.str.inj z)]
theorem opl_eq {K : PySem.W.Frag} : OpL K (rEqs K) (oEq false) := by
  intro x y t u M B H Q Q' h w rx ry k
  unfold oEq at h
  split at h
  · cases rx
    cases ry
    exact .inl ⟨rfl, by rw [dec_str]; exact k _ _ M B H h w (.refl _ _) (.bl _)⟩
  · split at h
    · rename_i a b e1 e2
      exact .inr ⟨a, b, w.dpNow rx e1, w.dpNow ry e2, h.1.1, h.1.2, k _ _ M B H h.2 w (.refl _ _) (.bl _)⟩
    · exact h.elim
theorem opl_ne {K : PySem.W.Frag} : OpL K (rNes K) (oEq true) := by
  intro x y t u M B H Q Q' h w rx ry k
  unfold oEq at h
  split at h
  · cases rx
    cases ry
    exact .inl ⟨rfl, by rw [dec_str]; exact k _ _ M B H h w (.refl _ _) (.bl _)⟩
  · split at h
    · rename_i a b e1 e2
      exact .inr ⟨a, b, w.dpNow rx e1, w.dpNow ry e2, h.1.1, h.1.2, k _ _ M B H h.2 w (.refl _ _) (.bl _)⟩
    · exact h.elim
theorem opr_eq {X : Cx} (hu : X.A.units + 64 < cLine) : OpR X (compareOp .Eq) (rEqs X.K) := op_eq.or (op_eqD hu)
theorem opr_ne {X : Cx} (hu : X.A.units + 64 < cLine) : OpR X (compareOp .NotEq) (rNes X.K) := op_ne.or (op_neD hu)
abbrev F1 := T → Mem → Kt → Prop
def mUn (f : F1) (m : Me) : Me := fun τ M Q => m τ M fun x M1 => f x M1 Q
def oNeg : F1 := fun x M Q => match x with
  | .d (.int i) => Q (.int (-i)) M
  | _ => False
section
variable {X : Cx} {a b c e : Expr} {es : List Expr} {ma mb mc m : Me} {pos : Pos}
theorem me_neg (ha : ME X a ma) : ME X (.UnaryOp .USub a pos) (mUn oNeg ma) := PE.of (pe_un un_neg ha) fun σ H Q' ⟨τ, M, B, Q, h, w, s, k⟩ => by
  refine ⟨τ, M, B, _, h, w, s, fun v t M1 B1 H1 h1 w1 e1 r1 => ?_⟩
  unfold oNeg at h1
  split at h1
  · cases r1
    exact ⟨_, rfl, k _ _ M1 B1 H1 h1 w1 e1 (.int _)⟩
  · exact h1.elim
theorem mb_val (h : ME X e m) (he : ∀ whole, isTrue e X.env whole = (do let v ← whole; standAt e.pos; holding [v] (truthy v)) := by intro _; rfl) : MB X e (mTest m) := PT.of (pt_val h he) fun σ H Q' ⟨τ, M, B, Q, h, w, s, k⟩ => by
  refine ⟨τ, M, B, _, h, w, s, fun v t M1 B1 H1 h1 w1 e1 r1 => ?_⟩
  obtain ⟨b, rfl, q⟩ := h1
  cases r1
  exact ⟨b, rfl, k b M1 B1 H1 q w1 e1⟩
abbrev MW (X : Cx) (e : Expr) (m : Mb) : Prop := PW X e (rB X.K m)
def bAnd (t u : Mb) : Mb := fun τ M Q => t τ M fun b M1 => if b = true then u τ M1 Q else Q false M1
def bOr (t u : Mb) : Mb := fun τ M Q => t τ M fun b M1 => if b = true then Q true M1 else u τ M1 Q
def bNot (t : Mb) : Mb := fun τ M Q => t τ M fun b M1 => Q (!b) M1
variable {ta tb tc : Mb}
theorem MW.toB (h : MW X e ta) : MB X e ta := PW.pt h
theorem mw_and1 (h : MB X a ta) : MW X (.BoolOp .And [a] pos) ta := pw_and1 h
theorem mw_or1 (h : MB X a ta) : MW X (.BoolOp .Or [a] pos) ta := pw_or1 h
theorem mw_and {rest : List Expr} (h : MB X a ta) (g : MW X (.BoolOp .And (b :: rest) pos) tb) : MW X (.BoolOp .And (a :: b :: rest) pos) (bAnd ta tb) := PW.of (pw_and h g) fun σ H Q' ⟨τ, M, B, Q, h, w, s, k⟩ => by
  refine ⟨τ, M, B, _, h, w, s, fun v M1 B1 H1 h1 w1 e1 => ?_⟩
  cases v with
  | true => exact ⟨τ, M1, B1, Q, h1, w1, s.mono e1, fun v M2 B2 H2 h2 w2 e2 => k v M2 B2 H2 h2 w2 (e1.trans e2)⟩
  | false => exact k _ M1 B1 H1 h1 w1 e1
theorem mw_or {rest : List Expr} (h : MB X a ta) (g : MW X (.BoolOp .Or (b :: rest) pos) tb) : MW X (.BoolOp .Or (a :: b :: rest) pos) (bOr ta tb) := PW.of (pw_or h g) fun σ H Q' ⟨τ, M, B, Q, h, w, s, k⟩ => by
  refine ⟨τ, M, B, _, h, w, s, fun v M1 B1 H1 h1 w1 e1 => ?_⟩
  cases v with
  | false => exact ⟨τ, M1, B1, Q, h1, w1, s.mono e1, fun v M2 B2 H2 h2 w2 e2 => k v M2 B2 H2 h2 w2 (e1.trans e2)⟩
  | true => exact k _ M1 B1 H1 h1 w1 e1
theorem mb_not (h : MB X a ta) : MB X (.UnaryOp .Not a pos) (bNot ta) := PT.of (pt_not h) fun σ H Q' ⟨τ, M, B, Q, h, w, s, k⟩ => by
  exact ⟨τ, M, B, _, h, w, s, fun v M1 B1 H1 h1 w1 e1 => k _ M1 B1 H1 h1 w1 e1⟩
/-- and, or, not as values (of bools) -/
def mAnd (x y : Me) : Me := fun τ M Q => x τ M fun t M1 => match t with
  | .d (.bool true) => y τ M1 Q
  | .d (.bool false) => Q (.bl false) M1
  | _ => False
def mOr (x y : Me) : Me := fun τ M Q => x τ M fun t M1 => match t with
  | .d (.bool true) => Q (.bl true) M1
  | .d (.bool false) => y τ M1 Q
  | _ => False
def mNot (x : Me) : Me := fun τ M Q => x τ M fun t M1 => match t with
  | .d (.bool b) => Q (.bl (!b)) M1
  | _ => False
theorem me_one {op : PySem.BoolOp} (h : ME X a ma) : ME X (.BoolOp op [a] pos) ma := pe_one h
theorem me_and {rest : List Expr} (h : ME X a ma) (g : ME X (.BoolOp .And (b :: rest) pos) mb) : ME X (.BoolOp .And (a :: b :: rest) pos) (mAnd ma mb) := PE.of (pe_and h g) fun σ H Q' ⟨τ, M, B, Q, h, w, s, k⟩ => by
  refine ⟨τ, M, B, _, h, w, s, fun v t M1 B1 H1 h1 w1 e1 r1 => ?_⟩
  split at h1
  · cases r1
    exact ⟨true, rfl, ⟨τ, M1, B1, Q, h1, w1, s.mono e1, fun v t M2 B2 H2 h2 w2 e2 => k v t M2 B2 H2 h2 w2 (e1.trans e2)⟩⟩
  · cases r1
    exact ⟨false, rfl, k _ _ M1 B1 H1 h1 w1 e1 (.bl _)⟩
  · exact h1.elim
theorem me_not (h : ME X a ma) : ME X (.UnaryOp .Not a pos) (mNot ma) := PE.of (pe_not h) fun σ H Q' ⟨τ, M, B, Q, h, w, s, k⟩ => by
  refine ⟨τ, M, B, _, h, w, s, fun v t M1 B1 H1 h1 w1 e1 r1 => ?_⟩
  split at h1
  · cases r1
    exact ⟨_, rfl, k _ _ M1 B1 H1 h1 w1 e1 (.bl _)⟩
  · exact h1.elim
def mIte (c : Mb) (x y : Me) : Me := fun τ M Q => c τ M fun b M1 => if b = true then x τ M1 Q else y τ M1 Q
theorem me_ite (hc : MB X c ta) (ha : ME X a ma) (hb : ME X b mb) : ME X (.IfExp c a b pos) (mIte ta ma mb) := PE.of (pe_ifExp hc ha hb) fun σ H Q' ⟨τ, M, B, Q, h, w, s, k⟩ => by
  refine ⟨τ, M, B, _, h, w, s, fun v M1 B1 H1 h1 w1 e1 => ?_⟩
  cases v with
  | true => exact ⟨τ, M1, B1, Q, h1, w1, s.mono e1, fun v t M2 B2 H2 h2 w2 e2 => k v t M2 B2 H2 h2 w2 (e1.trans e2)⟩
  | false => exact ⟨τ, M1, B1, Q, h1, w1, s.mono e1, fun v t M2 B2 H2 h2 w2 e2 => k v t M2 B2 H2 h2 w2 (e1.trans e2)⟩
/-- a op b op' c -/
def mChain (f g : F2) (x y z : Me) : Me := fun τ M Q => x τ M fun a M1 => y τ M1 fun b M2 => f a b M2 fun t M3 => match t with
  | .d (.bool true) => z τ M3 fun c M4 => g b c M4 Q
  | .d (.bool false) => Q (.bl false) M3
  | _ => False
theorem chain_of {K : PySem.W.Frag} {r q : R2} {f g : F2} (h1 : OpL K r f) (h2 : OpL K q g) {σ : L2.St} {H : Hp} {Q' : VK} (h : rE K (mChain f g ma mb mc) σ H Q') : tChain r q (rE K ma) (rE K mb) (rE K mc) σ H Q' := by
  obtain ⟨τ, M, B, Q, h, w, s, k⟩ := h
  refine ⟨τ, M, B, _, h, w, s, fun x t M1 B1 H1 z1 w1 e1 r1 => ⟨τ, M1, B1, _, z1, w1, s.mono e1, fun y u M2 B2 H2 z2 w2 e2 r2 => ?_⟩⟩
  refine h1 x y t u M2 B2 H2 _ _ z2 w2 (Rt.mono e2 r1) r2 fun v t' M3 B3 H3 z3 w3 e3 r3 => ?_
  split at z3
  · cases r3
    refine ⟨true, rfl, ?_⟩
    refine ⟨τ, M3, B3, _, z3, w3, ((s.mono e1).mono e2).mono e3, fun y' u' M4 B4 H4 z4 w4 e4 r4 => ?_⟩
    exact h2 y y' u u' M4 B4 H4 Q Q' z4 w4 (Rt.mono e4 (Rt.mono e3 r2)) r4 fun v t M5 B5 H5 z5 w5 e5 => k v t M5 B5 H5 z5 w5 (((e1.trans e2).trans e3).trans (e4.trans e5))
  · cases r3
    exact ⟨false, rfl, k _ _ M3 B3 H3 z3 w3 ((e1.trans e2).trans e3) (.bl _)⟩
  · exact z3.elim
theorem me_chain {op op' : CmpOp} {r q : R2} {f g : F2} (ho : OpR X (compareOp op) r) (hl : OpL X.K r f) (ho' : OpR X (compareOp op') q) (hl' : OpL X.K q g) (ha : ME X a ma) (hb : ME X b mb) (hc : ME X c mc)
    (hm : lastMarks [op, op'] [b, c] = false := by with_unfolding_all rfl) : ME X (.Compare a [op, op'] [b, c] pos) (mChain f g ma mb mc) := PE.of (pe_chain ho ho' ha hb hc hm) fun _ _ _ h => chain_of hl hl' h
def aNil : Ma := fun _ M Q => Q [] M
def aCons (m : Me) (r : Ma) : Ma := fun τ M Q => m τ M fun x M1 => r τ M1 fun xs M2 => Q (x :: xs) M2
variable {mr : Ma}
theorem ma_nil : MA X [] aNil := PA.of pa_nil fun σ H Q' ⟨τ, M, B, Q, h, w, s, k⟩ => k _ _ M B H h w (.refl _ _) .nil
theorem ma_cons (ha : ME X e m) (hr : MA X es mr) (hs : starEach (e :: es) X.env = (false, eval e X.env) :: starEach es X.env := by rfl) : MA X (e :: es) (aCons m mr) := PA.of (pa_cons ha hr hs) fun σ H Q' ⟨τ, M, B, Q, h, w, s, k⟩ => by
  refine ⟨τ, M, B, _, h, w, s, fun v t M1 B1 H1 h1 w1 e1 r1 => ⟨τ, M1, B1, _, h1, w1, s.mono e1, fun v2 t2 M2 B2 H2 h2 w2 e2 r2 => ?_⟩⟩
  exact k _ _ M2 B2 H2 h2 w2 (e1.trans e2) (.cons (Rt.mono e2 r1) r2)
def mTup (r : Ma) : Me := fun τ M Q => r τ M fun ts M1 => match datas ts with
  | some ds => ds.length ≤ sizeLine ∧ Q (.tup ds) M1
  | none => False
def mLst (r : Ma) : Me := fun τ M Q => r τ M fun ts M1 => match datas ts with
  | some ds => ds.length ≤ sizeLine ∧ Q (.lst ds) M1
  | none => False
/-- a list display that the frame changes itself -/
def mNewL (r : Ma) : Me := fun τ M Q => r τ M fun ts M1 => match datas ts with
  | some ds => ds.length ≤ sizeLine ∧ Q (.lr M1.L.length) { M1 with L := M1.L ++ [some ds] }
  | none => False
theorem me_tup {x1 : Nat} (h : MA X es mr) : ME X (.Tuple es x1 pos) (mTup mr) := PE.of (pe_tupC h) fun σ H Q' ⟨τ, M, B, Q, h, w, s, k⟩ => by
  refine ⟨τ, M, B, _, h, w, s, fun v t M1 B1 H1 h1 w1 e1 r1 => ?_⟩
  split at h1
  · rename_i ds hd
    have q := datas_rpa r1 hd
    refine ⟨by rw [RpA.length q]; exact h1.1, fun p o hp ho => ?_⟩
    obtain ⟨w2, e2⟩ := w1.alloc hp (.frz o (.tup v))
    exact k _ _ M1 _ _ h1.2 w2 (e1.trans e2) (.tup (.inl ⟨o, upd_same, ho⟩) (RpA.mono e2.g q))
  · exact h1.elim
theorem me_lst (h : MA X es mr) : ME X (.List es pos) (mLst mr) := PE.of (pe_lst h) fun σ H Q' ⟨τ, M, B, Q, h, w, s, k⟩ => by
  refine ⟨τ, M, B, _, h, w, s, fun v t M1 B1 H1 h1 w1 e1 r1 => ?_⟩
  split at h1
  · rename_i ds hd
    have q := datas_rpa r1 hd
    refine ⟨by rw [RpA.length q]; exact h1.1, fun p hp => ?_⟩
    obtain ⟨w2, e2⟩ := w1.alloc hp (.lst v)
    exact k _ _ M1 _ _ h1.2 w2 (e1.trans e2) (.lst upd_same (RpA.mono e2.g q))
  · exact h1.elim
theorem get_snoc {α : Type} {l : List α} {a : α} : (l ++ [a])[l.length]? = some a := by
  rw [List.getElem?_append_right (Nat.le_refl _), Nat.sub_self]
  rfl
theorem me_newL (h : MA X es mr) : ME X (.List es pos) (mNewL mr) := PE.of (pe_lst h) fun σ H Q' ⟨τ, M, B, Q, h, w, s, k⟩ => by
  refine ⟨τ, M, B, _, h, w, s, fun v t M1 B1 H1 h1 w1 e1 r1 => ?_⟩
  split at h1
  · rename_i ds hd
    have q := datas_rpa r1 hd
    refine ⟨by rw [RpA.length q]; exact h1.1, fun p hp => ?_⟩
    obtain ⟨w2, e2⟩ := w1.newL hp q
    exact k _ _ _ _ _ h1.2 w2 (e1.trans e2) ⟨p, rfl, by rw [← w1.llen]; exact get_snoc⟩
  · exact h1.elim
/-- a list that is the frame's own, from a list that never changes again (list(..), [.. for ..]): no -/
def mFrz (m : Me) : Me := fun τ M Q => m τ M fun t M1 => match t with
  | .lr i => (match M1.L[i]? with
    | some (some ds) => Q (.lst ds) { M1 with L := M1.L.set i none }
    | _ => False)
  | t => Q t M1
theorem me_frz (h : ME X e m) : ME X e (mFrz m) := PE.of h fun σ H Q' ⟨τ, M, B, Q, h, w, s, k⟩ => by
  refine ⟨τ, M, B, _, h, w, s, fun v t M1 B1 H1 h1 w1 e1 r1 => ?_⟩
  split at h1
  · split at h1
    · rename_i hL
      obtain ⟨a, rfl, ha⟩ := r1
      obtain ⟨B2, w2, e2, r2⟩ := w1.freeze ha hL
      exact k _ _ _ _ _ h1 w2 (e1.trans e2) r2
    · exact h1.elim
  · exact k _ _ M1 B1 H1 h1 w1 e1 r1
end
end L3
set_option Elab.async false
set_option linter.all false
set_option maxRecDepth 100000
namespace L3
open PySem PySem.Spec L2
theorem atI_of {α β : Type} {xs : List α} {ys : List β} {i : Int} {y : β} (hl : xs.length = ys.length) (e : atI ys i = some y) : ∃ j, ixN xs.length i = some j ∧ ixN ys.length i = some j ∧ ys[j]? = some y := by
  unfold atI at e
  cases h : ixN ys.length i with
  | none => rw [h] at e; cases e
  | some j =>
    rw [h] at e
    exact ⟨j, by rw [hl]; exact h, rfl, e⟩
theorem RpA.atI {K : PySem.W.Frag} {G : Hp} {xs : List V} {ds : List PyData} {i : Int} {d : PyData} (r : RpA K G xs ds) (e : L2.atI ds i = some d) : ∃ u, L2.atI xs i = some u ∧ Rp K G u d := by
  obtain ⟨j, h1, _, h3⟩ := atI_of (RpA.length r) e
  obtain ⟨u, h4, h5⟩ := RpA.get r h3
  exact ⟨u, by unfold L2.atI; rw [h1]; exact h4, h5⟩
theorem paired_len {α β : Type} {F : α → β → Prop} {l : List α} {m : List β} (h : Paired F l m) : l.length = m.length := by
  induction h with
  | nil => rfl
  | cons _ _ ih => rw [List.length_cons, List.length_cons, ih]
theorem paired_get {α β : Type} {F : α → β → Prop} {l : List α} {m : List β} (h : Paired F l m) : ∀ {i : Nat} {y : β}, m[i]? = some y → ∃ x, l[i]? = some x ∧ F x y := by
  induction h with
  | nil => intro i y e; simp at e
  | cons p _ ih =>
    intro i y e
    cases i with
    | zero => simp at e; subst e; exact ⟨_, rfl, p⟩
    | succ i => exact ih e
theorem paired_atI {α β : Type} {F : α → β → Prop} {l : List α} {m : List β} {i : Int} {y : β} (h : Paired F l m) (e : L2.atI m i = some y) : ∃ u, L2.atI l i = some u ∧ F u y := by
  obtain ⟨j, h1, _, h3⟩ := atI_of (paired_len h) e
  obtain ⟨u, h4, h5⟩ := paired_get h h3
  exact ⟨u, by unfold L2.atI; rw [h1]; exact h4, h5⟩
def oIx : F2 := fun x y M Q => match x, y with
  | .d (.list xs), .d (.int j) => ∃ t, atI xs j = some t ∧ Q (.d t) M
  | .d (.tuple xs), .d (.int j) => ∃ t, atI xs j = some t ∧ Q (.d t) M
  | .lr i, .d (.int j) => (match M.L[i]? with
    | some (some xs) => ∃ t, atI xs j = some t ∧ Q (.d t) M
    | _ => False)
  | .mr i, .d (.int j) => (match M.D[i]? with
    | some (.lst ts) => ∃ t, atI ts j = some t ∧ Q t M
    | _ => False)
  | _, _ => False
def rIx2 (K : PySem.W.Frag) : R2 := fun x y H Q => rIxL K x y H Q ∨ rIxT K x y H Q
theorem ixr {X : Cx} : IxR X (rIx2 X.K) := ix_list.or ix_tup
theorem opl_ix {K : PySem.W.Frag} : OpL K (rIx2 K) oIx := by
  intro x y t u M B H Q Q' h w rx ry k
  unfold oIx at h
  split at h
  · cases ry
    cases rx with
    | lst e q =>
      obtain ⟨d, h1, h2⟩ := h
      obtain ⟨v, h3, h4⟩ := RpA.atI q h1
      exact .inl ⟨_, _, _, v, rfl, rfl, .of (w.le _ _ e), h3, k _ _ M B H h2 w (.refl _ _) h4⟩
  · cases ry
    cases rx with
    | tup e q =>
      obtain ⟨d, h1, h2⟩ := h
      obtain ⟨v, h3, h4⟩ := RpA.atI q h1
      exact .inr ⟨_, _, _, v, rfl, rfl, SqT.mono w.le e, h3, k _ _ M B H h2 w (.refl _ _) h4⟩
  · split at h
    · rename_i hL
      cases ry
      obtain ⟨a, rfl, ha⟩ := rx
      obtain ⟨_, vs, e, q⟩ := w.lc _ _ _ ha hL
      obtain ⟨d, h1, h2⟩ := h
      obtain ⟨v, h3, h4⟩ := RpA.atI q h1
      exact .inl ⟨_, _, _, v, rfl, rfl, .of e, h3, k _ _ M B H h2 w (.refl _ _) h4⟩
    · exact h.elim
  · split at h
    · rename_i hD
      cases ry
      obtain ⟨a, rfl, ha⟩ := rx
      obtain ⟨_, vs, e, q⟩ := w.dc _ _ _ ha hD
      obtain ⟨d, h1, h2⟩ := h
      obtain ⟨v, h3, h4⟩ := paired_atI q h1
      refine .inl ⟨_, _, _, v, rfl, rfl, .of e, h3, k _ _ M B H h2 w (.refl _ _) ?_⟩
      exact Rt.mono' (B := { B with l := [] }) (B' := B) (fun _ _ e => e) (List.prefix_refl _) (List.nil_prefix) h4
    · exact h.elim
  · exact h.elim
section
variable {X : Cx} {a b c e : Expr} {es : List Expr} {ma mb mc m : Me} {pos : Pos} {mr : Ma}
theorem me_ix (ha : ME X a ma) (hb : ME X b mb) (hs : PlainIx b) : ME X (.Subscript a b pos) (mOp oIx ma mb) := PE.of (pe_ix ixr ha hb hs) fun _ _ _ h => two opl_ix h
def cutT {α : Type} (xs : List α) (lo hi : Option Int) : List α := (xs.drop (HT.sIx xs.length 0 lo)).take (HT.sIx xs.length xs.length hi - HT.sIx xs.length 0 lo)
theorem RpA.cut {K : PySem.W.Frag} {G : Hp} {xs : List V} {ds : List PyData} {lo hi : Option Int} (r : RpA K G xs ds) : RpA K G (cutV xs lo hi) (cutT ds lo hi) := by
  unfold cutV cutT
  rw [RpA.length r]
  exact RpA.take _ (RpA.drop _ r)
theorem cut_map {α β : Type} (f : α → β) (xs : List α) (lo hi : Option Int) : cutT (xs.map f) lo hi = (cutT xs lo hi).map f := by
  unfold cutT
  rw [List.length_map, List.map_take, List.map_drop]
theorem cutT_all {α : Type} {xs : List α} {lo hi : Option Int} (h : HT.sIx xs.length 0 lo = 0 ∧ HT.sIx xs.length xs.length hi = xs.length) : cutT xs lo hi = xs := by
  unfold cutT
  rw [h.1, h.2, List.drop_zero, Nat.sub_zero, List.take_length]
abbrev Mo := En → Mem → (Option Int → Mem → Prop) → Prop
def rO (K : PySem.W.Frag) (m : Mo) : TO := fun σ H Q' => ∃ τ M B Q, m τ M Q ∧ Wd K B M H ∧ Sl K B σ τ ∧ ∀ b M' B' H', Q b M' → Wd K B' M' H' → Ext B H B' H' → Q' b H'
theorem PO.of {e : Option Expr} {t t' : TO} (h : PO X e t) (w : ∀ σ H Q, t' σ H Q → t σ H Q) : PO X e t' := ⟨fun _ _ _ _ _ iv q => h.run _ _ _ _ _ iv (w _ _ _ q)⟩
def oNone : Mo := fun _ M Q => Q none M
def oPart (m : Me) : Mo := fun τ M Q => m τ M fun t M1 => match t with
  | .d (.int i) => Q (some i) M1
  | _ => False
theorem mo_none : PO X none (rO X.K oNone) := PO.of po_none fun σ H Q' ⟨τ, M, B, Q, h, w, s, k⟩ => k _ M B H h w (.refl _ _)
theorem mo_some (h : ME X e m) : PO X (some e) (rO X.K (oPart m)) := PO.of (po_some h) fun σ H Q' ⟨τ, M, B, Q, h, w, s, k⟩ => by
  refine ⟨τ, M, B, _, h, w, s, fun v t M1 B1 H1 h1 w1 e1 r1 => ?_⟩
  split at h1
  · cases r1
    exact ⟨_, rfl, k _ M1 B1 H1 h1 w1 e1⟩
  · exact h1.elim
def oSl (x : T) (lo hi : Option Int) (M : Mem) (Q : Kt) : Prop := match x with
  | .d (.list xs) => Q (.lst (cutT xs lo hi)) M
  | .d (.tuple xs) => Q (.tup (cutT xs lo hi)) M
  | .scr ns => Q (.lst ((cutT ns lo hi).map .int)) M
  | .lr i => (match M.L[i]? with
    | some (some xs) => Q (.lst (cutT xs lo hi)) M
    | _ => False)
  | _ => False
def mSl (m : Me) (lo hi : Mo) : Me := fun τ M Q => m τ M fun x M1 => lo τ M1 fun l M2 => hi τ M2 fun u M3 => oSl x l u M3 Q
theorem me_slice {lo hi : Option Expr} {ml mh : Mo} {p2 : Pos} (he : ME X e m) (hl : PO X lo (rO X.K ml)) (hu : PO X hi (rO X.K mh)) : ME X (.Subscript e (.Slice lo hi none p2) pos) (mSl m ml mh) := by
  refine PE.of (pe_slice (sl_list.or sl_tupC) he hl hu) fun σ H Q' ⟨τ, M, B, Q, h, w, s, k⟩ => ?_
  refine ⟨τ, M, B, _, h, w, s, fun v t M1 B1 H1 h1 w1 e1 r1 => ⟨τ, M1, B1, _, h1, w1, s.mono e1, fun l M2 B2 H2 h2 w2 e2 => ⟨τ, M2, B2, _, h2, w2, (s.mono e1).mono e2, fun u M3 B3 H3 h3 w3 e3 => ?_⟩⟩⟩
  have e123 := e1.trans (e2.trans e3)
  have r3 := Rt.mono e3 (Rt.mono e2 r1)
  unfold oSl at h3
  split at h3
  · cases r3 with
    | lst e q =>
      refine .inl ⟨_, _, rfl, .of (w3.le _ _ e), fun p hp => ?_⟩
      obtain ⟨w4, e4⟩ := w3.alloc hp (.lst _)
      exact k _ _ M3 _ _ h3 w4 (e123.trans e4) (.lst upd_same (RpA.mono e4.g (RpA.cut q)))
  · cases r3 with
    | tup e q =>
      refine .inr ⟨_, _, rfl, SqT.mono w3.le e, fun z => ?_, fun _ p o hp ho => ?_⟩
      · have z' := z
        rw [RpA.length q] at z'
        rw [cutT_all z'] at h3
        exact k _ _ M3 B3 H3 h3 w3 e123 (.tup e q)
      · obtain ⟨w4, e4⟩ := w3.alloc hp (.frz o (.tup _))
        exact k _ _ M3 _ _ h3 w4 (e123.trans e4) (.tup (.inl ⟨o, upd_same, ho⟩) (RpA.mono e4.g (RpA.cut q)))
  · obtain ⟨a, rfl, e⟩ := r3
    refine .inl ⟨_, _, rfl, SqL.mono w3.le e, fun p hp => ?_⟩
    obtain ⟨w4, e4⟩ := w3.alloc hp (.lst _)
    refine k _ _ M3 _ _ h3 w4 (e123.trans e4) (.lst upd_same ?_)
    rw [← cut_map]
    exact RpA.cut (RpA.of_ints _)
  · split at h3
    · rename_i hL
      obtain ⟨a, rfl, ha⟩ := r3
      obtain ⟨_, vs, e, q⟩ := w3.lc _ _ _ ha hL
      refine .inl ⟨_, _, rfl, .of e, fun p hp => ?_⟩
      obtain ⟨w4, e4⟩ := w3.alloc hp (.lst _)
      exact k _ _ M3 _ _ h3 w4 (e123.trans e4) (.lst upd_same (RpA.mono e4.g (RpA.cut q)))
    · exact h3.elim
  · exact h3.elim
abbrev FA := List T → Mem → Kt → Prop
def CaL (K : PySem.W.Frag) (r : List V → Hp → VK → Prop) (f : FA) : Prop := ∀ xs ts M B H Q Q', f ts M Q → Wd K B M H → Paired (Rt K B) xs ts →
  (∀ v t' M' B' H', Q t' M' → Wd K B' M' H' → Ext B H B' H' → Rt K B' v t' → Q' v H') → r xs H Q'
def mCall (f : FA) (r : Ma) : Me := fun τ M Q => r τ M fun ts M1 => f ts M1 Q
theorem call_of {K : PySem.W.Frag} {r : List V → Hp → VK → Prop} {f : FA} (hl : CaL K r f) {σ : L2.St} {H : Hp} {Q' : VK} (h : rE K (mCall f mr) σ H Q') : tCB r (rA K mr) σ H Q' := by
  obtain ⟨τ, M, B, Q, h, w, s, k⟩ := h
  exact ⟨τ, M, B, _, h, w, s, fun v t M1 B1 H1 h1 w1 e1 r1 => hl v t M1 B1 H1 Q Q' h1 w1 r1 fun v t M2 B2 H2 h2 w2 e2 => k v t M2 B2 H2 h2 w2 (e1.trans e2)⟩
theorem me_callB {x : Str} {p : Pos} {id : String} {r : List V → Hp → VK → Prop} {f : FA} (hc : CallR X (.builtin id) r) (hl : CaL X.K r f) (hg : Gl X x) (hm : X.mg x = none) (hv : bootBuiltins x = some (.builtin id)) (ha : MA X (e :: es) mr) (hn : x ≠ "__name__" := by decide) (hdb : (x == ("__debug__" : Str)) = false := by decide)
    (he : starEach (e :: es) X.env = (false, eval e X.env) :: starEach es X.env := by rfl) (hpl : (backTo pos (starEach es X.env)).any (·.1) = false := by rfl) : ME X (.Call (.Name x p) (e :: es) [] pos) (mCall f mr) := PE.of (pe_callB hc hg hm hv ha hn hdb he hpl) fun _ _ _ h => call_of hl h
theorem me_callTy {x : Str} {p : Pos} {id : String} {r : List V → Hp → VK → Prop} {f : FA} (hc : CallR X (.type id) r) (hl : CaL X.K r f) (hg : Gl X x) (hm : X.mg x = none) (hv : bootBuiltins x = some (.type id)) (ha : MA X (e :: es) mr) (hn : x ≠ "__name__" := by decide) (hdb : (x == ("__debug__" : Str)) = false := by decide)
    (he : starEach (e :: es) X.env = (false, eval e X.env) :: starEach es X.env := by rfl) (hpl : (backTo pos (starEach es X.env)).any (·.1) = false := by rfl) : ME X (.Call (.Name x p) (e :: es) [] pos) (mCall f mr) := PE.of (pe_callTy hc hg hm hv ha hn hdb he hpl) fun _ _ _ h => call_of hl h
end
section
variable {K : PySem.W.Frag}
theorem paired_one {F : V → T → Prop} {xs : List V} {t : T} (h : Paired F xs [t]) : ∃ v, xs = [v] ∧ F v t := by
  cases h with
  | cons p q =>
    cases q
    exact ⟨_, rfl, p⟩
theorem paired_two {F : V → T → Prop} {xs : List V} {t u : T} (h : Paired F xs [t, u]) : ∃ v w, xs = [v, w] ∧ F v t ∧ F w u := by
  cases h with
  | cons p q =>
    obtain ⟨w, rfl, r⟩ := paired_one q
    exact ⟨_, _, rfl, p, r⟩
theorem now_flat {t : T} {M : Mem} {x : PyData} (e : now t M = some x) : t = .d x ∨ ∃ xs, x = .list xs := by
  cases t with
  | d y => cases e; exact .inl rfl
  | lr i =>
    have e' : (match M.L[i]? with | some (some ds) => some (PyData.list ds) | _ => none) = some x := e
    split at e'
    · cases e'; exact .inr ⟨_, rfl⟩
    · cases e'
  | mr i =>
    have e' : (match M.D[i]? with | some (.lst ts) => (datas ts).map PyData.list | _ => none) = some x := e
    split at e'
    · rename_i ts _
      cases q : datas ts with
      | none => rw [q] at e'; cases e'
      | some ds => rw [q] at e'; cases e'; exact .inr ⟨_, rfl⟩
    · cases e'
  | scr ns => cases e; exact .inr ⟨_, rfl⟩
  | wt xs => cases e
  | exo a c d e' => cases e
  | q x => cases e
/-- the list or the tuple that a value is now -/
theorem Wd.seq {B : Bk} {M : Mem} {H : Hp} (w : Wd K B M H) {v : V} {t : T} (r : Rt K B v t) :
    (∀ xs, now t M = some (.list xs) → ∃ p ys, v = .ref p ∧ SqL K H p ys ∧ RpA K B.G ys xs) ∧ (∀ xs, now t M = some (.tuple xs) → ∃ p ys, v = .ref p ∧ SqT K H p ys ∧ RpA K B.G ys xs) := by
  refine ⟨fun xs e => ?_, fun xs e => ?_⟩
  · cases t with
    | d y =>
      cases e
      cases r with
      | lst e q => exact ⟨_, _, rfl, .of (w.le _ _ e), q⟩
    | lr i =>
      obtain ⟨a, rfl, ha⟩ := r
      unfold now at e
      cases h : M.L[i]? with
      | none => simp [h] at e
      | some o =>
        cases o with
        | none => simp [h] at e
        | some ds =>
          simp only [h] at e
          cases e
          obtain ⟨_, vs, h1, h2⟩ := w.lc i a _ ha h
          exact ⟨_, _, rfl, .of h1, h2⟩
    | mr i =>
      obtain ⟨a, rfl, ha⟩ := r
      unfold now at e
      cases h : M.D[i]? with
      | none => simp [h] at e
      | some o =>
        cases o with
        | dct _ => simp [h] at e
        | dnk _ => simp [h] at e
        | held _ => simp [h] at e
        | exc _ _ => simp [h] at e
        | ins _ _ => simp [h] at e
        | tup _ => simp [h] at e
        | dnd _ => simp [h] at e
        | lst ts =>
          simp only [h] at e
          cases q : datas ts with
          | none => rw [q] at e; cases e
          | some ds =>
            rw [q] at e
            cases e
            obtain ⟨_, vs, h1, h2⟩ := w.dc i a _ ha h
            exact ⟨_, _, rfl, .of h1, datas_rpa (B := { B with l := [] }) h2 q⟩
    | scr ns =>
      obtain ⟨a, rfl, ha⟩ := r
      cases e
      exact ⟨_, _, rfl, SqL.mono w.le ha, RpA.of_ints ns⟩
    | wt xs => cases e
    | exo a c d e' => cases e
    | q x => cases e
  · rcases now_flat e with z | ⟨ys, z⟩
    · subst z
      cases r with
      | tup e q => exact ⟨_, _, rfl, SqT.mono w.le e, q⟩
    · cases z
/-- len -/
def fLen : FA := fun ts M Q => match ts with
  | [t] => (match now t M with
    | some (.list xs) => Q (.int xs.length) M
    | some (.tuple xs) => Q (.int xs.length) M
    | some (.str z) => z.length ≤ sizeLine ∧ Q (.int z.length) M
    | _ => False)
  | _ => False
def rLen (K : PySem.W.Frag) : List V → Hp → VK → Prop := fun xs H Q => (∃ p ys, xs = [.ref p] ∧ (SqL K H p ys ∨ SqT K H p ys) ∧ Q (.int ys.length) H) ∨ (∃ z, xs = [.str z] ∧ z.length ≤ sizeLine ∧ Q (.int z.length) H)
theorem cr_len {X : Cx} : CallR X (.builtin "len") (rLen X.K) := call_len_seq.or call_len_str
theorem cal_len : CaL K (rLen K) fLen := by
  intro xs ts M B H Q Q' h w r k
  unfold fLen at h
  split at h
  · obtain ⟨v, rfl, r1⟩ := paired_one r
    split at h
    · rename_i e
      obtain ⟨p, ys, rfl, h1, h2⟩ := (w.seq r1).1 _ e
      refine .inl ⟨p, ys, rfl, .inl h1, ?_⟩
      rw [RpA.length h2]
      exact k _ _ M B H h w (.refl _ _) (.int _)
    · rename_i e
      obtain ⟨p, ys, rfl, h1, h2⟩ := (w.seq r1).2 _ e
      refine .inl ⟨p, ys, rfl, .inr h1, ?_⟩
      rw [RpA.length h2]
      exact k _ _ M B H h w (.refl _ _) (.int _)
    · rename_i z e
      rcases now_flat e with y | ⟨ys, y⟩
      · subst y
        cases r1
        exact .inr ⟨_, rfl, h.1, k _ _ M B H h.2 w (.refl _ _) (.int _)⟩
      · cases y
    · exact h.elim
  · exact h.elim
/-- tuple(..) -/
def fTuple : FA := fun ts M Q => match ts with
  | [t] => (match now t M with
    | some (.list xs) => Q (.tup xs) M
    | some (.tuple xs) => Q (.tup xs) M
    | _ => False)
  | _ => False
def rTuple (K : PySem.W.Frag) : List V → Hp → VK → Prop := fun xs H Q => ∃ p ys, xs = [.ref p] ∧ ((SqL K H p ys ∧ ∀ (l : Addr) (o : Obj), H l = none → o.dict = none → Q (.ref l) (upd H l (.frz o (.tup ys)))) ∨ (SqT K H p ys ∧ Q (.ref p) H))
theorem now_tup {t : T} {M : Mem} {xs : List PyData} (e : now t M = some (.tuple xs)) : t = .d (.tuple xs) := by
  rcases now_flat e with z | ⟨ys, z⟩
  · exact z
  · cases z
theorem cal_tuple : CaL K (rTuple K) fTuple := by
  intro xs ts M B H Q Q' h w r k
  unfold fTuple at h
  split at h
  · obtain ⟨v, rfl, r1⟩ := paired_one r
    split at h
    · rename_i e
      obtain ⟨p, ys, rfl, h1, h2⟩ := (w.seq r1).1 _ e
      refine ⟨p, ys, rfl, .inl ⟨h1, fun l o hl ho => ?_⟩⟩
      obtain ⟨w4, e4⟩ := w.alloc hl (.frz o (.tup ys))
      exact k _ _ M _ _ h w4 e4 (.tup (.inl ⟨o, upd_same, ho⟩) (RpA.mono e4.g h2))
    · rename_i e
      have e0 := now_tup e
      subst e0
      obtain ⟨p, ys, rfl, h1, h2⟩ := (w.seq r1).2 _ e
      exact ⟨p, ys, rfl, .inr ⟨h1, k _ _ M B H h w (.refl _ _) r1⟩⟩
    · exact h.elim
  · exact h.elim
def rList (K : PySem.W.Frag) : List V → Hp → VK → Prop := fun xs H Q => ∃ p ys, xs = [.ref p] ∧ (SqL K H p ys ∨ SqT K H p ys) ∧ ∀ l, H l = none → Q (.ref l) (upd H l (.lst ys))
/-- all ints -/
def intsOf : List PyData → Option (List Int)
  | [] => some []
  | .int i :: r => (intsOf r).map (i :: ·)
  | _ :: _ => none
theorem intsOf_eq : ∀ {ds : List PyData} {ns : List Int}, intsOf ds = some ns → ds = ns.map .int
  | [], _, e => by cases e; rfl
  | .int i :: r, ns, e => by
    unfold intsOf at e
    cases h : intsOf r with
    | none => rw [h] at e; cases e
    | some l =>
      rw [h] at e
      cases e
      rw [intsOf_eq h]
      rfl
  | .none :: _, _, e => by cases e
  | .bool _ :: _, _, e => by cases e
  | .str _ :: _, _, e => by cases e
  | .list _ :: _, _, e => by cases e
  | .tuple _ :: _, _, e => by cases e
  | .dict _ :: _, _, e => by cases e
theorem intsOf_map : ∀ ns : List Int, intsOf (ns.map .int) = some ns
  | [] => rfl
  | n :: r => by
    show (intsOf (r.map .int)).map (n :: ·) = _
    rw [intsOf_map r]
    rfl
/-- the ints of a list now -/
def nowI (t : T) (M : Mem) : Option (List Int) := match now t M with
  | some (.list xs) => intsOf xs
  | _ => none
theorem Wd.nowIs {B : Bk} {M : Mem} {H : Hp} (w : Wd K B M H) {v : V} {t : T} (r : Rt K B v t) {ns : List Int} (e : nowI t M = some ns) : ∃ p, v = .ref p ∧ SqL K H p (ns.map V.int) := by
  unfold nowI at e
  split at e
  · rename_i xs hx
    obtain ⟨p, ys, rfl, h1, h2⟩ := (w.seq r).1 _ hx
    rw [intsOf_eq e] at h2
    rw [RpA.ints h2] at h1
    exact ⟨p, rfl, h1⟩
  · cases e
def fMax : FA := fun ts M Q => match ts with
  | [.d (.int i), .d (.int j)] => Q (.int (if j > i then j else i)) M
  | [t] => (match nowI t M with
    | some ns => 0 < ns.length ∧ ∀ m, m ∈ ns → (∀ y, y ∈ ns → y ≤ m) → Q (.int m) M
    | none => False)
  | _ => False
def fMin : FA := fun ts M Q => match ts with
  | [.d (.int i), .d (.int j)] => Q (.int (if j < i then j else i)) M
  | [t] => (match nowI t M with
    | some ns => 0 < ns.length ∧ ∀ m, m ∈ ns → (∀ y, y ∈ ns → m ≤ y) → Q (.int m) M
    | none => False)
  | _ => False
def rMax2 (K : PySem.W.Frag) : List V → Hp → VK → Prop := fun xs H Q => (∃ i j, xs = [.int i, .int j] ∧ Q (.int (if j > i then j else i)) H) ∨ rMax K xs H Q
def rMin2 (K : PySem.W.Frag) : List V → Hp → VK → Prop := fun xs H Q => (∃ i j, xs = [.int i, .int j] ∧ Q (.int (if j < i then j else i)) H) ∨ rMin K xs H Q
theorem crl_max {X : Cx} (hc : X.calm = true) : CallR X (.builtin "max") (rMax2 X.K) := (call_max2 hc).or (cr_max hc)
theorem crl_min {X : Cx} (hc : X.calm = true) : CallR X (.builtin "min") (rMin2 X.K) := (call_min2 hc).or (cr_min hc)
theorem cal_max : CaL K (rMax2 K) fMax := by
  intro xs ts M B H Q Q' h w r k
  unfold fMax at h
  split at h
  · obtain ⟨v, u, rfl, r1, r2⟩ := paired_two r
    cases r1
    cases r2
    exact .inl ⟨_, _, rfl, k _ _ M B H h w (.refl _ _) (.int _)⟩
  · obtain ⟨v, rfl, r1⟩ := paired_one r
    split at h
    · rename_i ns e
      obtain ⟨p, rfl, h1⟩ := w.nowIs r1 e
      exact .inr ⟨p, ns, rfl, h1, h.1, fun m m1 m2 => k _ _ M B H (h.2 m m1 m2) w (.refl _ _) (.int _)⟩
    · exact h.elim
  · exact h.elim
theorem cal_min : CaL K (rMin2 K) fMin := by
  intro xs ts M B H Q Q' h w r k
  unfold fMin at h
  split at h
  · obtain ⟨v, u, rfl, r1, r2⟩ := paired_two r
    cases r1
    cases r2
    exact .inl ⟨_, _, rfl, k _ _ M B H h w (.refl _ _) (.int _)⟩
  · obtain ⟨v, rfl, r1⟩ := paired_one r
    split at h
    · rename_i ns e
      obtain ⟨p, rfl, h1⟩ := w.nowIs r1 e
      exact .inr ⟨p, ns, rfl, h1, h.1, fun m m1 m2 => k _ _ M B H (h.2 m m1 m2) w (.refl _ _) (.int _)⟩
    · exact h.elim
  · exact h.elim
def fInt : FA := fun ts M Q => match ts with
  | [.d (.int i)] => Q (.int i) M
  | [.d (.bool b)] => Q (.int (if b then 1 else 0)) M
  | _ => False
theorem cal_int : CaL K (fun xs H Q => (∃ i, xs = [V.int i] ∧ Q (.int i) H) ∨ ∃ k, xs = [V.bl k] ∧ Q (.int (if k then 1 else 0)) H) fInt := by
  intro xs ts M B H Q Q' h w r k
  unfold fInt at h
  split at h
  · obtain ⟨v, rfl, r1⟩ := paired_one r
    cases r1
    exact .inl ⟨_, rfl, k _ _ M B H h w (.refl _ _) (.int _)⟩
  · obtain ⟨v, rfl, r1⟩ := paired_one r
    cases r1
    exact .inr ⟨_, rfl, k _ _ M B H h w (.refl _ _) (.int _)⟩
  · exact h.elim
def fAbs : FA := fun ts M Q => match ts with
  | [.d (.int i)] => Q (.int (if i < 0 then -i else i)) M
  | _ => False
end
end L3
set_option Elab.async false
set_option linter.all false
set_option maxRecDepth 100000
namespace L3
open PySem PySem.Spec L2
def noL : T → Bool
  | .lr _ => false
  | _ => true
def isL (t : T) (M : Mem) : Prop := match t with
  | .lr i => ∃ ds, M.L[i]? = some (some ds)
  | .mr i => ∃ ts, M.D[i]? = some (.lst ts)
  | .d (.list _) => True
  | _ => False
theorem Rt.deck {K : PySem.W.Frag} {B : Bk} {v : V} {t : T} (n : noL t = true) (r : Rt K B v t) : Rt K { B with l := [] } v t := by
  cases t with
  | lr i => cases n
  | d x => exact r
  | mr i => exact r
  | scr ns => exact r
  | wt xs => exact r
  | exo a c d e => exact r
  | q x => exact r
theorem Rt.undeck {K : PySem.W.Frag} {B : Bk} {v : V} {t : T} (r : Rt K { B with l := [] } v t) : Rt K B v t := Rt.mono' (B := { B with l := [] }) (B' := B) (fun _ _ e => e) (List.prefix_refl _) (List.nil_prefix) r
theorem Wd.isL {K : PySem.W.Frag} {B : Bk} {M : Mem} {H : Hp} (w : Wd K B M H) {v : V} {t : T} (r : Rt K B v t) (h : L3.isL t M) : ∃ p xs, v = .ref p ∧ SqL K H p xs := by
  unfold L3.isL at h
  split at h
  · obtain ⟨ds, e⟩ := h
    obtain ⟨a, rfl, ha⟩ := r
    obtain ⟨_, xs, h1, _⟩ := w.lc _ _ _ ha e
    exact ⟨a, xs, rfl, .of h1⟩
  · obtain ⟨ts, e⟩ := h
    obtain ⟨a, rfl, ha⟩ := r
    obtain ⟨_, xs, h1, _⟩ := w.dc _ _ _ ha e
    exact ⟨a, xs, rfl, .of h1⟩
  · cases r with
    | lst e q => exact ⟨_, _, rfl, .of (w.le _ _ e)⟩
  · exact h.elim
def MeL (K : PySem.W.Frag) (r : V → List V → Hp → VK → Prop) (f : T → FA) : Prop := ∀ x xs t ts M B H Q Q', f t ts M Q → Wd K B M H → Rt K B x t → Paired (Rt K B) xs ts →
  (∀ v t' M' B' H', Q t' M' → Wd K B' M' H' → Ext B H B' H' → Rt K B' v t' → Q' v H') → r x xs H Q'
def mMeth (f : T → FA) (o : Me) (r : Ma) : Me := fun τ M Q => o τ M fun x M1 => isL x M1 ∧ r τ M1 fun ts M2 => f x ts M2 Q
def mMeth0 (f : T → FA) (o : Me) : Me := fun τ M Q => o τ M fun x M1 => isL x M1 ∧ f x [] M1 Q
section
variable {X : Cx} {o e : Expr} {es : List Expr} {mo m : Me} {mr : Ma} {name : Str} {id : String} {apos cpos : Pos} {r : V → List V → Hp → VK → Prop} {f : T → FA}
theorem me_lm (pa : PlainAttrs "list") (slot : Slot "list" name id) (hty : typeOf (.builtin id) = pure (.type "method_descriptor")) (hm : MtR X id r) (hl : MeL X.K r f) (ho : ME X o mo) (ha : MA X (e :: es) mr)
    (hbase : attributeBase o name X.env (eval o X.env) = eval o X.env := by rfl)
    (hfew : ((backTo cpos (starEach (e :: es) X.env)).all (fun x => !x.1) && (backToKw cpos (keywordEach [] X.env)).all (fun x => x.1.isSome) && decide ((e :: es).length + ([] : List Keyword).length + (if ([] : List Keyword).isEmpty then 0 else 1) < 30)) = true := by rfl)
    (hline : (apos.endLine == cpos.line) = true := by rfl) (hs : starEach (e :: es) X.env = (false, eval e X.env) :: starEach es X.env := by rfl) (hplain : (backTo cpos (starEach es X.env)).any (·.1) = false := by rfl) :
    ME X (.Call (.Attribute o name apos) (e :: es) [] cpos) (mMeth f mo mr) := by
  refine PE.of (pe_bm pa slot hty hm ho ha hbase hfew hline hs hplain) fun σ H Q' ⟨τ, M, B, Q, h, w, s, k⟩ => ?_
  refine ⟨τ, M, B, _, h, w, s, fun v t M1 B1 H1 h1 w1 e1 r1 => ?_⟩
  obtain ⟨p, xs, rfl, hq⟩ := w1.isL r1 h1.1
  refine ⟨.inl ⟨rfl, xs, hq⟩, τ, M1, B1, _, h1.2, w1, s.mono e1, fun vs ts M2 B2 H2 h2 w2 e2 r2 => ?_⟩
  exact hl _ vs t ts M2 B2 H2 Q Q' h2 w2 (Rt.mono e2 r1) r2 fun v t M3 B3 H3 h3 w3 e3 => k v t M3 B3 H3 h3 w3 (e1.trans (e2.trans e3))
theorem me_lm0 (pa : PlainAttrs "list") (slot : Slot "list" name id) (hty : typeOf (.builtin id) = pure (.type "method_descriptor")) (hm : MtR X id r) (hl : MeL X.K r f) (ho : ME X o mo)
    (hbase : attributeBase o name X.env (eval o X.env) = eval o X.env := by rfl) (hline : (apos.endLine == cpos.line) = true := by rfl) :
    ME X (.Call (.Attribute o name apos) [] [] cpos) (mMeth0 f mo) := by
  refine PE.of (pe_bm0 pa slot hty hm ho hbase hline) fun σ H Q' ⟨τ, M, B, Q, h, w, s, k⟩ => ?_
  refine ⟨τ, M, B, _, h, w, s, fun v t M1 B1 H1 h1 w1 e1 r1 => ?_⟩
  obtain ⟨p, xs, rfl, hq⟩ := w1.isL r1 h1.1
  refine ⟨.inl ⟨rfl, xs, hq⟩, ?_⟩
  exact hl _ [] t [] M1 B1 H1 Q Q' h1.2 w1 r1 .nil fun v t M3 B3 H3 h3 w3 e3 => k v t M3 B3 H3 h3 w3 (e1.trans e3)
end
def fApp (x : T) : FA := fun ts M Q => match x, ts with
  | .lr i, [.d z] => (match M.L[i]? with
    | some (some ds) => ds.length < sizeLine ∧ Q .non { M with L := M.L.set i (some (ds ++ [z])) }
    | _ => False)
  | .mr i, [t] => (match M.D[i]? with
    | some (.lst us) => noL t = true ∧ us.length < sizeLine ∧ Q .non { M with D := M.D.set i (.lst (us ++ [t])) }
    | _ => False)
  | _, _ => False
theorem paired_snoc {F : V → T → Prop} {xs : List V} {ts : List T} (h : Paired F xs ts) {x : V} {t : T} (q : F x t) : Paired F (xs ++ [x]) (ts ++ [t]) := PySem.Paired.snoc h q
theorem mel_app {K : PySem.W.Frag} : MeL K rAppend fApp := by
  intro x xs t ts M B H Q Q' h w rx rs k
  unfold fApp at h
  split at h
  · rename_i i z
    split at h
    · rename_i ds hL
      obtain ⟨v, rfl, r1⟩ := paired_one rs
      obtain ⟨a, rfl, ha⟩ := rx
      obtain ⟨_, vs, e, q⟩ := w.lc _ _ _ ha hL
      refine ⟨a, vs, v, rfl, rfl, e, by rw [RpA.length q]; exact h.1, ?_⟩
      obtain ⟨w2, e2⟩ := w.setL ha hL (RpA.append q (.cons r1 .nil))
      exact k _ _ _ _ _ h.2 w2 e2 .non
    · exact h.elim
  · rename_i i z
    split at h
    · rename_i us hD
      obtain ⟨v, rfl, r1⟩ := paired_one rs
      obtain ⟨a, rfl, ha⟩ := rx
      obtain ⟨_, vs, e, q⟩ := w.dc _ _ _ ha hD
      refine ⟨a, vs, v, rfl, rfl, e, by rw [paired_len q]; exact h.2.1, ?_⟩
      obtain ⟨w2, e2⟩ := w.setD ha hD (o := .lst (vs ++ [v])) (c := .lst (us ++ [z])) fun H' eH => ⟨_, eH, paired_snoc q (r1.deck h.1)⟩
      exact k _ _ _ _ _ h.2.2 w2 e2 .non
    · exact h.elim
  · exact h.elim
theorem paired_dropLast {F : V → T → Prop} : ∀ {xs : List V} {ts : List T}, Paired F xs ts → Paired F xs.dropLast ts.dropLast
  | _, _, .nil => .nil
  | _, _, .cons (l₁ := xs) p q => by
    cases q with
    | nil => exact .nil
    | cons p2 q2 => exact .cons p (paired_dropLast (.cons p2 q2))
def fPop (x : T) : FA := fun ts M Q => match x, ts with
  | .lr i, [] => (match M.L[i]? with
    | some (some ds) => ∃ z, ds[ds.length - 1]? = some z ∧ Q (.d z) { M with L := M.L.set i (some ds.dropLast) }
    | _ => False)
  | .mr i, [] => (match M.D[i]? with
    | some (.lst us) => ∃ t, us[us.length - 1]? = some t ∧ Q t { M with D := M.D.set i (.lst us.dropLast) }
    | _ => False)
  | _, _ => False
theorem mel_pop {K : PySem.W.Frag} : MeL K rPop fPop := by
  intro x xs t ts M B H Q Q' h w rx rs k
  unfold fPop at h
  split at h
  · rename_i i
    cases rs
    split at h
    · rename_i ds hL
      obtain ⟨a, rfl, ha⟩ := rx
      obtain ⟨_, vs, e, q⟩ := w.lc _ _ _ ha hL
      obtain ⟨z, hz, hQ⟩ := h
      obtain ⟨u, h1, h2⟩ := RpA.get q hz
      refine ⟨a, vs, u, rfl, rfl, e, by rw [RpA.length q]; exact h1, ?_⟩
      obtain ⟨w2, e2⟩ := w.setL ha hL (RpA.dropLast q)
      exact k _ _ _ _ _ hQ w2 e2 h2
    · exact h.elim
  · rename_i i
    cases rs
    split at h
    · rename_i us hD
      obtain ⟨a, rfl, ha⟩ := rx
      obtain ⟨_, vs, e, q⟩ := w.dc _ _ _ ha hD
      obtain ⟨z, hz, hQ⟩ := h
      obtain ⟨u, h1, h2⟩ := paired_get q hz
      refine ⟨a, vs, u, rfl, rfl, e, by rw [paired_len q]; exact h1, ?_⟩
      obtain ⟨w2, e2⟩ := w.setD ha hD (o := .lst vs.dropLast) (c := .lst us.dropLast) fun H' eH => ⟨_, eH, paired_dropLast q⟩
      exact k _ _ _ _ _ hQ w2 e2 h2.undeck
    · exact h.elim
  · exact h.elim
def lookT (kvs : List (Key × T)) (k : Key) : Option T := (kvs.find? fun kv => decide (kv.1 = k)).map (·.2)
def putT (kvs : List (Key × T)) (k : Key) (t : T) : List (Key × T) :=
  if (kvs.any fun kv => decide (kv.1 = k)) = true then kvs.map (fun kv => if kv.1 = k then (kv.1, t) else kv) else kvs ++ [(k, t)]
abbrev KT (K : PySem.W.Frag) (B : Bk) : List (Key × V) → List (Key × T) → Prop := Paired (fun (p : Key × V) (q : Key × T) => p.1 = q.1 ∧ Rt K { B with l := [] } p.2 q.2)
theorem KT.look {K : PySem.W.Frag} {B : Bk} {vs : List (Key × V)} {ts : List (Key × T)} {k : Key} (h : KT K B vs ts) : ∀ {t : T}, lookT ts k = some t → ∃ v, valV vs k = some v ∧ Rt K { B with l := [] } v t := by
  induction h with
  | nil => intro t e; cases e
  | @cons p q ps qs f _ ih =>
    intro t e
    by_cases z : q.1 = k
    · have e' : lookT (q :: qs) k = some q.2 := by simp [lookT, List.find?_cons, z]
      rw [e'] at e
      cases e
      exact ⟨p.2, valV_pos (f.1.trans z), f.2⟩
    · have e' : lookT (q :: qs) k = lookT qs k := by simp [lookT, List.find?_cons, z]
      rw [e'] at e
      obtain ⟨v, h1, h2⟩ := ih e
      exact ⟨v, (valV_neg fun y => z (f.1.symm.trans y)).trans h1, h2⟩
theorem KT.any {K : PySem.W.Frag} {B : Bk} {vs : List (Key × V)} {ts : List (Key × T)} {k : Key} (h : KT K B vs ts) : (vs.any fun kv => decide (kv.1 = k)) = (ts.any fun kv => decide (kv.1 = k)) := by
  induction h with
  | nil => rfl
  | cons f _ ih => rw [List.any_cons, List.any_cons, ih, f.1]
theorem KT.put {K : PySem.W.Frag} {B : Bk} {vs : List (Key × V)} {ts : List (Key × T)} {k : Key} {v : V} {t : T} (h : KT K B vs ts) (r : Rt K { B with l := [] } v t) : KT K B (putK vs k v) (putT ts k t) := by
  unfold putK putT
  rw [h.any]
  split
  · have m : ∀ {vs : List (Key × V)} {ts : List (Key × T)}, KT K B vs ts → KT K B (vs.map fun kv => if kv.1 = k then (kv.1, v) else kv) (ts.map fun kv => if kv.1 = k then (kv.1, t) else kv) := by
      intro vs ts h
      induction h with
      | nil => exact .nil
      | @cons p q ps qs f _ ih =>
        refine .cons ?_ ih
        by_cases z : q.1 = k
        · have e1 : (fun kv : Key × V => if kv.1 = k then (kv.1, v) else kv) p = (p.1, v) := if_pos (f.1.trans z)
          have e2 : (fun kv : Key × T => if kv.1 = k then (kv.1, t) else kv) q = (q.1, t) := if_pos z
          rw [e1, e2]
          exact ⟨f.1, r⟩
        · have e1 : (fun kv : Key × V => if kv.1 = k then (kv.1, v) else kv) p = p := if_neg fun y => z (f.1.symm.trans y)
          have e2 : (fun kv : Key × T => if kv.1 = k then (kv.1, t) else kv) q = q := if_neg z
          rw [e1, e2]
          exact f
    exact m h
  · exact PySem.Paired.snoc h ⟨rfl, r⟩
def keyOf : T → Option Key
  | .d (.str s) => some (.inr s)
  | .d (.int i) => some (.inl i)
  | _ => none
theorem keyOf_kV {K : PySem.W.Frag} {B : Bk} {v : V} {t : T} {k : Key} (r : Rt K B v t) (e : keyOf t = some k) : v = kV k := by
  unfold keyOf at e
  split at e
  · cases e
    cases r
    rfl
  · cases e
    cases r
    rfl
  · cases e
def oDGet : F2 := fun x y M Q => match x, keyOf y with
  | .mr i, some k => (match M.D[i]? with
    | some (.dct kvs) => ∃ t, lookT kvs k = some t ∧ Q t M
    | _ => False)
  | _, _ => False
theorem opl_dget {K : PySem.W.Frag} : OpL K (fun x y H Q => ∃ a v, x = .ref a ∧ DGet H a y (some v) ∧ Q v H) oDGet := by
  intro x y t u M B H Q Q' h w rx ry k
  unfold oDGet at h
  split at h
  · rename_i kk hk
    split at h
    · rename_i kvs hD
      obtain ⟨a, rfl, ha⟩ := rx
      obtain ⟨_, vs, e, q⟩ := w.dc _ _ _ ha hD
      obtain ⟨t', h1, hQ⟩ := h
      obtain ⟨v, h2, h3⟩ := KT.look q h1
      refine ⟨a, v, rfl, ?_, k _ _ M B H hQ w (.refl _ _) h3.undeck⟩
      rw [keyOf_kV ry hk, ← h2]
      exact .k e
    · exact h.elim
  · exact h.elim
section
variable {X : Cx} {o i e value : Expr} {es : List Expr} {mo mi mv m : Me} {pos pos' : Pos}
theorem me_dget (hu : X.A.units + 1 < cLine) (ho : ME X o mo) (hi : ME X i mi) (hs : NoSl i) : ME X (.Subscript o i pos) (mOp oDGet mo mi) := PE.of (pe_dget hu ho hi hs) fun _ _ _ h => two opl_dget h
def mDPut (d k v : Me) : Ms := fun E τ M => v τ M fun t M1 => d τ M1 fun x M2 => k τ M2 fun y M3 => match x, keyOf y with
  | .mr i, some kk => (match M3.D[i]? with
    | some (.dct kvs) => noL t = true ∧ kvs.length < sizeLine ∧ E.nx τ { M3 with D := M3.D.set i (.dct (putT kvs kk t)) }
    | _ => False)
  | _, _ => False
theorem ms_dput (hu : X.A.units + 1 < cLine) (ho : ME X o mo) (hi : ME X i mi) (hv : ME X value mv) (hs : swapsWith value (some (.Subscript o i pos')) pos.line X.env = pure false) :
    MS X (.Assign [.Subscript o i pos'] value pos) (mDPut mo mi mv) := PS.of (ps_dput hu ho hi hv hs) fun D σ H ⟨E, τ, M, B, h, w, s, g⟩ => by
  refine ⟨τ, M, B, _, h, w, s, fun v t M1 B1 H1 h1 w1 e1 r1 => ⟨τ, M1, B1, _, h1, w1, s.mono e1, fun x tx M2 B2 H2 h2 w2 e2 r2 => ⟨τ, M2, B2, _, h2, w2, (s.mono e1).mono e2, fun y ty M3 B3 H3 h3 w3 e3 r3 => ?_⟩⟩⟩
  split at h3
  · rename_i kk hk
    split at h3
    · rename_i kvs hD
      obtain ⟨a, rfl, ha⟩ := Rt.mono e3 r2
      obtain ⟨_, vs, e, q⟩ := w3.dc _ _ _ ha hD
      have rv := Rt.deck h3.1 (Rt.mono e3 (Rt.mono e2 r1))
      have hz : vs.length < sizeLine := by
        rw [paired_len q]
        exact h3.2.1
      refine ⟨a, _, rfl, by rw [keyOf_kV r3 hk]; exact DPut.k e hz, ?_⟩
      obtain ⟨w4, e4⟩ := w3.setD ha hD (o := .dK (putK vs kk v)) (c := .dct (putT kvs kk t)) fun H' eH => ⟨_, eH, KT.put q rv⟩
      have e14 := e1.trans (e2.trans (e3.trans e4))
      exact g.nx _ _ _ _ _ h3.2.2 w4 e14 (s.mono e14)
    · exact h3.elim
  · exact h3.elim
/-- o[i] = v, a list -/
def mLPut (d k v : Me) : Ms := fun E τ M => v τ M fun t M1 => d τ M1 fun x M2 => k τ M2 fun y M3 => match x, y, t with
  | .lr i, .d (.int j), .d z => (match M3.L[i]? with
    | some (some ds) => ∃ n, ixN ds.length j = some n ∧ E.nx τ { M3 with L := M3.L.set i (some (ds.set n z)) }
    | _ => False)
  | _, _, _ => False
def mLPutD (d k v : Me) : Ms := fun E τ M => v τ M fun t M1 => d τ M1 fun x M2 => k τ M2 fun y M3 => match x, y with
  | .mr i, .d (.int j) => (match M3.D[i]? with
    | some (.lst ds) => noL t = true ∧ ∃ n, ixN ds.length j = some n ∧ E.nx τ { M3 with D := M3.D.set i (.lst (ds.set n t)) }
    | _ => False)
  | _, _ => False
theorem ms_lput (ho : ME X o mo) (hi : ME X i mi) (hv : ME X value mv) (hg : ∀ {to ti : TE}, PE X o to → PE X i ti → PG X (.Subscript o i pos') (gSub to ti rSetL)) (hs : swapsWithSole [.Subscript o i pos'] value pos.line X.env = pure false := by rfl)
    (hw : swappedStores [.Subscript o i pos'] value X.env = pure none := by rfl) (h1 : (assignEach [.Subscript o i pos'] X.env).map (·.2) = [assign (.Subscript o i pos') X.env] := by rfl) :
    MS X (.Assign [.Subscript o i pos'] value pos) (mLPut mo mi mv) := PS.of (ps_asg hv (hg ho hi) hs hw h1) fun D σ H ⟨E, τ, M, B, h, w, s, g⟩ => by
  refine ⟨τ, M, B, _, h, w, s, fun v t M1 B1 H1 h1 w1 e1 r1 => ⟨τ, M1, B1, _, h1, w1, s.mono e1, fun x tx M2 B2 H2 h2 w2 e2 r2 => ⟨τ, M2, B2, _, h2, w2, (s.mono e1).mono e2, fun y ty M3 B3 H3 h3 w3 e3 r3 => ?_⟩⟩⟩
  split at h3
  · split at h3
    · rename_i ds hL
      obtain ⟨a, rfl, ha⟩ := Rt.mono e3 r2
      cases r3
      obtain ⟨_, vs, e, q⟩ := w3.lc _ _ _ ha hL
      obtain ⟨n, hn, hQ⟩ := h3
      refine ⟨a, vs, _, n, rfl, rfl, e, by rw [RpA.length q]; exact hn, ?_⟩
      obtain ⟨w4, e4⟩ := w3.setL ha hL (RpA.set (Rt.mono e3 (Rt.mono e2 r1)) n q)
      have e14 := e1.trans (e2.trans (e3.trans e4))
      exact g.nx _ _ _ _ _ hQ w4 e14 (s.mono e14)
    · exact h3.elim
  · exact h3.elim
end
def goD : List (Str × Me) → En → Mem → (List (Key × T) → Mem → Prop) → Prop
  | [], _, M, Q => Q [] M
  | (s, m) :: r, τ, M, Q => m τ M fun t M1 => noL t = true ∧ goD r τ M1 fun kts M2 => Q ((.inr s, t) :: kts) M2
def mDisp (ps : List (Str × Me)) : Me := fun τ M Q => goD ps τ M fun kts M1 => ((kts.map (·.1)).Nodup ∧ kts.length ≤ 15) ∧ Q (.mr M1.D.length) { M1 with D := M1.D ++ [.dct kts] }
abbrev trsOf (K : PySem.W.Frag) (ps : List (Str × Me)) : List (TE × TE) := ps.map fun p => (tC (.str p.1), rE K p.2)
theorem pairs_of {K : PySem.W.Frag} : ∀ (ps : List (Str × Me)) {σ : L2.St} {τ : En} {M : Mem} {B : Bk} {H : Hp} {Q : List (Key × T) → Mem → Prop} {Q' : List (V × V) → Hp → Prop}, goD ps τ M Q → Wd K B M H → Sl K B σ τ →
    (∀ kvs kts M' B' H', Q kts M' → Wd K B' M' H' → Ext B H B' H' → KT K B' kvs kts → Q' (kvs.map fun kv => (kV kv.1, kv.2)) H') → tPairs (trsOf K ps) σ H Q'
  | [], σ, τ, M, B, H, Q, Q', h, w, s, k => k [] [] M B H h w (.refl _ _) .nil
  | (x, m) :: r, σ, τ, M, B, H, Q, Q', h, w, s, k => by
    refine ⟨τ, M, B, _, h, w, s, fun v t M1 B1 H1 h1 w1 e1 r1 => ?_⟩
    refine pairs_of r h1.2 w1 (s.mono e1) fun kvs kts M2 B2 H2 h2 w2 e2 r2 => ?_
    exact k ((.inr x, v) :: kvs) ((.inr x, t) :: kts) M2 B2 H2 h2 w2 (e1.trans e2) (.cons ⟨rfl, Rt.deck h1.1 (Rt.mono e2 r1)⟩ r2)
theorem KT.keys {K : PySem.W.Frag} {B : Bk} {vs : List (Key × V)} {ts : List (Key × T)} (h : KT K B vs ts) : vs.map (·.1) = ts.map (·.1) := by
  induction h with
  | nil => rfl
  | cons f _ ih => rw [List.map_cons, List.map_cons, ih, f.1]
theorem merge_nil : ∀ (more acc : List (Key × V)), ((acc ++ more).map (·.1)).Nodup → mergeK acc more = acc ++ more
  | [], acc, _ => (List.append_nil _).symm
  | p :: r, acc, h => by
    show mergeK (putK acc p.1 p.2) r = _
    have n : (acc.any fun kv => decide (kv.1 = p.1)) = false := by
      rw [List.map_append, List.map_cons, List.nodup_append] at h
      rw [List.any_eq_false]
      intro q hq z
      exact h.2.2 q.1 (List.mem_map_of_mem hq) p.1 (by simp) (of_decide_eq_true z)
    have e : putK acc p.1 p.2 = acc ++ [p] := by
      unfold putK
      rw [n]
      rfl
    rw [e, merge_nil r (acc ++ [p]) (by rw [List.append_assoc]; exact h), List.append_assoc]
    rfl
theorem Ext.adoptR {B B2 : Bk} {H H2 : Hp} {p : Addr} {o : HO} (hp : H p = none) (hn : p ∉ B.r) (hm : p ∉ B.l) (x : Ext B H B2 H2) : Ext B H { B2 with r := B2.r ++ [p] } (upd H2 p o) := by
  refine ⟨x.g, x.r.trans (List.prefix_append _ _), x.l, fun a u e h1 h2 => ?_, fun a e => ?_, fun a e => ?_, x.ln, x.gf⟩
  · rw [upd_ne (ne_of_none e hp)]
    exact x.fr a u e h1 h2
  · by_cases z : a = p
    · rw [z]
      exact hp
    · rw [upd_ne z] at e
      exact x.tr a e
  · rcases List.mem_append.mp e with z | z
    · exact x.rn a z
    · rw [List.mem_singleton] at z
      rw [z]
      exact .inr hp
/-- an object that stood beside the world comes into the deck -/
theorem Wd.adoptR {K : PySem.W.Frag} {B : Bk} {M : Mem} {H : Hp} (w : Wd K B M H) {p : Addr} (hG : B.G p = none) (hr : p ∉ B.r) (hl : p ∉ B.l) {o : HO} {c : Cell} (h : ∀ H', H' p = some o → CellAt K { B with r := B.r ++ [p] } H' p c) :
    Wd K { B with r := B.r ++ [p] } { M with D := M.D ++ [c] } (upd H p o) := by
  have ne : ∀ {a : Addr}, a ∈ B.r ++ B.l → a ≠ p := fun {a} ha z => by
    rw [z] at ha
    exact (List.mem_append.mp ha).elim hr hl
  refine ⟨fun a u e => ?_, by simp [w.rlen], w.llen, ?_, fun i a c' h1 h2 => ?_, fun i a es h1 h2 => ?_, fun a ha => ?_⟩
  · rw [upd_ne (ne_of_none e hG)]
    exact w.le a u e
  · show ((B.r ++ [p]) ++ B.l).Nodup
    obtain ⟨n1, n2, n3⟩ := List.nodup_append.mp w.nd
    rw [List.nodup_append]
    refine ⟨nodup_snoc n1 hr, n2, fun x hx y hy z => ?_⟩
    rcases List.mem_append.mp hx with q | q
    · exact n3 x q y hy z
    · rw [List.mem_singleton] at q
      subst z
      subst q
      exact hl hy
  · have h1' : (B.r ++ [p])[i]? = some a := h1
    have h2' : (M.D ++ [c])[i]? = some c' := h2
    rcases Nat.lt_or_ge i B.r.length with z | z
    · rw [List.getElem?_append_left z] at h1'
      rw [List.getElem?_append_left (by rw [← w.rlen]; exact z)] at h2'
      obtain ⟨q1, q2⟩ := w.dc i a c' h1' h2'
      exact ⟨q1, CellAt.mono (B := B) (B' := { B with r := B.r ++ [p] }) (fun _ _ e => e) (List.prefix_append _ _) (upd_ne (ne (List.mem_append_left _ (mem_of_get h1')))) q2⟩
    · rw [List.getElem?_append_right z] at h1'
      rw [List.getElem?_append_right (by rw [← w.rlen]; exact z), ← w.rlen] at h2'
      cases j : i - B.r.length with
      | succ k => rw [j] at h1'; simp at h1'
      | zero =>
        rw [j] at h1' h2'
        simp only [List.getElem?_cons_zero, Option.some.injEq] at h1' h2'
        subst h1'
        subst h2'
        exact ⟨hG, h _ upd_same⟩
  · obtain ⟨q1, ys, q2, q3⟩ := w.lc i a es h1 h2
    exact ⟨q1, ys, (upd_ne (ne (List.mem_append_right _ (mem_of_get h1)))).trans q2, q3⟩
  · have ha' : a ∈ (B.r ++ [p]) ++ B.l := ha
    by_cases z : a = p
    · rw [z, upd_same]
      exact fun q => nomatch q
    · rw [upd_ne z]
      refine w.tr a ?_
      rcases List.mem_append.mp ha' with y | y
      · rcases List.mem_append.mp y with y | y
        · exact List.mem_append_left _ y
        · rw [List.mem_singleton] at y
          exact absurd y z
      · exact List.mem_append_right _ y
/-- an object that stood beside the world never changes again -/
theorem Wd.adoptG {K : PySem.W.Frag} {B : Bk} {M : Mem} {H : Hp} (w : Wd K B M H) {p : Addr} (hG : B.G p = none) (hr : p ∉ B.r) (hl : p ∉ B.l) {o : HO} (hH : H p = some o) : Wd K { B with G := upd B.G p o } M H := by
  refine ⟨fun a u e => ?_, w.rlen, w.llen, w.nd, fun i a c h1 h2 => ?_, fun i a ds h1 h2 => ?_, w.tr⟩
  · have e' : upd B.G p o a = some u := e
    by_cases z : a = p
    · rw [z, upd_same] at e'
      rw [z, hH]
      exact e'
    · rw [upd_ne z] at e'
      exact w.le a u e'
  · obtain ⟨q1, q2⟩ := w.dc i a c h1 h2
    have na : a ≠ p := fun z => hr (by rw [← z]; exact mem_of_get h1)
    exact ⟨(upd_ne na).trans q1, CellAt.mono (B := B) (B' := { B with G := upd B.G p o }) (upd_keep hG) (List.prefix_refl _) rfl q2⟩
  · obtain ⟨q1, xs, q2, q3⟩ := w.lc i a ds h1 h2
    have na : a ≠ p := fun z => hl (by rw [← z]; exact mem_of_get h1)
    exact ⟨(upd_ne na).trans q1, xs, q2, RpA.mono (upd_keep hG) q3⟩
/-- an object beside the world -/
theorem Wd.side {K : PySem.W.Frag} {B : Bk} {M : Mem} {H : Hp} (w : Wd K B M H) {p : Addr} (hp : H p = none) (o : HO) : Wd K B M (upd H p o) := by
  obtain ⟨hG, hr, hl⟩ := w.fresh hp
  refine ⟨fun a u e => ?_, w.rlen, w.llen, w.nd, fun i a c h1 h2 => ?_, fun i a ds h1 h2 => ?_, fun a ha => ?_⟩
  · rw [upd_ne (ne_of_none e hG)]
    exact w.le a u e
  · obtain ⟨q1, q2⟩ := w.dc i a c h1 h2
    exact ⟨q1, CellAt.mono (fun _ _ e => e) (List.prefix_refl _) (upd_ne fun z => hr (by rw [← z]; exact mem_of_get h1)) q2⟩
  · obtain ⟨q1, xs, q2, q3⟩ := w.lc i a ds h1 h2
    exact ⟨q1, xs, (upd_ne fun z => hl (by rw [← z]; exact mem_of_get h1)).trans q2, q3⟩
  · rw [upd_ne fun z => ?_]
    · exact w.tr a ha
    · subst z
      exact w.tr a ha hp
theorem Ext.side {B : Bk} {H : Hp} {p : Addr} (hp : H p = none) (o : HO) : Ext B H B (upd H p o) := by
  refine ⟨fun _ _ e => e, List.prefix_refl _, List.prefix_refl _, fun a u e _ _ => ?_, fun a e => ?_, fun _ e => .inl e, fun _ e => .inl e, fun _ _ e => .inl e⟩
  · rw [upd_ne (ne_of_none e hp)]
    exact e
  · by_cases z : a = p
    · rw [z]
      exact hp
    · rw [upd_ne z] at e
      exact e
theorem me_disp {X : Cx} {pos : Pos} {keys : List (Option Expr)} {values : List Expr} {ps : List (Str × Me)} (h : PPs X pos keys values (trsOf X.K ps)) (hall : keys.all (·.isSome) = true) (hl : keys.length = values.length) (h0 : keys ≠ [])
    (h15 : keys.length ≤ 15) : ME X (.Dict keys values pos) (mDisp ps) := PE.of (pe_disp h hall hl h0 h15) fun σ H Q' ⟨τ, M, B, Q, h, w, s, k⟩ => by
  intro p hp
  obtain ⟨hG, hr, hl⟩ := w.fresh hp
  have x0 : Ext B H B (upd H p (.dK [])) := .side hp _
  refine pairs_of ps h (w.side hp (.dK [])) s fun kvs kts M2 B2 H2 h2 w2 e2 r2 => ?_
  have hH : H2 p = some (.dK []) := e2.fr p _ upd_same hr hl
  obtain ⟨⟨hnd, h15⟩, hQ⟩ := h2
  refine ⟨hH, kvs, rfl, by rw [paired_len r2]; exact h15, ?_⟩
  rw [merge_nil kvs [] (by rw [List.nil_append, KT.keys r2]; exact hnd), List.nil_append]
  have x2 : Ext B H { B2 with r := B2.r ++ [p] } (upd H2 p (.dK kvs)) := .adoptR hp hr hl (x0.trans e2)
  have nr : p ∉ B2.r := fun z => (e2.rn p z).elim hr fun q => by rw [upd_same] at q; cases q
  have nl : p ∉ B2.l := fun z => (e2.ln p z).elim hl fun q => by rw [upd_same] at q; cases q
  have nG : B2.G p = none := by
    cases q : B2.G p with
    | none => rfl
    | some o =>
      rcases e2.gf p o q with z | z | z
      · rw [hG] at z; cases z
      · rw [upd_same] at z; cases z
      · exact absurd z hl
  have w3 := w2.adoptR nG nr nl (o := .dK kvs) (c := .dct kts) fun H' eH => ⟨kvs, eH, Paired.imp (fun _ _ f => ⟨f.1, Rt.mono' (B := { B2 with l := [] }) (B' := { B2 with r := B2.r ++ [p], l := [] }) (fun _ _ e => e) (List.prefix_append _ _) (List.prefix_refl _) f.2⟩) r2⟩
  exact k _ _ _ _ _ hQ w3 x2 ⟨p, rfl, by rw [← w2.rlen]; exact get_snoc⟩
end L3
set_option Elab.async false
set_option linter.all false
set_option maxRecDepth 100000
namespace L3
open PySem PySem.Spec L2
def mNext : Ms := fun E τ M => E.nx τ M
def mSeq (s r : Ms) : Ms := fun E τ M => s { E with nx := r E } τ M
def mDrop (m : Me) : Ms := fun E τ M => m τ M fun _ M1 => E.nx τ M1
def mRet (m : Me) : Ms := fun E τ M => m τ M E.rt
def mIf (c : Mb) (s r : Ms) : Ms := fun E τ M => c τ M fun b M1 => if b = true then s E τ M1 else r E τ M1
def mSet (i : Nat) (m : Me) : Ms := fun E τ M => m τ M fun t M1 => E.nx (τ.set i (some t)) M1
def mAsg (m : Me) (g : Mg) : Ms := fun E τ M => m τ M fun t M1 => g t τ M1 E.nx
def mPar (i j : Nat) (r : Ma) : Ms := fun E τ M => r τ M fun ts M1 => match ts with
  | [t, u] => E.nx ((τ.set i (some t)).set j (some u)) M1
  | _ => False
section
variable {X : Cx} {e c tg : Expr} {m : Me} {mc : Mb} {mr : Ma} {st : Stmt} {sts a b : List Stmt} {s r : Ms} {pos : Pos} {g : Mg}
theorem mss_nil : MSs X [] mNext := PSs.of pss_nil fun D σ H ⟨E, τ, M, B, h, w, sl, g⟩ => g.nx τ M B σ H h w (.refl _ _) sl
theorem mss_cons (h1 : MS X st s) (h2 : MSs X sts r) : MSs X (st :: sts) (mSeq s r) := PSs.of (pss_cons h1 h2) fun D σ H ⟨E, τ, M, B, h, w, sl, g⟩ =>
  ⟨{ E with nx := r E }, τ, M, B, h, w, sl, fun τ' M' B' σ' H' q w' e' s' => ⟨E, τ', M', B', q, w', s', g.ext e'⟩, g.rt, g.bk, g.ct⟩
theorem mss_one (h1 : MS X st s) : MSs X [st] s := pss_one h1
theorem ms_expr (he : ME X e m) (hs : swapsWith e none pos.line X.env = pure false := by rfl) : MS X (.Expr e pos) (mDrop m) := PS.of (ps_expr he hs) fun D σ H ⟨E, τ, M, B, h, w, sl, g⟩ =>
  ⟨τ, M, B, _, h, w, sl, fun v t M1 B1 H1 h1 w1 e1 _ => g.nx τ M1 B1 σ H1 h1 w1 e1 (sl.mono e1)⟩
theorem ms_ret (he : ME X e m) : MS X (.Return (some e) pos) (mRet m) := PS.of (ps_ret he) fun D σ H ⟨E, τ, M, B, h, w, sl, g⟩ =>
  ⟨τ, M, B, _, h, w, sl, g.rt⟩
theorem ms_if (hc : MB X c mc) (ha : MSs X a s) (hb : MSs X b r) : MS X (.If c a b pos) (mIf mc s r) := PS.of (ps_if hc ha hb) fun D σ H ⟨E, τ, M, B, h, w, sl, g⟩ => by
  refine ⟨τ, M, B, _, h, w, sl, fun k M1 B1 H1 h1 w1 e1 => ?_⟩
  cases k with
  | true => exact ⟨E, τ, M1, B1, h1, w1, sl.mono e1, g.ext e1⟩
  | false => exact ⟨E, τ, M1, B1, h1, w1, sl.mono e1, g.ext e1⟩
theorem ms_set {i : Nat} {x : Str} {pos' : Pos} (hN : X.N.Nodup) (hi : X.N[i]? = some x) (hx : Loc X.env.scope x) (he : ME X e m) (hs : swapsWith e (some (.Name x pos')) pos.line X.env = pure false := by rfl)
    (hf : X.fn x = true ∨ X.env.scope.names.lookup x = some .local := by first | exact .inl rfl | exact .inr rfl | assumption) : MS X (.Assign [.Name x pos'] e pos) (mSet i m) := PS.of (L2.ps_set hN hi hx he hs hf) fun D σ H ⟨E, τ, M, B, h, w, sl, g⟩ =>
  ⟨τ, M, B, _, h, w, sl, fun v t M1 B1 H1 h1 w1 e1 r1 => g.nx _ M1 B1 _ H1 h1 w1 e1 ((sl.mono e1).set i r1)⟩
theorem ms_asg {os : List Nat} (he : ME X e m) (hg : MG X tg os g) (hs : swapsWithSole [tg] e pos.line X.env = pure false := by rfl) (hw : swappedStores [tg] e X.env = pure none := by rfl)
    (h1 : (assignEach [tg] X.env).map (·.2) = [assign tg X.env] := by rfl) : MS X (.Assign [tg] e pos) (mAsg m g) := PS.of (ps_asg he hg hs hw h1) fun D σ H ⟨E, τ, M, B, h, w, sl, g⟩ =>
  ⟨τ, M, B, _, h, w, sl, fun v t M1 B1 H1 h1 w1 e1 r1 => ⟨t, τ, M1, B1, _, h1, w1, sl.mono e1, r1, fun τ2 M2 B2 σ2 H2 h2 w2 e2 s2 _ => g.nx _ M2 B2 _ H2 h2 w2 (e1.trans e2) s2⟩⟩
theorem ms_par {i j : Nat} {x y : Str} {e1 e2 : Expr} {px py pt : Pos} {kt k2 : Nat} {pt2 : Pos} (hc : X.calm = true) (hN : X.N.Nodup) (hi : X.N[i]? = some x) (hj : X.N[j]? = some y) (hij : i ≠ j)
    (hx : X.env.scope.names.lookup x = some .local) (hy : X.env.scope.names.lookup y = some .local) (ha : MA X [e1, e2] mr)
    (hw : swappedStores [.Tuple [.Name x px, .Name y py] kt pt] (.Tuple [e1, e2] k2 pt2) X.env = pure (some [x, y]))
    (hs : swapsWithSole [.Tuple [.Name x px, .Name y py] kt pt] (.Tuple [e1, e2] k2 pt2) pos.line X.env = pure false := by rfl) :
    MS X (.Assign [.Tuple [.Name x px, .Name y py] kt pt] (.Tuple [e1, e2] k2 pt2) pos) (mPar i j mr) := PS.of (ps_par hc hN hi hj hij hx hy ha hw hs) fun D σ H ⟨E, τ, M, B, h, w, sl, g⟩ => by
  refine ⟨τ, M, B, _, h, w, sl, fun v t M1 B1 H1 h1 w1 e1 r1 => ?_⟩
  split at h1
  · obtain ⟨v, u, rfl, r2, r3⟩ := paired_two r1
    exact ⟨v, u, rfl, g.nx _ M1 B1 _ H1 h1 w1 e1 (((sl.mono e1).set i r2).set j r3)⟩
  · exact h1.elim
def gN (i : Nat) : Mg := fun t τ M Q => Q (τ.set i (some t)) M
abbrev Mgs := List PyData → En → Mem → (En → Mem → Prop) → Prop
def gsNil : Mgs := fun xs τ M Q => xs = [] ∧ Q τ M
def gsCons (g : Mg) (r : Mgs) : Mgs := fun xs τ M Q => match xs with
  | x :: ys => g (.d x) τ M fun τ1 M1 => r ys τ1 M1 Q
  | [] => False
def gTu (n : Nat) (r : Mgs) : Mg := fun t τ M Q => match t with
  | .d (.tuple xs) => xs.length = n ∧ r xs τ M Q
  | .wt xs => xs.length = n ∧ r xs τ M Q
  | _ => False
theorem PGs.of {es : List Expr} {t t' : TGs} (h : PGs X es t) (w : ∀ v σ H Q, t' v σ H Q → t v σ H Q) : PGs X es t' := ⟨fun _ _ _ _ _ _ _ iv rv q => h.run _ _ _ _ _ _ _ iv rv (w _ _ _ _ q)⟩
variable {gr : Mgs} {es : List Expr}
theorem mg_name {i : Nat} {x : Str} (hN : X.N.Nodup) (hi : X.N[i]? = some x) (hx : Loc X.env.scope x) (hf : X.fn x = true ∨ X.env.scope.names.lookup x = some .local := by first | exact .inl rfl | exact .inr rfl | assumption) : MG X (.Name x pos) [i] (gN i) :=
  PG.of (pg_name hN hi hx hf) fun v σ H Q' ⟨t, τ, M, B, Q, h, w, s, r, k⟩ => k _ M B _ H h w (.refl _ _) (s.set i r) ⟨List.length_set, fun j n => List.getElem?_set_ne fun z => n (by simp [z])⟩
end
abbrev Mi := En → Mem → (List T → Mem → Prop) → Prop
/-- J gives the trees ts, one after another, while what is frozen in G stands -/
def WalkT (K : PySem.W.Frag) (B : Bk) (J : It) (ts : List T) : Prop := Walk J ts.length (fun H => ∀ a o, B.G a = some o → H a = some o) fun i H x H' =>
  (H' = H ∧ ∃ t, ts[i]? = some t ∧ Rt K B x t) ∨ ∃ p vs ds u, x = .ref p ∧ H p = none ∧ H' = upd H p u ∧ RpA K B.G vs ds ∧ (u = .tup vs ∧ ts[i]? = some (.wt ds) ∨ ∃ o : Obj, o.dict = none ∧ u = .frz o (.tup vs) ∧ ts[i]? = some (.d (.tuple ds)))
def rI (K : PySem.W.Frag) (m : Mi) : TI := fun σ H R => ∃ τ M B Q, m τ M Q ∧ Wd K B M H ∧ Sl K B σ τ ∧ ∀ ts M' B' H' J, Q ts M' → Wd K B' M' H' → Ext B H B' H' → WalkT K B' J ts → R J H'
abbrev MI (X : Cx) (tg iter : Expr) (m : Mi) : Prop := PI X tg iter (rI X.K m)
theorem PI.of {X : Cx} {tg iter : Expr} {t t' : TI} (h : PI X tg iter t) (w : ∀ σ H Q, t' σ H Q → t σ H Q) : PI X tg iter t' := ⟨fun _ _ _ _ _ iv q => h.run _ _ _ _ _ iv (w _ _ _ q)⟩
section
variable {X : Cx} {e c tg : Expr} {m : Me} {mr : Ma} {pos : Pos}
/-- a list or a tuple that never changes -/
def iSeq (m : Me) : Mi := fun τ M Q => m τ M fun t M1 => match t with
  | .d (.list xs) => Q (xs.map T.d) M1
  | .d (.tuple xs) => Q (xs.map T.d) M1
  | .scr ns => Q (ns.map T.int) M1
  | _ => False
theorem mapd_get {xs : List PyData} {i : Nat} {x : PyData} (e : xs[i]? = some x) : (xs.map T.d)[i]? = some (.d x) := by
  rw [List.getElem?_map, e]
  rfl
theorem walkT_l {K : PySem.W.Frag} {B : Bk} {a : Addr} {vs : List V} {ds : List PyData} (e : SqL K B.G a vs) (q : RpA K B.G vs ds) : WalkT K B (Itl K a) (ds.map T.d) := by
  unfold WalkT
  rw [List.length_map, ← RpA.length q]
  refine walk_list.mono (fun H g => SqL.mono g e) fun i H x H' hi g y => .inl ⟨y.1, ?_⟩
  have hd : i < ds.length := by rw [← RpA.length q]; exact hi
  obtain ⟨u, h1, h2⟩ := RpA.get q (List.getElem?_eq_getElem hd)
  refine ⟨_, mapd_get (List.getElem?_eq_getElem hd), ?_⟩
  rw [y.2] at h1
  cases h1
  exact h2
theorem walkT_t {K : PySem.W.Frag} {B : Bk} {a : Addr} {vs : List V} {ds : List PyData} (e : SqT K B.G a vs) (q : RpA K B.G vs ds) : WalkT K B (Itt K a) (ds.map T.d) := by
  unfold WalkT
  rw [List.length_map, ← RpA.length q]
  refine walk_tup.mono (fun H g => SqT.mono0 g e) fun i H x H' hi g y => .inl ⟨y.1, ?_⟩
  have hd : i < ds.length := by rw [← RpA.length q]; exact hi
  obtain ⟨u, h1, h2⟩ := RpA.get q (List.getElem?_eq_getElem hd)
  refine ⟨_, mapd_get (List.getElem?_eq_getElem hd), ?_⟩
  rw [y.2] at h1
  cases h1
  exact h2
/-- a list's, a tuple's iterator has come -/
theorem pie_l {pn : List (Addr × Obj)} {sg : L2.St} {hp : Hp} {sh : Shared} {a : Addr} {vs : List V} {R : It → Hp → Prop} (iv : Inv X pn sg hp sh) (hq : SqL X.K hp a vs) (hR : R (Itl X.K a) hp) :
    wpAny (model X.prog X.w) X.A (pyIter (.ref a)) (PIE X pn sg tg R) X.xe sh := by
  obtain ⟨its, _, pl, _⟩ := iv.list hq
  refine wpAny_pyIter_list pl.isList ?_
  refine ⟨sh.heap.objs.size, [sh.heap.objs.size], _, _, hp, rfl, ?_, turn_list a _, ?_, fun b mb => ?_, hR⟩
  · exact iv.kept (t' := sh.toks) fun _ _ z => Heap.get?_push_of_some _ z
  · exact ⟨_, Heap.get?_push_size _ rfl, rfl, rfl⟩
  · obtain rfl : b = sh.heap.objs.size := List.mem_singleton.mp mb
    exact iv.fpOk (Nat.le_refl _) (iv.hok.fresh (Nat.le_refl _))
theorem pie_t {pn : List (Addr × Obj)} {sg : L2.St} {hp : Hp} {sh : Shared} {a : Addr} {vs : List V} {R : It → Hp → Prop} (iv : Inv X pn sg hp sh) (hq : SqT X.K hp a vs) (hR : R (Itt X.K a) hp) :
    wpAny (model X.prog X.w) X.A (pyIter (.ref a)) (PIE X pn sg tg R) X.xe sh := by
  obtain ⟨its, _, pl, _⟩ := iv.tuple hq
  refine wpAny_pyIter_tuple (items := its.toArray) pl ?_
  refine ⟨sh.heap.objs.size, [sh.heap.objs.size], _, _, hp, rfl, ?_, turn_tuple a _, ?_, fun b mb => ?_, hR⟩
  · exact iv.kept (t' := sh.toks) fun _ _ z => Heap.get?_push_of_some _ z
  · exact ⟨_, Heap.get?_push_size _ rfl, rfl, rfl⟩
  · obtain rfl : b = sh.heap.objs.size := List.mem_singleton.mp mb
    exact iv.fpOk (Nat.le_refl _) (iv.hok.fresh (Nat.le_refl _))
theorem mi_seq (he : ME X e m) : MI X tg e (iSeq m) := by
  refine ⟨fun pn sh sg hp R iv ⟨τ, M, B, Q, h, w, s, k⟩ => ?_⟩
  let P := fun (x : V) (H1 : Hp) => ∃ t M1 B1, (match t with | .d (.list xs) => Q (xs.map T.d) M1 | .d (.tuple xs) => Q (xs.map T.d) M1 | .scr ns => Q (ns.map T.int) M1 | _ => False) ∧ Wd X.K B1 M1 H1 ∧ Ext B hp B1 H1 ∧ Rt X.K B1 x t
  refine thn (he.run pn sh sg hp P iv ⟨τ, M, B, _, h, w, s, fun v t M1 B1 H1 h1 w1 e1 r1 => ⟨t, M1, B1, h1, w1, e1, r1⟩⟩) fun v s1 ⟨x, H1, i1, rx, t, M1, B1, h1, w1, e1, r1⟩ => ?_
  split at h1
  · cases r1 with
    | lst e q =>
      cases rx
      exact pie_l i1 (.of (w1.le _ _ e)) (k _ M1 B1 H1 _ h1 w1 e1 (walkT_l (.of e) q))
  · cases r1 with
    | tup e q =>
      cases rx
      exact pie_t i1 (SqT.mono w1.le e) (k _ M1 B1 H1 _ h1 w1 e1 (walkT_t e.t q))
  · obtain ⟨a, rfl, e⟩ := r1
    cases rx
    refine pie_l i1 (SqL.mono w1.le e) (k _ M1 B1 H1 _ h1 w1 e1 ?_)
    have := walkT_l (K := X.K) (B := B1) e (RpA.of_ints _)
    rw [List.map_map] at this
    exact this
  · exact h1.elim
/-- range(n) -/
def rangeT (n : Nat) : List T := (List.range n).map fun (i : Nat) => T.int (i : Int)
def iRange (r : Ma) : Mi := fun τ M Q => r τ M fun ts M1 => match ts with
  | [.d (.int j)] => (-(2 ^ 62) ≤ j ∧ j < 2 ^ 62) ∧ Q (rangeT j.toNat) M1
  | _ => False
theorem mi_range {a : Expr} {p : Pos} (hg : Gl X "range") (hm : X.mg "range" = none) (ha : MA X [a] mr) (hs : starEach [a] X.env = [(false, eval a X.env)] := by rfl) : MI X tg (.Call (.Name "range" p) [a] [] pos) (iRange mr) := PI.of (pi_range1 hg hm ha hs) fun σ H R ⟨τ, M, B, Q, h, w, s, k⟩ => by
  refine ⟨τ, M, B, _, h, w, s, fun v t M1 B1 H1 h1 w1 e1 r1 => ?_⟩
  split at h1
  · obtain ⟨v, rfl, r⟩ := paired_one r1
    cases r
    rename_i j
    refine ⟨j, rfl, h1.1.1, h1.1.2, k _ M1 B1 H1 _ h1.2 w1 e1 ?_⟩
    unfold WalkT rangeT
    rw [List.length_map, List.length_range]
    refine walk_range.mono (fun _ _ => trivial) fun i H x H' hi _ y => .inl ⟨y.1, T.int (i : Int), ?_, ?_⟩
    · rw [List.getElem?_map, List.getElem?_range hi]
      rfl
    · rw [y.2]
      show Rt X.K B1 (.int (0 + (i : Int))) (T.int (i : Int))
      rw [Int.zero_add]
      exact .int _
  · exact h1.elim
def goFor (g : Mg) (b : Ms) (E : Es) : List T → En → Mem → Prop
  | [], τ, M => E.nx τ M
  | t :: ts, τ, M => g t τ M fun τ1 M1 => b { E with nx := goFor g b E ts, ct := goFor g b E ts, bk := E.nx } τ1 M1
def mFor (i : Mi) (g : Mg) (b : Ms) : Ms := fun E τ M => i τ M fun ts M1 => goFor g b E ts τ M1
theorem drop_at {α : Type} {l : List α} {i : Nat} (h : i < l.length) : l.drop i = l[i] :: l.drop (i + 1) := List.drop_eq_getElem_cons h
/-- what is given at a turn is in the world -/
theorem WalkT.step {K : PySem.W.Frag} {B1 B2 : Bk} {M2 : Mem} {H1 H2 H3 : Hp} {ts : List T} {i : Nat} {x : V} (hi : i < ts.length) (w2 : Wd K B2 M2 H2) (e2 : Ext B1 H1 B2 H2)
    (y : (H3 = H2 ∧ ∃ t, ts[i]? = some t ∧ Rt K B1 x t) ∨ ∃ p vs ds u, x = .ref p ∧ H2 p = none ∧ H3 = upd H2 p u ∧ RpA K B1.G vs ds ∧ (u = .tup vs ∧ ts[i]? = some (.wt ds) ∨ ∃ o : Obj, o.dict = none ∧ u = .frz o (.tup vs) ∧ ts[i]? = some (.d (.tuple ds)))) :
    ∃ B3, Wd K B3 M2 H3 ∧ Ext B2 H2 B3 H3 ∧ Rt K B3 x ts[i] := by
  have hg : ts[i]? = some ts[i] := List.getElem?_eq_getElem hi
  rcases y with ⟨rfl, t, h1, h2⟩ | ⟨p, vs, ds, u, rfl, h1, rfl, h2, ⟨rfl, h3⟩ | ⟨o, ho, rfl, h3⟩⟩
  · rw [hg] at h1
    cases h1
    exact ⟨B2, w2, .refl _ _, Rt.mono e2 h2⟩
  · rw [hg] at h3
    obtain ⟨w3, e3⟩ := w2.alloc h1 (.tup vs)
    refine ⟨_, w3, e3, ?_⟩
    rw [Option.some.inj h3]
    exact ⟨p, vs, rfl, .inl (.inl upd_same), RpA.mono e3.g (RpA.mono e2.g h2)⟩
  · rw [hg] at h3
    obtain ⟨w3, e3⟩ := w2.alloc h1 (.frz o (.tup vs))
    refine ⟨_, w3, e3, ?_⟩
    rw [Option.some.inj h3]
    exact .tup (.inl ⟨o, upd_same, ho⟩) (RpA.mono e3.g (RpA.mono e2.g h2))
theorem ms_for {os : List Nat} {body : List Stmt} {i : Mi} {g : Mg} {b : Ms} (hp : PassesOwn (model X.prog X.w) X.A X.env X.xe) (hc : X.calm = true) (hi : MI X tg e i) (hg : MG X tg os g) (hb : MSs X body b)
    (hs : ∀ x, foldedSetIterable e X.env x = pure x := by intro _; rfl) : MS X (.For tg e body [] pos) (mFor i g b) := PS.of (ps_for hp hc hi hg hb hs) fun D σ H ⟨E, τ, M, B, h, w, sl, go⟩ => by
  refine ⟨τ, M, B, _, h, w, sl, fun ts M1 B1 H1 J h1 w1 e1 W => ?_⟩
  refine for_it W (fun i σ2 H2 => ∃ τ2 M2 B2, goFor g b E (ts.drop i) τ2 M2 ∧ Wd X.K B2 M2 H2 ∧ Sl X.K B2 σ2 τ2 ∧ Ext B1 H1 B2 H2) ⟨τ, M1, B1, h1, w1, sl.mono e1, .refl _ _⟩ ?_ ?_ ?_
  · rintro i σ2 H2 _ ⟨τ2, M2, B2, _, w2, _, e2⟩ a o z
    exact w2.le a o (e2.g a o z)
  · rintro i x σ2 H2 H3 hi ⟨τ2, M2, B2, h2, w2, s2, e2⟩ y
    obtain ⟨B3, w3, e3, r3⟩ := WalkT.step hi w2 e2 y
    rw [drop_at hi] at h2
    refine ⟨ts[i], τ2, M2, B3, _, h2, w3, s2.mono e3, r3, fun τ4 M4 B4 σ4 H4 h4 w4 e4 s4 _ => ?_⟩
    have e14 := e2.trans (e3.trans e4)
    refine ⟨_, τ4, M4, B4, h4, w4, s4, ⟨?_, ?_, ?_, ?_⟩⟩
    · exact fun τ5 M5 B5 σ5 H5 q w5 e5 s5 => ⟨τ5, M5, B5, q, w5, s5, e14.trans e5⟩
    · exact fun v t M5 B5 H5 q w5 e5 r5 => go.rt v t M5 B5 H5 q w5 (e1.trans (e14.trans e5)) r5
    · exact fun τ5 M5 B5 σ5 H5 q w5 e5 s5 => go.nx τ5 M5 B5 σ5 H5 q w5 (e1.trans (e14.trans e5)) s5
    · exact fun τ5 M5 B5 σ5 H5 q w5 e5 s5 => ⟨τ5, M5, B5, q, w5, s5, e14.trans e5⟩
  · rintro σ2 H2 ⟨τ2, M2, B2, h2, w2, s2, e2⟩
    rw [List.drop_length] at h2
    exact go.nx τ2 M2 B2 σ2 H2 h2 w2 (e1.trans e2) s2
def goLc (g : Mg) (c : Mb) (m : Me) (τ0 : En) (Q : List PyData → Mem → Prop) : List T → List PyData → Mem → Prop
  | [], acc, M => Q acc M
  | t :: ts, acc, M => g t τ0 M fun τ1 M1 => c τ1 M1 fun k M2 => if k = true then m τ1 M2 fun y M3 => (match y with
      | .d z => acc.length < sizeLine ∧ goLc g c m τ0 Q ts (acc ++ [z]) M3
      | _ => False) else goLc g c m τ0 Q ts acc M2
def mLc (i : Mi) (g : Mg) (c : Mb) (m : Me) (vs : List Nat) : Me := fun τ M Q => i τ M fun ts M1 => goLc g c m (wipeT τ vs) (fun acc M2 => Q (.lst acc) M2) ts [] M1
def bYes : Mb := fun _ M Q => Q true M
abbrev MTs (X : Cx) (ifs : List Expr) (c : Mb) : Prop := PTs X ifs (rB X.K c)
theorem PTs.of {ifs : List Expr} {t t' : TT} (h : PTs X ifs t) (w : ∀ σ H Q, t' σ H Q → t σ H Q) : PTs X ifs t' := ⟨fun _ _ _ _ _ iv q => h.run _ _ _ _ _ iv (w _ _ _ q)⟩
theorem mts_nil : MTs X [] bYes := PTs.of pts_nil fun σ H Q' ⟨τ, M, B, Q, h, w, s, k⟩ => k _ M B H h w (.refl _ _)
theorem mts_one {mc : Mb} (h : MB X c mc) : MTs X [c] mc := pts_one h
theorem Ext.adoptG {B B2 : Bk} {H H2 : Hp} {p : Addr} {o : HO} (hp : H p = none) (x : Ext B H B2 H2) : Ext B H { B2 with G := upd B2.G p o } H2 ∨ B2.G p ≠ none := by
  by_cases z : B2.G p = none
  · refine .inl ⟨fun a u e => ?_, x.r, x.l, x.fr, x.tr, x.rn, x.ln, fun a u e => ?_⟩
    · exact upd_keep z a u (x.g a u e)
    · have e' : upd B2.G p o a = some u := e
      by_cases y : a = p
      · rw [y]
        exact .inr (.inl hp)
      · rw [upd_ne y] at e'
        exact x.gf a u e'
  · exact .inr z
theorem lc_gen {K : PySem.W.Frag} {i : Mi} {g : Mg} {os : List Nat} {mc : Mb} {vs0 : List Nat} {σ : L2.St} {H : Hp} {Q' : VK} {τ : En} {M : Mem} {B : Bk} {Qf : List PyData → Mem → Prop} (sub : ∀ j ∈ os, j ∈ vs0)
    (h : i τ M fun ts M1 => goLc g mc m (wipeT τ vs0) Qf ts [] M1) (w : Wd K B M H) (sl : Sl K B σ τ)
    (k : ∀ (D : Addr) (acc : List PyData) (vs : List V) (M2 : Mem) (B2 : Bk) (H2 : Hp), Qf acc M2 → H D = none → Wd K B2 M2 H2 → Ext B H B2 H2 → H2 D = some (.lst vs) → RpA K B2.G vs acc → B2.G D = none → D ∉ B2.r → D ∉ B2.l → Q' (.ref D) H2) :
    tLc (rI K i) (rG K os g) (rB K mc) (rE K m) vs0 σ H Q' := by
  refine ⟨τ, M, B, _, h, w, sl, fun ts M1 B1 H1 J h1 w1 e1 W D hD => ?_⟩
  obtain ⟨dG, dr, dl⟩ := w1.fresh hD
  have sw := (sl.mono e1).wipe vs0
  refine lc_it W (fun i H2 => ∃ acc vs M2 B2, goLc g mc m (wipeT τ vs0) Qf (ts.drop i) acc M2 ∧ Wd K B2 M2 H2 ∧ Ext B1 H1 B2 H2 ∧ H2 D = some (.lst vs) ∧ RpA K B2.G vs acc ∧ B2.G D = none ∧ D ∉ B2.r ∧ D ∉ B2.l) ?_ ?_ ?_ ?_
  · exact ⟨[], [], M1, B1, h1, w1.side hD _, .side hD _, upd_same, .nil, dG, dr, dl⟩
  · rintro i H2 _ ⟨acc, vs, M2, B2, _, w2, e2, _⟩ a o z
    exact w2.le a o (e2.g a o z)
  · rintro i x H2 H3 hlt ⟨acc, vs, M2, B2, h2, w2, e2, d2, r2, g2, n2, l2⟩ y
    obtain ⟨B3, w3, e3, r3⟩ := WalkT.step hlt w2 e2 y
    rw [drop_at hlt, goLc] at h2
    have keepD : ∀ {B4 : Bk} {H4 : Hp}, Ext B2 H2 B4 H4 → H4 D = some (.lst vs) ∧ B4.G D = none ∧ D ∉ B4.r ∧ D ∉ B4.l := fun {B4 H4} e4 => by
      refine ⟨e4.fr D _ d2 n2 l2, ?_, fun z => ?_, fun z => ?_⟩
      · cases q : B4.G D with
        | none => rfl
        | some o =>
          rcases e4.gf D o q with z | z | z
          · rw [g2] at z; cases z
          · rw [d2] at z; cases z
          · exact absurd z l2
      · rcases e4.rn D z with q | q
        · exact n2 q
        · rw [d2] at q; cases q
      · rcases e4.ln D z with q | q
        · exact l2 q
        · rw [d2] at q; cases q
    refine ⟨ts[i], wipeT τ vs0, M2, B3, _, h2, w3, (sw.mono e2).mono e3, r3, fun τ4 M4 B4 σ4 H4 h4 w4 e4 s4 a4 => ⟨a4.wipe sub, ?_⟩⟩
    refine ⟨τ4, M4, B4, _, h4, w4, s4, fun k5 M5 B5 H5 h5 w5 e5 => ?_⟩
    have e25 := e3.trans (e4.trans e5)
    cases k5 with
    | false =>
      obtain ⟨q1, q2, q3, q4⟩ := keepD e25
      exact ⟨acc, vs, M5, B5, h5, w5, e2.trans e25, q1, RpA.mono e25.g r2, q2, q3, q4⟩
    | true =>
      refine ⟨τ4, M5, B5, _, h5, w5, s4.mono e5, fun v t M6 B6 H6 h6 w6 e6 r6 => ?_⟩
      split at h6
      · have e26 := e25.trans e6
        obtain ⟨q1, q2, q3, q4⟩ := keepD e26
        refine ⟨vs, q1, by rw [RpA.length r2]; exact h6.1, acc ++ [_], vs ++ [v], M6, B6, h6.2, ?_, ?_, upd_same, RpA.append (RpA.mono e26.g r2) (.cons r6 .nil), q2, q3, q4⟩
        · -- the world does not know D
          refine ⟨fun a u z => ?_, w6.rlen, w6.llen, w6.nd, fun j a c z1 z2 => ?_, fun j a ds z1 z2 => ?_, fun a ha => ?_⟩
          · rw [upd_ne (ne_of_none z q2)]
            exact w6.le a u z
          · obtain ⟨p1, p2⟩ := w6.dc j a c z1 z2
            exact ⟨p1, CellAt.mono (fun _ _ e => e) (List.prefix_refl _) (upd_ne fun z => q3 (by rw [← z]; exact mem_of_get z1)) p2⟩
          · obtain ⟨p1, xs, p2, p3⟩ := w6.lc j a ds z1 z2
            exact ⟨p1, xs, (upd_ne fun z => q4 (by rw [← z]; exact mem_of_get z1)).trans p2, p3⟩
          · rw [upd_ne fun z => ?_]
            · exact w6.tr a ha
            · rw [z] at ha
              exact (List.mem_append.mp ha).elim q3 q4
        · have x6 := e2.trans e26
          refine ⟨x6.g, x6.r, x6.l, fun a u z n1 n2 => ?_, fun a z => ?_, x6.rn, x6.ln, x6.gf⟩
          · rw [upd_ne (ne_of_none z hD)]
            exact x6.fr a u z n1 n2
          · by_cases q : a = D
            · rw [q]
              exact hD
            · rw [upd_ne q] at z
              exact x6.tr a z
      · exact h6.elim
  · rintro H2 ⟨acc, vs, M2, B2, h2, w2, e2, d2, r2, g2, n2, l2⟩
    rw [List.drop_length] at h2
    exact k D acc vs M2 B2 H2 h2 (e1.tr D hD) w2 (e1.trans e2) d2 r2 g2 n2 l2
theorem lc_of {K : PySem.W.Frag} {i : Mi} {g : Mg} {os : List Nat} {mc : Mb} {vs0 : List Nat} {σ : L2.St} {H : Hp} {Q' : VK} (sub : ∀ j ∈ os, j ∈ vs0) (h : rE K (mLc i g mc m vs0) σ H Q') : tLc (rI K i) (rG K os g) (rB K mc) (rE K m) vs0 σ H Q' := by
  obtain ⟨τ, M, B, Q, h, w, sl, k⟩ := h
  refine lc_gen sub h w sl fun D acc vs M2 B2 H2 h2 hD w2 e2 d2 r2 g2 n2 l2 => ?_
  rcases Ext.adoptG (o := .lst vs) hD e2 with x | x
  · exact k _ _ M2 _ H2 h2 (w2.adoptG g2 n2 l2 d2) x (.lst upd_same (RpA.mono (upd_keep g2) r2))
  · exact absurd g2 x
/-- .. as a list of the frame's own -/
def mLcL (i : Mi) (g : Mg) (c : Mb) (m : Me) (vs : List Nat) : Me := fun τ M Q => i τ M fun ts M1 => goLc g c m (wipeT τ vs) (fun acc M2 => Q (.lr M2.L.length) { M2 with L := M2.L ++ [some acc] }) ts [] M1
theorem Wd.adoptL {K : PySem.W.Frag} {B : Bk} {M : Mem} {H : Hp} (w : Wd K B M H) {p : Addr} (hG : B.G p = none) (hr : p ∉ B.r) (hl : p ∉ B.l) {xs : List V} {ds : List PyData} (hH : H p = some (.lst xs)) (q : RpA K B.G xs ds) :
    Wd K { B with l := B.l ++ [p] } { M with L := M.L ++ [some ds] } H := by
  refine ⟨w.le, w.rlen, by simp [w.llen], ?_, w.dc, fun i a es h1 h2 => ?_, fun a ha => ?_⟩
  · show (B.r ++ (B.l ++ [p])).Nodup
    rw [← List.append_assoc]
    exact nodup_snoc w.nd fun z => (List.mem_append.mp z).elim hr hl
  · have h1' : (B.l ++ [p])[i]? = some a := h1
    have h2' : (M.L ++ [some ds])[i]? = some (some es) := h2
    rcases Nat.lt_or_ge i B.l.length with z | z
    · rw [List.getElem?_append_left z] at h1'
      rw [List.getElem?_append_left (by rw [← w.llen]; exact z)] at h2'
      exact w.lc i a es h1' h2'
    · rw [List.getElem?_append_right z] at h1'
      rw [List.getElem?_append_right (by rw [← w.llen]; exact z), ← w.llen] at h2'
      cases j : i - B.l.length with
      | succ k => rw [j] at h1'; simp at h1'
      | zero =>
        rw [j] at h1' h2'
        simp only [List.getElem?_cons_zero, Option.some.injEq] at h1' h2'
        subst h1'
        subst h2'
        exact ⟨hG, xs, hH, q⟩
  · have ha' : a ∈ B.r ++ (B.l ++ [p]) := ha
    rw [← List.append_assoc] at ha'
    rcases List.mem_append.mp ha' with z | z
    · exact w.tr a z
    · rw [List.mem_singleton] at z
      rw [z, hH]
      exact fun q => nomatch q
theorem lc_ofL {K : PySem.W.Frag} {i : Mi} {g : Mg} {os : List Nat} {mc : Mb} {vs0 : List Nat} {σ : L2.St} {H : Hp} {Q' : VK} (sub : ∀ j ∈ os, j ∈ vs0) (h : rE K (mLcL i g mc m vs0) σ H Q') : tLc (rI K i) (rG K os g) (rB K mc) (rE K m) vs0 σ H Q' := by
  obtain ⟨τ, M, B, Q, h, w, sl, k⟩ := h
  refine lc_gen sub h w sl fun D acc vs M2 B2 H2 h2 hD w2 e2 d2 r2 g2 n2 l2 => ?_
  refine k _ _ _ { B2 with l := B2.l ++ [D] } H2 h2 (w2.adoptL g2 n2 l2 d2 r2) ⟨e2.g, e2.r, e2.l.trans (List.prefix_append _ _), e2.fr, e2.tr, e2.rn, fun a z => ?_, e2.gf⟩ ⟨D, rfl, by rw [← w2.llen]; exact get_snoc⟩
  rcases List.mem_append.mp z with y | y
  · exact e2.ln a y
  · rw [List.mem_singleton] at y
    rw [y]
    exact .inr hD
section
variable {elt : Expr} {ifs : List Expr} {scope : Scope} {own : List (Str × Nat)} {i : Mi} {g : Mg} {os : List Nat} {mc : Mb}
theorem me_lc (hc : X.calm = true) (hN : X.N.Nodup) (hi : MI X tg e i) (ok : BlkOk X.N X.env.scope scope own)
    (hg : ∀ (s : Shared) (H : Hp) (C : Addr) (cl : List (Str × Addr)) (fp : List Addr), MG (X.blk s H scope (compEnvC scope cl C X.env) fp) tg os g) (ht : ∀ (s : Shared) (H : Hp) (C : Addr) (cl : List (Str × Addr)) (fp : List Addr), MTs (X.blk s H scope (compEnvC scope cl C X.env) fp) ifs mc)
    (he : ∀ (s : Shared) (H : Hp) (C : Addr) (cl : List (Str × Addr)) (fp : List Addr), ME (X.blk s H scope (compEnvC scope cl C X.env) fp) elt m) (sub : ∀ j ∈ os, j ∈ own.map (·.2)) (hs : ∀ x, foldedSetIterable e X.env x = pure x := by intro _; rfl) :
    ME X (.ListComp elt [⟨tg, e, ifs, 0⟩] scope pos) (mLc i g mc m (own.map (·.2))) := PE.of (pe_lc (te := rE X.K m) (tt := rB X.K mc) (g := rG X.K os g) hc hN hi ok hg ht he hs) fun _ _ _ h => lc_of sub h
variable {n : Nat} {y : Str} {py spos : Pos}
theorem ms_setLcL (hc : X.calm = true) (hN : X.N.Nodup) (hy : X.N[n]? = some y) (hyl : X.env.scope.names.lookup y = some .local)
    (hsw : swapsWith (.ListComp elt [⟨tg, e, ifs, 0⟩] scope pos) (some (.Name y py)) spos.line X.env = pure true) (hi : MI X tg e i) (ok : BlkOk X.N X.env.scope scope own)
    (hg : ∀ (s : Shared) (H : Hp) (C : Addr) (cl : List (Str × Addr)) (fp : List Addr), MG (X.blk s H scope (compEnvC scope cl C X.env) fp) tg os g) (ht : ∀ (s : Shared) (H : Hp) (C : Addr) (cl : List (Str × Addr)) (fp : List Addr), MTs (X.blk s H scope (compEnvC scope cl C X.env) fp) ifs mc)
    (he : ∀ (s : Shared) (H : Hp) (C : Addr) (cl : List (Str × Addr)) (fp : List Addr), ME (X.blk s H scope (compEnvC scope cl C X.env) fp) elt m) (sub : ∀ j ∈ os, j ∈ own.map (·.2)) (hs : ∀ x, foldedSetIterable e X.env x = pure x := by intro _; rfl) :
    MS X (.Assign [.Name y py] (.ListComp elt [⟨tg, e, ifs, 0⟩] scope pos) spos) (mSet n (mLcL i g mc m (own.map (·.2)))) := PS.of (L2.ps_setLc (te := rE X.K m) (tt := rB X.K mc) (g := rG X.K os g) hc hN hy hyl hsw hi ok hg ht he hs) fun D σ H ⟨E, τ, M, B, h, w, sl, go⟩ =>
  lc_ofL sub ⟨τ, M, B, _, h, w, sl, fun v t M1 B1 H1 h1 w1 e1 r1 => go.nx _ M1 B1 _ H1 h1 w1 e1 ((sl.mono e1).set n r1)⟩
end
end
end L3
set_option Elab.async false
set_option linter.all false
set_option maxRecDepth 100000
namespace L3
open PySem PySem.Spec L2
def Gd (A : Around) : Prop := A.guards = some []
structure FnG (P : Program) (w : World) (K : PySem.W.Frag) (mg : Str → Option Value) (base : Heap) (k : Nat) (f : Addr) (fd : FuncData) (ps : List Str) (sp : Sp) : Prop where
  len : ∀ vs H Q E, sp vs H Q E → vs.length = ps.length
  run : ∀ (A : Around) (outer : List Env) (sh : Shared) (H : Hp) (args : Args) (us : List Value) (vs : List V) (Q : VK) (E : XK), Gd A → Room k A → Env0 P w K mg base A outer sh H → BindsTo sh fd args (ps.zip us) → Vals vs us → sp vs H Q E →
    codeAny (model P w) A (.call (.ref f) args) (CR CX0 outer P w H sh Q E) sh
theorem FnG.mono {P : Program} {w : World} {K : PySem.W.Frag} {mg : Str → Option Value} {base : Heap} {j k : Nat} {f : Addr} {fd : FuncData} {ps : List Str} {sp : Sp} (F : FnG P w K mg base j f fd ps sp) (h : j ≤ k) : FnG P w K mg base k f fd ps sp :=
  ⟨F.len, fun A outer sh H args us vs Q E gd rm => F.run A outer sh H args us vs Q E gd (rm.mono h)⟩
theorem fng_of {P : Program} {w : World} {K : PySem.W.Frag} {mg : Str → Option Value} {base : Heap} {x qual : Str} {st : Stmt} {f : Addr} {fd : FuncData} {N ps : List Str} {k : Nat} {sp : Sp}
    (F : Fun K x qual st f fd) (S : FnScope N ps (defScope st)) (len : ∀ vs H Q E, sp vs H Q E → vs.length = ps.length)
    (body : ∀ (cdv : Value) (A : Around) (outer : List Env) (sh : Shared) (H : Hp) (vs : List V) (Q : VK) (E : XK), Gd (A.deeper (PyProof.Rows.envOfC qual (defScope st) sh.heap.objs.size f cdv)) → Room k (A.deeper (PyProof.Rows.envOfC qual (defScope st) sh.heap.objs.size f cdv)) → sp vs H Q E →
      ∃ t, PSs (cxOf CX0 P w K mg base N qual (defScope st) f cdv A outer sh H E).nox (defBody st) t ∧ t { nx := fun _ H' => Q .non H', rt := Q } (start N vs) H) :
    FnG P w K mg base (k + 1) f fd ps sp := by
  obtain ⟨oc, od, kV, doc, pm, an, cdv, ct, osl, rfl, lk, hcd⟩ := F.ex
  refine ⟨len, fun A outer sh H args us vs Q E gd rm e0 bnd rv q => ?_⟩
  have hlen := len _ _ _ _ q
  have kin : K.In sh.heap := e0.mod.kin.keeps fun b o z => (e0.bs b o z).1
  have nolim : sh.heap.NoLimit := e0.mod.nolimit.keeps fun b o z => (e0.bs b o z).1
  have kinds : ∀ y ∈ ps.zip us, (defScope st).names.lookup y.1 = some .local ∨ ((defScope st).names.lookup y.1 = some .cell ∧ ((cellsFrom (sh.heap.objs.size + 1) (defScope st).names []).lookup y.1).isSome = true) := by
    rintro ⟨nm, vl⟩ hy
    exact (S.par nm (List.of_mem_zip hy).1).elim .inl fun z => .inr ⟨z, PySem.W.cellsFrom_some _ _ _ (.inl z)⟩
  refine codeAny_call_function rm.depth (kin _ _ lk) rfl S.co S.gen rfl (PySem.W.codeRec_of kin hcd) (bnd _ _ _ _ ?_)
  refine wpAny_newFunctionEnv_cells S.kind kinds fun env he sh1 xx => ?_
  subst he
  refine ⟨nolim.keeps xx.toInCall.keep, codeAny_func ?_⟩
  obtain ⟨t, ht, hq⟩ := body cdv A outer sh H vs Q E gd (rm.deeper _) q
  have iv := inv_start (CX := CX0) (E := E) S rm.hd e0 hlen rv xx
  refine wpAny_mono (ht.nox.run [] sh1 (start N vs) H _ iv hq) (fun fl sh' hs => ?_) fun _ _ hs => hs
  cases fl with
  | ret u =>
    obtain ⟨v, σ', H', J, r', q'⟩ := hs
    exact ⟨v, H', J.os, J.bare, J.base, J.hok, r', q'⟩
  | next =>
    obtain ⟨σ', H', J, q'⟩ := hs
    exact ⟨V.non, H', J.os, J.bare, J.base, J.hok, rfl, q'⟩
  | brk => obtain ⟨_, _, _, q'⟩ := hs; exact False.elim q'
  | cont => obtain ⟨_, _, _, q'⟩ := hs; exact False.elim q'
abbrev FD := List T → List Cell → (T → List Cell → Prop) → Prop
def spM (K : PySem.W.Frag) (m : FD) : Sp := fun vs H Q _ => ∃ ts D B Q1, m ts D Q1 ∧ Wd K B ⟨D, []⟩ H ∧ Paired (Rt K B) vs ts ∧ ∀ v t D' B' H', Q1 t D' → Wd K B' ⟨D', []⟩ H' → Ext B H B' H' → Rt K B' v t → Q v H'
/-- a def of n parameters and N names -/
def mDef (n N : Nat) (body : Ms) : FD := fun ts D Q => ts.length = n ∧ body { nx := fun _ M => Q .non M.D, rt := fun t M => noL t = true ∧ Q t M.D } (ts.map some ++ List.replicate (N - n) none) ⟨D, []⟩
theorem start_sl {K : PySem.W.Frag} {B : Bk} {N : List Str} {vs : List V} {ts : List T} (r : Paired (Rt K B) vs ts) : Sl K B (start N vs) (ts.map some ++ List.replicate (N.length - ts.length) none) := by
  have hl := paired_len r
  refine ⟨by simp [L2.start, hl], fun i t e => ?_⟩
  unfold L2.start
  by_cases hi : i < ts.length
  · rw [List.getElem?_append_left (by rw [List.length_map]; exact hi), List.getElem?_map] at e
    cases h : ts[i]? with
    | none => rw [h] at e; cases e
    | some u =>
      rw [h] at e
      cases e
      obtain ⟨v, h1, h2⟩ := paired_get r h
      exact ⟨v, by rw [List.getElem?_append_left (by rw [List.length_map, hl]; exact hi), List.getElem?_map, h1]; rfl, h2⟩
  · rw [List.getElem?_append_right (by rw [List.length_map]; omega), List.getElem?_replicate] at e
    split at e <;> cases e
/-- a frame's end: its own lists are forgotten -/
theorem Wd.leave {K : PySem.W.Frag} {B : Bk} {M : Mem} {H : Hp} (w : Wd K B M H) : Wd K { B with l := [] } ⟨M.D, []⟩ H :=
  ⟨w.le, w.rlen, rfl, by
    show (B.r ++ []).Nodup
    rw [List.append_nil]
    exact (List.nodup_append.mp w.nd).1, w.dc, fun i a ds h1 _ => by
    have h1' : ([] : List Addr)[i]? = some a := h1
    simp at h1', fun a ha => by
    have ha' : a ∈ B.r ++ [] := ha
    rw [List.append_nil] at ha'
    exact w.tr a (List.mem_append_left _ ha')⟩
theorem ok_def {P : Program} {w : World} {K : PySem.W.Frag} {mg : Str → Option Value} {base : Heap} {x qual : Str} {st : Stmt} {f : Addr} {fd : FuncData} {N ps : List Str} {k : Nat} {m : Ms}
    (F : Fun K x qual st f fd) (S : FnScope N ps (defScope st))
    (body : ∀ (cdv : Value) (A : Around) (outer : List Env) (sh : Shared) (H : Hp) (E : XK), Gd (A.deeper (PyProof.Rows.envOfC qual (defScope st) sh.heap.objs.size f cdv)) → Room k (A.deeper (PyProof.Rows.envOfC qual (defScope st) sh.heap.objs.size f cdv)) →
      MSs (cxOf CX0 P w K mg base N qual (defScope st) f cdv A outer sh H E).nox (defBody st) m) :
    FnG P w K mg base (k + 1) f fd ps (spM K (mDef ps.length N.length m)) := by
  refine fng_of F S (fun vs H Q E h => ?_) fun cdv A outer sh H vs Q E gd rm h => ?_
  · obtain ⟨ts, D, B, Q1, ⟨h1, _⟩, _, r, _⟩ := h
    exact (paired_len r).trans h1
  · obtain ⟨ts, D, B, Q1, ⟨h1, h2⟩, wd, r, kk⟩ := h
    refine ⟨_, body cdv A outer sh H E gd rm, ?_⟩
    have lB : B.l = [] := List.length_eq_zero_iff.mp wd.llen
    have s0 := start_sl (N := N) r
    rw [h1] at s0
    refine ⟨_, _, ⟨D, []⟩, B, h2, wd, s0, ⟨fun τ' M' B' σ' H' q w' e' s' => ?_, fun v t M' B' H' q w' e' r' => ?_, fun _ _ _ _ _ q => q.elim, fun _ _ _ _ _ q => q.elim⟩⟩
    · refine kk .non .non M'.D { B' with l := [] } H' q w'.leave ⟨e'.g, e'.r, ?_, e'.fr, e'.tr, e'.rn, fun a z => absurd z (by simp), e'.gf⟩ .non
      rw [lB]
      exact List.nil_prefix
    · refine kk v t M'.D { B' with l := [] } H' q.2 w'.leave ⟨e'.g, e'.r, ?_, e'.fr, e'.tr, e'.rn, fun a z => absurd z (by simp), e'.gf⟩ (r'.deck q.1)
      rw [lB]
      exact List.nil_prefix
def fDef (m : FD) : FA := fun ts M Q => (∀ t ∈ ts, noL t = true) ∧ m ts M.D fun t D' => Q t { M with D := D' }
theorem paired_deck {K : PySem.W.Frag} {B : Bk} : ∀ {vs : List V} {ts : List T}, Paired (Rt K B) vs ts → (∀ t ∈ ts, noL t = true) → Paired (Rt K { B with l := [] }) vs ts
  | _, _, .nil, _ => .nil
  | _, _, .cons p q, h => .cons (p.deck (h _ (List.mem_cons_self ..))) (paired_deck q fun t z => h t (List.mem_cons_of_mem _ z))
theorem sp_of {K : PySem.W.Frag} {m : FD} {vs : List V} {ts : List T} {M : Mem} {B : Bk} {H : Hp} {Q : Kt} {Q' : VK} {E : XK} (h : fDef m ts M Q) (w : Wd K B M H) (r : Paired (Rt K B) vs ts)
    (k : ∀ v t' M' B' H', Q t' M' → Wd K B' M' H' → Ext B H B' H' → Rt K B' v t' → Q' v H') : spM K m vs H Q' E := by
  refine ⟨ts, M.D, { B with l := [] }, _, h.2, w.leave, paired_deck r h.1, fun v t D' B1 H1 q w1 e1 r1 => ?_⟩
  have l1 : B1.l = [] := List.length_eq_zero_iff.mp w1.llen
  have own : ∀ a ∈ B.l, H a ≠ none := fun a z => w.tr a (List.mem_append_right _ z)
  have nr1 : ∀ a ∈ B.l, a ∉ B1.r := fun a z y => by
    rcases e1.rn a y with q | q
    · exact w.rl q z
    · exact own a z q
  have stay : ∀ {a : Addr} {o : HO}, a ∈ B.l → H a = some o → H1 a = some o := fun {a o} z e => e1.fr a o e (fun y => w.rl y z) fun y => by cases y
  have e' : Ext B H { B1 with l := B.l } H1 := ⟨e1.g, e1.r, List.prefix_refl _, fun a o e n1 n2 => e1.fr a o e n1 (by intro y; cases y), e1.tr, e1.rn, fun a z => .inl z, fun a o e => (e1.gf a o e).elim .inl fun z => z.elim (fun z => .inr (.inl z)) (by intro z; cases z)⟩
  refine k v t { M with D := D' } { B1 with l := B.l } H1 q ⟨w1.le, w1.rlen, w.llen, ?_, w1.dc, fun i a ds h1 h2 => ?_, fun a ha => ?_⟩ e' ?_
  · show (B1.r ++ B.l).Nodup
    have n1 := w1.nd
    rw [l1, List.append_nil] at n1
    refine List.nodup_append.mpr ⟨n1, (List.nodup_append.mp w.nd).2.1, fun x hx y hy z => ?_⟩
    subst z
    exact nr1 x hy hx
  · obtain ⟨q1, xs, q2, q3⟩ := w.lc i a ds h1 h2
    have ml := mem_of_get h1
    refine ⟨?_, xs, stay ml q2, RpA.mono e1.g q3⟩
    show B1.G a = none
    cases z : B1.G a with
    | none => rfl
    | some o =>
      rcases e1.gf a o z with y | y | y
      · rw [show B.G a = none from q1] at y; cases y
      · exact absurd y (own a ml)
      · cases y
  · have ha' : a ∈ B1.r ++ B.l := ha
    rcases List.mem_append.mp ha' with z | z
    · exact w1.tr a (List.mem_append_left _ z)
    · exact fun y => own a z (e1.tr a y)
  · cases t with
    | d x => exact r1
    | mr i => exact r1
    | lr i =>
      obtain ⟨a, _, z⟩ := r1
      rw [l1] at z
      simp at z
    | scr ns => exact r1
    | wt xs => exact r1
    | exo a c d e => exact r1
    | q x => exact r1
section
variable {X : Cx} {k : Nat} {f : Addr} {fd : FuncData} {ps ks : List Str} {m : FD} {x : Str} {p pos : Pos} {e : Expr} {es : List Expr} {mr mk : Ma} {kws : List Keyword}
theorem run_g {args : Args} {us : List Value} {vs : List V} {sp : Sp} {pn : List (Addr × Obj)} {sh : Shared} {sg : L2.St} {hp : Hp} {Q : VK} (F : FnG X.prog X.w X.K X.mg X.base k f fd ps sp) (gd : Gd X.A) (rm : Room k X.A)
    (hb : BindsTo sh fd args (ps.zip us)) (iv : Inv X pn sg hp sh) (rv : Vals vs us) (h : sp vs hp Q E0) : wpAny (model X.prog X.w) X.A (call (.ref f) args.pos args.kw) (EP X pn sg Q) X.xe sh := by
  refine wpAny_call (codeAny_mono (F.run X.A X.stack sh hp args us vs Q E0 gd rm iv.env0 hb rv h) fun r sh' hq => ?_)
  cases r with
  | error z => exact False.elim hq
  | ok fl =>
    cases fl with
    | ret u => exact iv.after hq
    | next => exact hq.elim
    | brk => exact hq.elim
    | cont => exact hq.elim
theorem me_call (F : FnG X.prog X.w X.K X.mg X.base k f fd ps (spM X.K m)) (gd : Gd X.A) (rm : Room k X.A) (hg : Gl X x) (hm : X.mg x = some (.ref f)) (hk : PySem.W.keepIn X.K (.ref f) = true) (hb : Binds X.K fd ps [])
    (ha : MA X (e :: es) mr) (hdb : (x == ("__debug__" : Str)) = false := by decide) (he : starEach (e :: es) X.env = (false, eval e X.env) :: starEach es X.env := by rfl) (hpl : (backTo pos (starEach es X.env)).any (·.1) = false := by rfl) :
    ME X (.Call (.Name x p) (e :: es) [] pos) (mCall (fDef m) mr) := by
  refine ⟨fun pn sh sg hp Q' iv ⟨τ, M, B, Q, h, w, s, kk⟩ => wpAny_Call_Name_kw (ld_glob iv hg hm ?_ hdb)⟩
  let P := fun (vs : List V) (H1 : Hp) => spM X.K m vs H1 Q' E0
  refine PySem.W.callWith_K (h₀ := X.base) iv.ok.mod.kin hk (thn (ha.run pos pn sh sg hp P iv ⟨τ, M, B, _, h, w, s, fun vs ts M1 B1 H1 h1 w1 e1 r1 => ?_⟩) fun us s1 ⟨vs, H1, i1, r, q⟩ => ⟨i1.kIn, ?_⟩) he hpl
  · exact sp_of h1 w1 r1 fun v t M2 B2 H2 h2 w2 e2 r2 => kk v t M2 B2 H2 h2 w2 (e1.trans e2) r2
  · have hl : (us ++ []).length = ps.length := by
      rw [List.append_nil, ← r.length]
      exact F.len _ _ _ _ q
    have hbb := hb s1 us i1.kIn hl
    rw [List.append_nil] at hbb
    exact run_g (args := ⟨us, []⟩) F gd rm hbb i1 r q
theorem me_call0 (F : FnG X.prog X.w X.K X.mg X.base k f fd ps (spM X.K m)) (gd : Gd X.A) (rm : Room k X.A) (hg : Gl X x) (hm : X.mg x = some (.ref f)) (hk : PySem.W.keepIn X.K (.ref f) = true) (hb : Binds X.K fd ps [])
    (hdb : (x == ("__debug__" : Str)) = false := by decide) : ME X (.Call (.Name x p) [] [] pos) (mCall (fDef m) aNil) := by
  refine ⟨fun pn sh sg hp Q' iv ⟨τ, M, B, Q, h, w, s, kk⟩ => wpAny_Call_Name_kw (ld_glob iv hg hm ?_ hdb)⟩
  have q : spM X.K m [] hp Q' E0 := sp_of h w .nil kk
  refine PySem.W.callWith_K0 iv.kIn hk ?_
  have hbb := hb sh [] iv.kIn (F.len _ _ _ _ q)
  exact run_g (args := ⟨[], []⟩) (us := []) F gd rm hbb iv .nil q
abbrev MK (X : Cx) (kws : List Keyword) (m : Ma) : Prop := PK X kws (rA X.K m)
theorem PK.of {t t' : TA} (h : PK X kws t) (w : ∀ σ H Q, t' σ H Q → t σ H Q) : PK X kws t' := ⟨fun _ _ _ _ _ _ iv q => h.run _ _ _ _ _ _ iv (w _ _ _ q)⟩
theorem mk_nil : MK X [] aNil := PK.of pk_nil fun σ H Q' ⟨τ, M, B, Q, h, w, s, k⟩ => k _ _ M B H h w (.refl _ _) .nil
theorem mk_cons {nm : Option Str} {kpos : Pos} {me : Me} (ha : ME X e me) (hr : MK X kws mr) : MK X (⟨nm, e, kpos⟩ :: kws) (aCons me mr) := PK.of (pk_cons ha hr) fun σ H Q' ⟨τ, M, B, Q, h, w, s, k⟩ => by
  refine ⟨τ, M, B, _, h, w, s, fun v t M1 B1 H1 h1 w1 e1 r1 => ⟨τ, M1, B1, _, h1, w1, s.mono e1, fun v2 t2 M2 B2 H2 h2 w2 e2 r2 => ?_⟩⟩
  exact k _ _ M2 B2 H2 h2 w2 (e1.trans e2) (.cons (Rt.mono e2 r1) r2)
/-- how keywords alone bind: the values by g in the parameters' order -/
structure KB (K : PySem.W.Frag) (fd : FuncData) (ps ks : List Str) (g : {α : Type} → List α → List α) : Prop where
  to : ∀ (s : Shared) (ws : List Value), K.In s.heap → ws.length = ks.length → BindsTo s fd ⟨[], ks.zip ws⟩ (ps.zip (g ws))
  rel : ∀ {α β : Type} (R : α → β → Prop) {zs : List α} {ws : List β}, zs.length = ks.length → Paired R zs ws → Paired R (g zs) (g ws)
def mCallK (g : {α : Type} → List α → List α) (n : Nat) (f : FA) (r : Ma) : Me := fun τ M Q => r τ M fun ts M1 => ts.length = n ∧ f (g ts) M1 Q
theorem me_callK {g : {α : Type} → List α → List α} (F : FnG X.prog X.w X.K X.mg X.base k f fd ps (spM X.K m)) (gd : Gd X.A) (rm : Room k X.A) (hg : Gl X x) (hm : X.mg x = some (.ref f)) (hk : PySem.W.keepIn X.K (.ref f) = true) (hb : KB X.K fd ps ks g)
    (ha : MK X kws mr) (hall : (backToKw pos (keywordEach kws X.env)).all (·.1.isSome) = true := by rfl) (hks : (backToKw pos (keywordEach kws X.env)).filterMap (·.1) = ks := by rfl) (hdb : (x == ("__debug__" : Str)) = false := by decide)
    (hpl : ((backTo pos (starEach [] X.env)).any (·.1) || (backToKw pos (keywordEach kws X.env)).any (·.1.isNone)) = false := by rfl) :
    ME X (.Call (.Name x p) [] kws pos) (mCallK g ks.length (fDef m) mr) := by
  refine ⟨fun pn sh sg hp Q' iv ⟨τ, M, B, Q, h, w, s, kk⟩ => wpAny_Call_Name_kw (ld_glob iv hg hm ?_ hdb)⟩
  let P := fun (vs : List V) (H1 : Hp) => vs.length = ks.length ∧ spM X.K m (g vs) H1 Q' E0
  refine PySem.W.callWith_KW0 (h₀ := X.base) iv.ok.mod.kin hk hall (thn (ha.run pos pn sh sg hp P iv ⟨τ, M, B, _, h, w, s, fun vs ts M1 B1 H1 h1 w1 e1 r1 => ?_⟩) fun us s1 ⟨vs, H1, i1, r, l, q⟩ => ⟨i1.kIn, ?_⟩) hpl
  · have l1 : vs.length = ks.length := (paired_len r1).trans h1.1
    exact ⟨l1, sp_of h1.2 w1 (hb.rel _ l1 r1) fun v t M2 B2 H2 h2 w2 e2 r2 => kk v t M2 B2 H2 h2 w2 (e1.trans e2) r2⟩
  · rw [hks]
    have l2 : us.length = ks.length := by
      rw [← r.length]
      exact l
    exact run_g (args := ⟨[], ks.zip us⟩) F gd rm (hb.to s1 us i1.kIn l2) i1 (hb.rel _ l r) q
end
end L3
set_option Elab.async false
set_option linter.all false
set_option maxRecDepth 100000
namespace L3
open PySem PySem.Spec L2
structure OkShow (x : PyData) : Prop where
  sh : x.showable = true
  nd : x.hasDict = false
  dp : x.depth ≤ 100
  ln : x.shown.length ≤ sizeLine
def fRepr : FA := fun ts M Q => match ts with
  | [t] => (match now t M with
    | some x => OkShow x ∧ Q (.str x.shown) M
    | none => False)
  | _ => False
theorem head_core {P : Program} {w : World} {K : PySem.W.Frag} {mg mb : Str → Option Value} {k : Nat} {fa a : Addr} {fd : FuncData} {x : Str} {sp : Sp} {s1 : Shared} {vs : List Value} {H : Hp}
    (kin : K.In s1.heap) (ns : s1.heap.Ns mainGlobals mg) (nb : s1.heap.Ns builtinsNs mb) (bb : ∀ x : Str, x ≠ "__name__" → mb x = bootBuiltins x) (lim : s1.heap.NoLimit) (gens : s1.gens = #[])
    (ha : s1.heap.get? a = some { cls := .type "list", data := .seq vs.toArray }) (rm : Room k callerA)
    (F : ∀ base : Heap, K.In base → base.Ns mainGlobals mg → FnG P w K mg base k fa fd [x] sp) (bnd : ∀ (s : Shared) (u : Value), BindsTo s fd ⟨[u], []⟩ [(x, u)])
    (hO : Only H) (hsp : sp [.ref a] H (fun v _ => v = .bl true) fun _ _ _ => False) (hok : HOk P w H s1.heap) (hA : ∀ b, H b ≠ none → b = a) (hK : H a ≠ none → K.lookup a = none) :
    codeAny (model P w) callerA (.call (.ref fa) ⟨[.ref a], []⟩) (fun r s' => r = .ok (.ret (.bool true)) ∧ PySem.OldK s1.heap s'.heap ∧ s'.os = s1.os ∧ PyProof.Rows.AllBare s'.gens) s1 := by
  have untr : ∀ {b : Addr} {o : Obj}, s1.heap.get? b = some o → (∀ u, H b = some u → b = a → False) → (hidT s1.heap H).get? b = some o := fun {b o} e n => by
    refine hidT_get e ?_
    cases z : H b with
    | none => rfl
    | some u => exact (n u z (hA b (by rw [z]; exact fun y => nomatch y))).elim
  have nsK : ∀ {b : Addr} {m : Str → Option Value}, s1.heap.Ns b m → (hidT s1.heap H).Ns b m := by
    rintro b m ⟨o, es, ep, e, d, r⟩
    refine ⟨o, es, ep, untr e fun u _ z => ?_, d, r⟩
    subst z
    rw [ha] at e
    cases e
    exact nomatch (show Data.seq vs.toArray _ = Data.dict es ep from d)
  have kinb : K.In (hidT s1.heap H) := fun b o e => untr (kin b o e) fun u z y => by
    subst y
    rw [hK (by rw [z]; exact fun y => nomatch y)] at e
    cases e
  obtain ⟨mc, l1, l2⟩ := lim
  have md : Mod K mg (hidT s1.heap H) := ⟨kinb, nsK ns, ⟨mb, nsK nb, bb⟩, ⟨mc, nsK l1, l2⟩⟩
  have e0 : Env0 P w K mg (hidT s1.heap H) callerA [] s1 H := by
    refine ⟨rfl, md, fun b o e => of_hidT e, Nat.le_of_eq (hidT_size _ _), trivial, fun b z => ?_, hok, .of_eq gens⟩
    cases (show b ∈ ([] : List Addr) from z)
  refine codeAny_mono ((F _ kinb (nsK ns)).run callerA [] s1 H ⟨[.ref a], []⟩ [.ref a] [.ref a] _ _ rfl rm e0 (bnd s1 (.ref a)) (.cons rfl .nil) hsp) fun r s' h => ?_
  cases r with
  | error e => exact False.elim h
  | ok fl =>
    cases fl with
    | next => exact h.elim
    | brk => exact h.elim
    | cont => exact h.elim
    | ret u =>
      obtain ⟨v, H', os, bare, un, hok', r', q⟩ := h
      obtain rfl : v = .bl true := q
      obtain rfl : u = Value.bool true := r'
      refine ⟨rfl, PySem.OldK.of_keep fun b o e => ?_, os, bare⟩
      cases q : H b with
      | none =>
        refine un.keep b o e q (fun z => ?_) (fun z => ?_)
        · cases (show b ∈ ([] : List Addr) from z)
        · cases z
      | some u =>
        rcases hO b with z | ⟨ob, xs, z⟩
        · rw [q] at z; cases z
        · obtain ⟨e1, _⟩ := hok b _ z
          obtain ⟨e2, _⟩ := hok' b _ (un.frzs b ob _ z)
          rw [e] at e1
          cases e1
          exact e2
theorem head_call {P : Program} {w : World} {K : PySem.W.Frag} {mg mb : Str → Option Value} {k : Nat} {fa a : Addr} {fd : FuncData} {x : Str} {sp : Sp} {s1 : Shared} {vs : List Value} {ns : List Int}
    (kin : K.In s1.heap) (hns : s1.heap.Ns mainGlobals mg) (nb : s1.heap.Ns builtinsNs mb) (bb : ∀ x : Str, x ≠ "__name__" → mb x = bootBuiltins x) (lim : s1.heap.NoLimit) (gens : s1.gens = #[])
    (ha : s1.heap.get? a = some { cls := .type "list", data := .seq vs.toArray }) (hi : PyProof.Rows.IntsAre vs ns) (hl : ns.length ≤ sizeLine) (rm : Room k callerA)
    (F : ∀ base : Heap, K.In base → base.Ns mainGlobals mg → FnG P w K mg base k fa fd [x] sp) (bnd : ∀ (s : Shared) (u : Value), BindsTo s fd ⟨[u], []⟩ [(x, u)])
    (hsp : ∀ H : Hp, Only H → SqL K H a (ns.map V.int) → sp [.ref a] H (fun v _ => v = .bl true) fun _ _ _ => False) :
    codeAny (model P w) callerA (.call (.ref fa) ⟨[.ref a], []⟩) (fun r s' => r = .ok (.ret (.bool true)) ∧ PySem.OldK s1.heap s'.heap ∧ s'.os = s1.os ∧ PyProof.Rows.AllBare s'.gens) s1 := by
  have rv := vals_ints hi
  have hlen := hi.length
  cases hk : K.lookup a with
  | some o =>
    have e := kin a o hk
    rw [ha] at e
    cases e
    have hO : Only (fun _ => none) := fun _ => .inl rfl
    refine head_core kin hns nb bb lim gens ha rm F bnd hO (hsp _ hO (.inr ⟨_, vs.toArray, _, hk, rfl, rfl, rfl, ?_, ?_⟩)) (fun b u z => nomatch z) (fun b z => absurd rfl z) fun z => absurd rfl z
    · rw [List.size_toArray, hlen]
      exact hl
    · simpa using rv
  | none =>
    let H : Hp := fun b => if b = a then some (.frz { cls := .type "list", data := .seq vs.toArray } (.lst (ns.map V.int))) else none
    have hH : ∀ b u, H b = some u → b = a ∧ u = .frz { cls := .type "list", data := .seq vs.toArray } (.lst (ns.map V.int)) := fun b u z => by
      by_cases y : b = a
      · exact ⟨y, (Option.some.inj ((if_pos y).symm.trans z)).symm⟩
      · cases (if_neg y).symm.trans z
    have hO : Only H := fun b => by
      by_cases y : b = a
      · exact .inr ⟨_, _, if_pos y⟩
      · exact .inl (if_neg y)
    refine head_core kin hns nb bb lim gens ha rm F bnd hO (hsp H hO (.inl (.inr ⟨_, if_pos rfl⟩))) (fun b u z => ?_) (fun b z => ?_) fun _ => hk
    · obtain ⟨rfl, rfl⟩ := hH b u z
      exact ⟨ha, by rw [List.length_map]; exact hl, vs, _, rv, ha⟩
    · cases y : H b with
      | none => exact absurd y z
      | some u => exact (hH b u y).1
/-- THE END: the law's promise over trees -/
theorem walkG {l : PySem.W.OpenLaw} {n k : Nat} {q : Program} {loose : List Str} {XP : (Str → Option Value) → Heap → Prop} {YP : World → Heap → Prop} {d : DefRec} {K : Params → PySem.W.Frag} {m : FD} {x : Str}
    (hn : l.most = some n) (hn2 : n ≤ sizeLine) (hdf : d.params.defaults = []) (rm : Room k callerA) (hY : ∀ (w : World) (h : Heap), YP w h → (K w.params).In h)
    (F : ∀ (w : World) (mg : Str → Option Value) (fa : Addr) (h : Heap), (K w.params).In h → h.Ns mainGlobals mg → mg d.name = some (.ref fa) →
      ∃ fd : FuncData, (∀ (s : Shared) (u : Value), BindsTo s fd ⟨[u], []⟩ [(x, u)]) ∧ ∀ base : Heap, (K w.params).In base → base.Ns mainGlobals mg → FnG l.prog w (K w.params) mg base k fa fd [x] (spM (K w.params) m))
    (law : ∀ ns : List Int, ns.length ≤ n → m [.scr ns] [] fun t _ => t = T.bl true) :
    PySem.W.WalkO q loose XP YP l.row.toRowW d [] (fun f vs => PySem.call f vs) := by
  refine Att.attach_call hn hdf fun w s₀ s1 mg mb fa o pm cd doc a vs ns G Y ho hd hcd hmg hobj hints hlen hg => ?_
  obtain ⟨fd, hb, hF⟩ := F w mg fa _ (hY w _ Y) G.T.g hmg
  refine head_call (hY w _ Y) G.T.g G.T.b G.T.builtins G.T.nolimit hg hobj hints (Nat.le_trans hlen hn2) rm hF hb fun H hO hS => ?_
  refine ⟨[.scr ns], [], ⟨H, [], []⟩, _, law ns hlen, ⟨fun _ _ z => z, rfl, rfl, List.nodup_nil, fun i a c z => ?_, fun i a c z => ?_, fun a z => ?_⟩, .cons ⟨a, rfl, hS⟩ .nil, fun v t D' B' H' z w' e' r' => ?_⟩
  · simp at z
  · simp at z
  · cases z
  · subst z
    cases r'
    rfl
end L3
set_option Elab.async false
set_option linter.all false
set_option maxRecDepth 100000
namespace L3
open PySem PySem.Spec L2
def Kn (P : Program) (w : World) (K : PySem.W.Frag) (mg : Str → Option Value) (base : Heap) (k : Nat) (x : Str) (st : Stmt) (ps : List Str) (m : FD) : Prop :=
  ∃ f fd, FnG P w K mg base k f fd ps (spM K m) ∧ mg x = some (.ref f) ∧ Fun K x x st f fd ∧ Binds K fd ps []
section
variable {X : Cx} {j k : Nat} {x : Str} {st : Stmt} {ps ks : List Str} {m : FD} {p pos : Pos} {e : Expr} {es : List Expr} {mr : Ma} {kws : List Keyword}
theorem me_fn (h : Kn X.prog X.w X.K X.mg X.base j x st ps m) (gd : Gd X.A) (rm : Room k X.A) (hj : j ≤ k) (hg : Gl X x) (ha : MA X (e :: es) mr) (hdb : (x == ("__debug__" : Str)) = false := by decide)
    (he : starEach (e :: es) X.env = (false, eval e X.env) :: starEach es X.env := by rfl) (hpl : (backTo pos (starEach es X.env)).any (·.1) = false := by rfl) : ME X (.Call (.Name x p) (e :: es) [] pos) (mCall (fDef m) mr) :=
  let ⟨_, _, F, hm, U, hb⟩ := h
  me_call F gd (rm.mono hj) hg hm U.kp hb ha hdb he hpl
theorem me_fn0 (h : Kn X.prog X.w X.K X.mg X.base j x st ps m) (gd : Gd X.A) (rm : Room k X.A) (hj : j ≤ k) (hg : Gl X x) (hdb : (x == ("__debug__" : Str)) = false := by decide) : ME X (.Call (.Name x p) [] [] pos) (mCall (fDef m) aNil) :=
  let ⟨_, _, F, hm, U, hb⟩ := h
  me_call0 F gd (rm.mono hj) hg hm U.kp hb hdb
theorem me_fnK {g : {α : Type} → List α → List α} (h : Kn X.prog X.w X.K X.mg X.base j x st ps m) (gd : Gd X.A) (rm : Room k X.A) (hj : j ≤ k) (hg : Gl X x) (hb : ∀ f fd, Fun X.K x x st f fd → KB X.K fd ps ks g)
    (ha : MK X kws mr) (hall : (backToKw pos (keywordEach kws X.env)).all (·.1.isSome) = true := by rfl) (hks : (backToKw pos (keywordEach kws X.env)).filterMap (·.1) = ks := by rfl) (hdb : (x == ("__debug__" : Str)) = false := by decide)
    (hpl : ((backTo pos (starEach [] X.env)).any (·.1) || (backToKw pos (keywordEach kws X.env)).any (·.1.isNone)) = false := by rfl) : ME X (.Call (.Name x p) [] kws pos) (mCallK g ks.length (fDef m) mr) :=
  let ⟨_, _, F, hm, U, _⟩ := h
  me_callK F gd (rm.mono hj) hg hm U.kp (hb _ _ U) ha hall hks hdb hpl
end
theorem kb_of {K : PySem.W.Frag} {x qual : Str} {st : Stmt} {f : Addr} {fd : FuncData} {ps ks : List Str} {g : {α : Type} → List α → List α} (F : Fun K x qual st f fd)
    (h : ∀ (kV doc pm : Value) (an : Option Addr) (cdv ct : Value) (ws : List Value), ws.length = ks.length → bindArgs (PySem.W.fnOf x qual (defArgs st) (defBody st) (defScope st) .none kV doc pm an cdv ct) ⟨[], ks.zip ws⟩ = pure (ps.zip (g ws)))
    (rel : ∀ {α β : Type} (R : α → β → Prop) {zs : List α} {ws : List β}, zs.length = ks.length → Paired R zs ws → Paired R (g zs) (g ws)) : KB K fd ps ks g := by
  obtain ⟨oc, od, kV, doc, pm, an, cdv, ct, osl, rfl, lk, hcd⟩ := F.ex
  exact ⟨fun s ws _ hl => .of_eq (h kV doc pm an cdv ct ws hl), rel⟩
def CDv (i j : Int) : Prop := 0 < j ∧ j < 18446744073709551616
theorem CDv.wide {i j : Int} (h : CDv i j) : CDivW i j := by
  refine ⟨h.1, ?_⟩
  have h2 : j.natAbs < 2 ^ 64 := by have := h.2; have := h.1; omega
  have h3 : j.natAbs ≠ 0 := by have := h.1; omega
  have h4 : j.natAbs.log2 < 64 := (Nat.log2_lt h3).mpr h2
  omega
section
variable {X : Cx} {a b c e : Expr} {ma mb m : Me} {pos : Pos}
def oSub : F2 := oI (fun _ _ => True) fun i j => .int (i - j)
def oDiv : F2 := oI CDv fun i j => .int (i / j)
def oMod : F2 := oI (fun _ j => 0 < j) fun i j => .int (i % j)
def oPow : F2 := oI CPow fun i j => .int (i ^ j.toNat)
def oShl : F2 := oI CPow fun i j => .int (i * 2 ^ j.toNat)
def oAnd : F2 := oI (fun _ _ => True) fun i j => .int (Builtin.bitAnd i j)
def oLt : F2 := oI (fun _ _ => True) fun i j => .bool (decide (i < j))
def oLe : F2 := oI (fun _ _ => True) fun i j => .bool (decide (i ≤ j))
def oGt : F2 := oI (fun _ _ => True) fun i j => .bool (decide (j < i))
def oGe : F2 := oI (fun _ _ => True) fun i j => .bool (decide (j ≤ i))
theorem me_add (ha : ME X a ma) (hb : ME X b mb) : ME X (.BinOp a .Add b pos) (mOp oAdd ma mb) := me_op opr_add opl_add ha hb
theorem me_sub (ha : ME X a ma) (hb : ME X b mb) : ME X (.BinOp a .Sub b pos) (mOp oSub ma mb) := me_op op_sub (opl_I0 fun _ _ _ => .int _) ha hb
theorem me_mul (ha : ME X a ma) (hb : ME X b mb) : ME X (.BinOp a .Mult b pos) (mOp oMul ma mb) := me_op opr_mul opl_mul ha hb
theorem opr_div : OpR X (binaryOp .FloorDiv) (L2.rI CDv fun i j => .int (i / j)) := by
  intro pn sh sg hp x y v u Q iv rx ry ⟨i, j, e1, e2, c, q⟩
  exact op_fdivW pn sh sg hp x y v u Q iv rx ry ⟨i, j, e1, e2, c.wide, q⟩
theorem me_div (ha : ME X a ma) (hb : ME X b mb) : ME X (.BinOp a .FloorDiv b pos) (mOp oDiv ma mb) := me_op opr_div (opl_I fun _ _ _ => .int _) ha hb
theorem me_mod (ha : ME X a ma) (hb : ME X b mb) : ME X (.BinOp a .Mod b pos) (mOp oMod ma mb) := me_op op_mod (opl_I fun _ _ _ => .int _) ha hb
theorem me_pow (ha : ME X a ma) (hb : ME X b mb) : ME X (.BinOp a .Pow b pos) (mOp oPow ma mb) := me_op op_pow (opl_I fun _ _ _ => .int _) ha hb
theorem me_eq {k : Nat} (rm : Room k X.A) (ha : ME X a ma) (hb : ME X b mb) : ME X (.Compare a [.Eq] [b] pos) (mOp (oEq false) ma mb) := me_cmp (opr_eq rm.units) opl_eq ha hb (nomark _)
theorem mb_lt (ha : ME X a ma) (hb : ME X b mb) : MB X (.Compare a [.Lt] [b] pos) (mTest (mOp oLt ma mb)) := mb_cmp op_lt (opl_I0 fun _ _ _ => .bl _) ha hb (nomark _)
theorem mb_gt (ha : ME X a ma) (hb : ME X b mb) : MB X (.Compare a [.Gt] [b] pos) (mTest (mOp oGt ma mb)) := mb_cmp op_gt (opl_I0 fun _ _ _ => .bl _) ha hb (nomark _)
theorem mb_ge (ha : ME X a ma) (hb : ME X b mb) : MB X (.Compare a [.GtE] [b] pos) (mTest (mOp oGe ma mb)) := mb_cmp op_ge (opl_I0 fun _ _ _ => .bl _) ha hb (nomark _)
theorem mb_eq {k : Nat} (rm : Room k X.A) (ha : ME X a ma) (hb : ME X b mb) : MB X (.Compare a [.Eq] [b] pos) (mTest (mOp (oEq false) ma mb)) := mb_cmp (opr_eq rm.units) opl_eq ha hb (nomark _)
theorem mb_ne {k : Nat} (rm : Room k X.A) (ha : ME X a ma) (hb : ME X b mb) : MB X (.Compare a [.NotEq] [b] pos) (mTest (mOp (oEq true) ma mb)) := mb_cmp (opr_ne rm.units) opl_ne ha hb (nomark _)
theorem me_append {mo : Me} {mr : Ma} {o x : Expr} {apos cpos : Pos} (ho : ME X o mo) (ha : MA X [x] mr) (hbase : attributeBase o "append" X.env (eval o X.env) = eval o X.env := by rfl)
    (hfew : ((backTo cpos (starEach [x] X.env)).all (fun x => !x.1) && (backToKw cpos (keywordEach [] X.env)).all (fun x => x.1.isSome) && decide (([x] : List Expr).length + ([] : List Keyword).length + (if ([] : List Keyword).isEmpty then 0 else 1) < 30)) = true := by rfl)
    (hline : (apos.endLine == cpos.line) = true := by rfl) (hs : starEach [x] X.env = (false, eval x X.env) :: starEach [] X.env := by rfl) : ME X (.Call (.Attribute o "append" apos) [x] [] cpos) (mMeth fApp mo mr) :=
  me_lm PySem.F.plainAttrs_list PySem.F.slot_list_append PySem.F.type_list_append mt_append mel_app ho ha hbase hfew hline hs rfl
theorem me_pop {mo : Me} {o : Expr} {apos cpos : Pos} (ho : ME X o mo) (hbase : attributeBase o "pop" X.env (eval o X.env) = eval o X.env := by rfl) (hline : (apos.endLine == cpos.line) = true := by rfl) : ME X (.Call (.Attribute o "pop" apos) [] [] cpos) (mMeth0 fPop mo) :=
  me_lm0 PySem.F.plainAttrs_list PySem.F.slot_list_pop PySem.F.type_list_pop mt_pop mel_pop ho hbase hline
end
section
variable {X : Cx} {e : Expr} {es : List Expr} {mr : Ma} {p pos : Pos}
theorem me_len (hg : Gl X "len") (hm : X.mg "len" = none) (ha : MA X (e :: es) mr) (he : starEach (e :: es) X.env = (false, eval e X.env) :: starEach es X.env := by rfl) (hpl : (backTo pos (starEach es X.env)).any (·.1) = false := by rfl) : ME X (.Call (.Name "len" p) (e :: es) [] pos) (mCall fLen mr) := me_callB cr_len cal_len hg hm (by decide +kernel) ha (by decide) (by decide) he hpl
theorem me_max (hc : X.calm = true) (hg : Gl X "max") (hm : X.mg "max" = none) (ha : MA X (e :: es) mr) (he : starEach (e :: es) X.env = (false, eval e X.env) :: starEach es X.env := by rfl) (hpl : (backTo pos (starEach es X.env)).any (·.1) = false := by rfl) : ME X (.Call (.Name "max" p) (e :: es) [] pos) (mCall fMax mr) := me_callB (crl_max hc) cal_max hg hm (by decide +kernel) ha (by decide) (by decide) he hpl
theorem me_min (hc : X.calm = true) (hg : Gl X "min") (hm : X.mg "min" = none) (ha : MA X (e :: es) mr) (he : starEach (e :: es) X.env = (false, eval e X.env) :: starEach es X.env := by rfl) (hpl : (backTo pos (starEach es X.env)).any (·.1) = false := by rfl) : ME X (.Call (.Name "min" p) (e :: es) [] pos) (mCall fMin mr) := me_callB (crl_min hc) cal_min hg hm (by decide +kernel) ha (by decide) (by decide) he hpl
theorem me_tuple (hg : Gl X "tuple") (hm : X.mg "tuple" = none) (ha : MA X (e :: es) mr) (he : starEach (e :: es) X.env = (false, eval e X.env) :: starEach es X.env := by rfl) (hpl : (backTo pos (starEach es X.env)).any (·.1) = false := by rfl) : ME X (.Call (.Name "tuple" p) (e :: es) [] pos) (mCall fTuple mr) := me_callTy call_tupleC cal_tuple hg hm (by decide +kernel) ha (by decide) (by decide) he hpl
theorem me_inti (hg : Gl X "int") (hm : X.mg "int" = none) (ha : MA X (e :: es) mr) (he : starEach (e :: es) X.env = (false, eval e X.env) :: starEach es X.env := by rfl) (hpl : (backTo pos (starEach es X.env)).any (·.1) = false := by rfl) : ME X (.Call (.Name "int" p) (e :: es) [] pos) (mCall fInt mr) := me_callTy call_int1 cal_int hg hm (by decide +kernel) ha (by decide) (by decide) he hpl
end
end L3
set_option Elab.async false
set_option linter.all false
set_option maxRecDepth 100000
namespace L3
open PySem PySem.Spec L2
theorem upd_id {H : Hp} {p : Addr} {o : HO} (h : H p = some o) : upd H p o = H := by
  funext b
  unfold upd
  by_cases z : b = p
  · rw [if_pos z, z, h]
  · rw [if_neg z]
theorem RpA.paired {K : PySem.W.Frag} {B : Bk} : ∀ {vs : List V} {ds : List PyData}, RpA K B.G vs ds → Paired (Rt K B) vs (ds.map T.d)
  | _, _, .nil => .nil
  | _, _, .cons p q => .cons p (RpA.paired q)
def mLcD (i : Mi) (g : Mg) (c : Mb) (m : Me) (vs : List Nat) : Me := fun τ M Q => i τ M fun ts M1 => goLc g c m (wipeT τ vs) (fun acc M2 => Q (.mr M2.D.length) { M2 with D := M2.D ++ [.lst (acc.map T.d)] }) ts [] M1
section
variable {m : Me}
theorem lc_ofD {K : PySem.W.Frag} {i : Mi} {g : Mg} {os : List Nat} {mc : Mb} {vs0 : List Nat} {σ : L2.St} {H : Hp} {Q' : VK} (sub : ∀ j ∈ os, j ∈ vs0) (h : rE K (mLcD i g mc m vs0) σ H Q') : tLc (rI K i) (rG K os g) (rB K mc) (rE K m) vs0 σ H Q' := by
  obtain ⟨τ, M, B, Q, h, w, sl, k⟩ := h
  refine lc_gen sub h w sl fun D acc vs M2 B2 H2 h2 hD w2 e2 d2 r2 g2 n2 l2 => ?_
  have w3 := w2.adoptR g2 n2 l2 (o := .lst vs) (c := .lst (acc.map T.d)) fun H' eH => ⟨vs, eH, RpA.paired r2⟩
  rw [upd_id d2] at w3
  refine k _ _ _ _ H2 h2 w3 ⟨e2.g, e2.r.trans (List.prefix_append _ _), e2.l, e2.fr, e2.tr, fun a z => ?_, e2.ln, e2.gf⟩ ⟨D, rfl, by rw [← w2.rlen]; exact get_snoc⟩
  rcases List.mem_append.mp z with y | y
  · exact e2.rn a y
  · rw [List.mem_singleton] at y
    rw [y]
    exact .inr hD
end
section
variable {X : Cx} {e tg : Expr} {m : Me} {pos : Pos} {elt : Expr} {ifs : List Expr} {scope : Scope} {own : List (Str × Nat)} {i : Mi} {g : Mg} {os : List Nat} {mc : Mb} {n : Nat} {y : Str} {py spos : Pos}
theorem ms_setLcD (hc : X.calm = true) (hN : X.N.Nodup) (hy : X.N[n]? = some y) (hyl : X.env.scope.names.lookup y = some .local)
    (hsw : swapsWith (.ListComp elt [⟨tg, e, ifs, 0⟩] scope pos) (some (.Name y py)) spos.line X.env = pure true) (hi : MI X tg e i) (ok : BlkOk X.N X.env.scope scope own)
    (hg : ∀ (s : Shared) (H : Hp) (C : Addr) (cl : List (Str × Addr)) (fp : List Addr), MG (X.blk s H scope (compEnvC scope cl C X.env) fp) tg os g) (ht : ∀ (s : Shared) (H : Hp) (C : Addr) (cl : List (Str × Addr)) (fp : List Addr), MTs (X.blk s H scope (compEnvC scope cl C X.env) fp) ifs mc)
    (he : ∀ (s : Shared) (H : Hp) (C : Addr) (cl : List (Str × Addr)) (fp : List Addr), ME (X.blk s H scope (compEnvC scope cl C X.env) fp) elt m) (sub : ∀ j ∈ os, j ∈ own.map (·.2)) (hs : ∀ x, foldedSetIterable e X.env x = pure x := by intro _; rfl) :
    MS X (.Assign [.Name y py] (.ListComp elt [⟨tg, e, ifs, 0⟩] scope pos) spos) (mSet n (mLcD i g mc m (own.map (·.2)))) := PS.of (L2.ps_setLc (te := rE X.K m) (tt := rB X.K mc) (g := rG X.K os g) hc hN hy hyl hsw hi ok hg ht he hs) fun D σ H ⟨E, τ, M, B, h, w, sl, go⟩ =>
  lc_ofD sub ⟨τ, M, B, _, h, w, sl, fun v t M1 B1 H1 h1 w1 e1 r1 => go.nx _ M1 B1 _ H1 h1 w1 e1 ((sl.mono e1).set n r1)⟩
/-- swapsWith of a name = [..] on one line -/
theorem swT {gs : List Comprehension} {l : Nat} (hk : X.env.scope.kind = .function) (hy : X.env.scope.names.lookup y = some .local) (hl : (py.line == pos.line) = true)
    (ha : (scope.names.any fun (n, k) => n == y && (k == .local || k == .cell)) = false) : swapsWith (.ListComp elt gs scope pos) (some (.Name y py)) l X.env = pure true := sw_true hk hy hl ha
/-- a list display of the deck, of whatever stands in the deck -/
def mNewD (r : Ma) : Me := fun τ M Q => r τ M fun ts M1 => ((∀ t ∈ ts, noL t = true) ∧ ts.length ≤ sizeLine) ∧ Q (.mr M1.D.length) { M1 with D := M1.D ++ [.lst ts] }
theorem me_newD {es : List Expr} {mr : Ma} (h : MA X es mr) : ME X (.List es pos) (mNewD mr) := PE.of (pe_lst h) fun σ H Q' ⟨τ, M, B, Q, h, w, s, k⟩ => by
  refine ⟨τ, M, B, _, h, w, s, fun v t M1 B1 H1 h1 w1 e1 r1 => ?_⟩
  obtain ⟨⟨hno, hz⟩, q⟩ := h1
  refine ⟨by rw [paired_len r1]; exact hz, fun p hp => ?_⟩
  obtain ⟨w2, e2⟩ := w1.newD hp (o := .lst v) (c := .lst t) fun H' eH => ⟨v, eH, Paired.imp (fun _ _ q => Rt.mono' (B := { B1 with l := [] }) (B' := { B1 with r := B1.r ++ [p], l := [] }) (fun _ _ e => e) (List.prefix_append _ _) (List.prefix_refl _) q) (paired_deck r1 hno)⟩
  exact k _ _ _ _ _ q w2 (e1.trans e2) ⟨p, rfl, by rw [← w1.rlen]; exact get_snoc⟩
end
end L3
set_option Elab.async false
set_option linter.all false
set_option maxRecDepth 100000
namespace L3
open PySem PySem.Spec L2
section
variable {τ : En} {M : Mem} {Q : Kt} {E : Es} {x y : T} {f g : F2} {m r o : Me} {i j n : Nat} {D : List Cell} {L : List (Option (List PyData))}
@[simp] theorem x_var : mVar i τ M Q = ∃ t, τ[i]? = some (some t) ∧ Q t M := rfl
@[simp] theorem x_c {d : PyData} : mC d τ M Q = Q (.d d) M := rfl
@[simp] theorem x_op : mOp f m r τ M Q = m τ M fun x M1 => r τ M1 fun y M2 => f x y M2 Q := rfl
@[simp] theorem x_un {f : F1} : mUn f m τ M Q = m τ M fun x M1 => f x M1 Q := rfl
@[simp] theorem x_neg {i : Int} : oNeg (.d (.int i)) M Q = Q (.int (-i)) M := rfl
@[simp] theorem x_add {i j : Int} : oAdd (.d (.int i)) (.d (.int j)) M Q = Q (.int (i + j)) M := rfl
@[simp] theorem x_addl {a b : List PyData} : oAdd (.d (.list a)) (.d (.list b)) M Q = (a.length + b.length ≤ sizeLine ∧ Q (.lst (a ++ b)) M) := rfl
@[simp] theorem x_addt {a b : List PyData} : oAdd (.d (.tuple a)) (.d (.tuple b)) M Q = (a.length + b.length ≤ sizeLine ∧ Q (.tup (a ++ b)) M) := rfl
@[simp] theorem x_sub {i j : Int} : oSub (.d (.int i)) (.d (.int j)) M Q = Q (.int (i - j)) M := by simp [oSub, oI]
@[simp] theorem x_mul {i j : Int} : oMul (.d (.int i)) (.d (.int j)) M Q = (CMul i j ∧ Q (.int (i * j)) M) := rfl
@[simp] theorem x_div {i j : Int} : oDiv (.d (.int i)) (.d (.int j)) M Q = (CDv i j ∧ Q (.int (i / j)) M) := rfl
@[simp] theorem x_mod {i j : Int} : oMod (.d (.int i)) (.d (.int j)) M Q = (0 < j ∧ Q (.int (i % j)) M) := rfl
@[simp] theorem x_pow {i j : Int} : oPow (.d (.int i)) (.d (.int j)) M Q = (CPow i j ∧ Q (.int (i ^ j.toNat)) M) := rfl
@[simp] theorem x_shl {i j : Int} : oShl (.d (.int i)) (.d (.int j)) M Q = (CPow i j ∧ Q (.int (i * 2 ^ j.toNat)) M) := rfl
@[simp] theorem x_and {i j : Int} : oAnd (.d (.int i)) (.d (.int j)) M Q = Q (.int (Builtin.bitAnd i j)) M := by simp [oAnd, oI]
@[simp] theorem x_lt {i j : Int} : oLt (.d (.int i)) (.d (.int j)) M Q = Q (.bl (decide (i < j))) M := by simp [oLt, oI]
@[simp] theorem x_le {i j : Int} : oLe (.d (.int i)) (.d (.int j)) M Q = Q (.bl (decide (i ≤ j))) M := by simp [oLe, oI]
@[simp] theorem x_gt {i j : Int} : oGt (.d (.int i)) (.d (.int j)) M Q = Q (.bl (decide (j < i))) M := by simp [oGt, oI]
@[simp] theorem x_ge {i j : Int} : oGe (.d (.int i)) (.d (.int j)) M Q = Q (.bl (decide (j ≤ i))) M := by simp [oGe, oI]
@[simp] theorem x_now {d : PyData} : now (.d d) M = some d := rfl
theorem x_eq {a b : PyData} {n : Bool} (h1 : now x M = some a) (h2 : now y M = some b) (s1 : SeqAt.shaped a = true) (s2 : SeqAt.shaped b = true) (no : ∀ z, a ≠ .str z) : oEq n x y M Q = Q (.bl (if n then !PyData.eqv a b else PyData.eqv a b)) M := by
  unfold oEq
  split
  · cases h1
    exact absurd rfl (no _)
  · rw [h1, h2]
    simp [s1, s2]
@[simp] theorem x_eqi {i j : Int} {n : Bool} : oEq n (.d (.int i)) (.d (.int j)) M Q = Q (.bl (if n then !decide (i = j) else decide (i = j))) M := by
  rw [x_eq (a := .int i) (b := .int j) rfl rfl rfl rfl fun _ z => nomatch z]
  rfl
@[simp] theorem x_eqs {a b : Str} {n : Bool} : oEq n (.d (.str a)) (.d (.str b)) M Q = Q (.bl (if n then !decide (a = b) else decide (a = b))) M := rfl
@[simp] theorem x_test : mTest m τ M Q' = m τ M fun x M1 => ∃ k, x = .d (.bool k) ∧ Q' k M1 := rfl
@[simp] theorem x_band {t u : Mb} {R : Bool → Mem → Prop} : bAnd t u τ M R = t τ M fun b M1 => if b = true then u τ M1 R else R false M1 := rfl
@[simp] theorem x_bor {t u : Mb} {R : Bool → Mem → Prop} : bOr t u τ M R = t τ M fun b M1 => if b = true then R true M1 else u τ M1 R := rfl
@[simp] theorem x_bnot {t : Mb} {R : Bool → Mem → Prop} : bNot t τ M R = t τ M fun b M1 => R (!b) M1 := rfl
@[simp] theorem x_byes {R : Bool → Mem → Prop} : bYes τ M R = R true M := rfl
@[simp] theorem x_ite {c : Mb} : mIte c m r τ M Q = c τ M fun b M1 => if b = true then m τ M1 Q else r τ M1 Q := rfl
@[simp] theorem x_chain {a b c : Me} : mChain f g a b c τ M Q = a τ M fun a M1 => b τ M1 fun b M2 => f a b M2 fun t M3 => match t with
  | .d (.bool true) => c τ M3 fun c M4 => g b c M4 Q
  | .d (.bool false) => Q (.bl false) M3
  | _ => False := rfl
@[simp] theorem x_mand : mAnd m r τ M Q = m τ M fun t M1 => match t with
  | .d (.bool true) => r τ M1 Q
  | .d (.bool false) => Q (.bl false) M1
  | _ => False := rfl
@[simp] theorem x_mor : mOr m r τ M Q = m τ M fun t M1 => match t with
  | .d (.bool true) => Q (.bl true) M1
  | .d (.bool false) => r τ M1 Q
  | _ => False := rfl
@[simp] theorem x_mnot : mNot m τ M Q = m τ M fun t M1 => match t with
  | .d (.bool b) => Q (.bl (!b)) M1
  | _ => False := rfl
variable {R : List T → Mem → Prop} {a : Ma}
@[simp] theorem x_anil : aNil τ M R = R [] M := rfl
@[simp] theorem x_acons : aCons m a τ M R = m τ M fun x M1 => a τ M1 fun xs M2 => R (x :: xs) M2 := rfl
@[simp] theorem x_dat0 : datas [] = some [] := rfl
@[simp] theorem x_dat1 {d : PyData} {l : List T} : datas (.d d :: l) = (datas l).map (d :: ·) := rfl
@[simp] theorem x_tup : mTup a τ M Q = a τ M fun ts M1 => match datas ts with
  | some ds => ds.length ≤ sizeLine ∧ Q (.tup ds) M1
  | none => False := rfl
@[simp] theorem x_lst : mLst a τ M Q = a τ M fun ts M1 => match datas ts with
  | some ds => ds.length ≤ sizeLine ∧ Q (.lst ds) M1
  | none => False := rfl
@[simp] theorem x_newL : mNewL a τ M Q = a τ M fun ts M1 => match datas ts with
  | some ds => ds.length ≤ sizeLine ∧ Q (.lr M1.L.length) { M1 with L := M1.L ++ [some ds] }
  | none => False := rfl
@[simp] theorem x_frz : mFrz m τ M Q = m τ M fun t M1 => match t with
  | .lr i => (match M1.L[i]? with
    | some (some ds) => Q (.lst ds) { M1 with L := M1.L.set i none }
    | _ => False)
  | t => Q t M1 := rfl
@[simp] theorem x_ixl {l : List PyData} {k : Int} : oIx (.d (.list l)) (.d (.int k)) M Q = ∃ t, atI l k = some t ∧ Q (.d t) M := rfl
@[simp] theorem x_ixt {l : List PyData} {k : Int} : oIx (.d (.tuple l)) (.d (.int k)) M Q = ∃ t, atI l k = some t ∧ Q (.d t) M := rfl
@[simp] theorem x_ixL {k : Int} : oIx (.lr i) (.d (.int k)) M Q = (match M.L[i]? with
    | some (some xs) => ∃ t, atI xs k = some t ∧ Q (.d t) M
    | _ => False) := rfl
@[simp] theorem x_ixD {k : Int} : oIx (.mr i) (.d (.int k)) M Q = (match M.D[i]? with
    | some (.lst ts) => ∃ t, atI ts k = some t ∧ Q t M
    | _ => False) := rfl
@[simp] theorem x_dget {s : Str} : oDGet (.mr i) (.d (.str s)) M Q = (match M.D[i]? with
    | some (.dct kvs) => ∃ t, lookT kvs (.inr s) = some t ∧ Q t M
    | _ => False) := rfl
@[simp] theorem x_sl {lo hi : Mo} : mSl m lo hi τ M Q = m τ M fun x M1 => lo τ M1 fun l M2 => hi τ M2 fun u M3 => oSl x l u M3 Q := rfl
@[simp] theorem x_onone {P : Option Int → Mem → Prop} : oNone τ M P = P none M := rfl
@[simp] theorem x_opart {P : Option Int → Mem → Prop} : oPart m τ M P = m τ M fun t M1 => match t with
  | .d (.int i) => P (some i) M1
  | _ => False := rfl
@[simp] theorem x_slscr {ns : List Int} {lo hi : Option Int} : oSl (.scr ns) lo hi M Q = Q (.lst ((cutT ns lo hi).map .int)) M := rfl
@[simp] theorem x_sltup {ns : List PyData} {lo hi : Option Int} : oSl (.d (.tuple ns)) lo hi M Q = Q (.tup (cutT ns lo hi)) M := rfl
@[simp] theorem x_sllst {ns : List PyData} {lo hi : Option Int} : oSl (.d (.list ns)) lo hi M Q = Q (.lst (cutT ns lo hi)) M := rfl
@[simp] theorem x_call {f : FA} : mCall f a τ M Q = a τ M fun ts M1 => f ts M1 Q := rfl
@[simp] theorem x_callk {g : {α : Type} → List α → List α} {f : FA} : mCallK g n f a τ M Q = a τ M fun ts M1 => ts.length = n ∧ f (g ts) M1 Q := rfl
@[simp] theorem x_def {d : FD} {ts : List T} : fDef d ts M Q = ((∀ t ∈ ts, noL t = true) ∧ d ts M.D fun t D' => Q t { M with D := D' }) := rfl
@[simp] theorem x_noL1 {d : PyData} : noL (.d d) = true := rfl
@[simp] theorem x_noL2 : noL (.mr i) = true := rfl
@[simp] theorem x_noL3 {ns : List Int} : noL (.scr ns) = true := rfl
@[simp] theorem x_int {k : Int} : fInt [.d (.int k)] M Q = Q (.int k) M := rfl
@[simp] theorem x_intb {k : Bool} : fInt [.d (.bool k)] M Q = Q (.int (if k then 1 else 0)) M := rfl
@[simp] theorem x_abs {k : Int} : fAbs [.d (.int k)] M Q = Q (.int (if k < 0 then -k else k)) M := rfl
@[simp] theorem x_max2 {k l : Int} : fMax [.d (.int k), .d (.int l)] M Q = Q (.int (if l > k then l else k)) M := rfl
@[simp] theorem x_min2 {k l : Int} : fMin [.d (.int k), .d (.int l)] M Q = Q (.int (if l < k then l else k)) M := rfl
@[simp] theorem x_lenl {l : List PyData} : fLen [.d (.list l)] M Q = Q (.int l.length) M := rfl
@[simp] theorem x_lent {l : List PyData} : fLen [.d (.tuple l)] M Q = Q (.int l.length) M := rfl
@[simp] theorem x_lens {ns : List Int} : fLen [.scr ns] M Q = Q (.int ns.length) M := by
  show Q (.int ((ns.map PyData.int).length : Nat)) M = _
  rw [List.length_map]
@[simp] theorem x_tupl {l : List PyData} : fTuple [.d (.list l)] M Q = Q (.tup l) M := rfl
@[simp] theorem x_tupt {l : List PyData} : fTuple [.d (.tuple l)] M Q = Q (.tup l) M := rfl
@[simp] theorem x_tupL : fTuple [.lr i] { D := D, L := L } Q = (match L[i]? with
    | some (some xs) => Q (.tup xs) { D := D, L := L }
    | _ => False) := by
  unfold fTuple now
  cases h : L[i]? with
  | none => simp [h]
  | some o => cases o <;> simp [h]
@[simp] theorem x_repr {d : PyData} : fRepr [.d d] M Q = (OkShow d ∧ Q (.str d.shown) M) := rfl
@[simp] theorem x_meth {f : T → FA} : mMeth f m a τ M Q = m τ M fun x M1 => isL x M1 ∧ a τ M1 fun ts M2 => f x ts M2 Q := rfl
@[simp] theorem x_meth0 {f : T → FA} : mMeth0 f m τ M Q = m τ M fun x M1 => isL x M1 ∧ f x [] M1 Q := rfl
@[simp] theorem x_isL : isL (.lr i) M = ∃ ds, M.L[i]? = some (some ds) := rfl
@[simp] theorem x_isD : isL (.mr i) M = ∃ ts, M.D[i]? = some (.lst ts) := rfl
@[simp] theorem x_appL {z : PyData} : fApp (.lr i) [.d z] M Q = (match M.L[i]? with
    | some (some ds) => ds.length < sizeLine ∧ Q .non { M with L := M.L.set i (some (ds ++ [z])) }
    | _ => False) := rfl
@[simp] theorem x_appD {t : T} : fApp (.mr i) [t] M Q = (match M.D[i]? with
    | some (.lst us) => noL t = true ∧ us.length < sizeLine ∧ Q .non { M with D := M.D.set i (.lst (us ++ [t])) }
    | _ => False) := rfl
@[simp] theorem x_popD : fPop (.mr i) [] M Q = (match M.D[i]? with
    | some (.lst us) => ∃ t, us[us.length - 1]? = some t ∧ Q t { M with D := M.D.set i (.lst us.dropLast) }
    | _ => False) := rfl
@[simp] theorem x_popL : fPop (.lr i) [] M Q = (match M.L[i]? with
    | some (some ds) => ∃ z, ds[ds.length - 1]? = some z ∧ Q (.d z) { M with L := M.L.set i (some ds.dropLast) }
    | _ => False) := rfl
variable {s t : Ms}
@[simp] theorem x_next : mNext E τ M = E.nx τ M := rfl
@[simp] theorem x_drop : mDrop m E τ M = m τ M fun _ M1 => E.nx τ M1 := rfl
@[simp] theorem x_ret : mRet m E τ M = m τ M E.rt := rfl
@[simp] theorem x_if {c : Mb} : mIf c s t E τ M = c τ M fun b M1 => if b = true then s E τ M1 else t E τ M1 := rfl
@[simp] theorem x_set : mSet i m E τ M = m τ M fun t M1 => E.nx (τ.set i (some t)) M1 := rfl
@[simp] theorem x_asg {g : Mg} : mAsg m g E τ M = m τ M fun t M1 => g t τ M1 E.nx := rfl
@[simp] theorem x_par : mPar i j a E τ M = a τ M fun ts M1 => match ts with
  | [t, u] => E.nx ((τ.set i (some t)).set j (some u)) M1
  | _ => False := rfl
@[simp] theorem x_dput {d k v : Me} : mDPut d k v E τ M = v τ M fun t M1 => d τ M1 fun x M2 => k τ M2 fun y M3 => match x, keyOf y with
  | .mr i, some kk => (match M3.D[i]? with
    | some (.dct kvs) => noL t = true ∧ kvs.length < sizeLine ∧ E.nx τ { M3 with D := M3.D.set i (.dct (putT kvs kk t)) }
    | _ => False)
  | _, _ => False := rfl
@[simp] theorem x_lput {d k v : Me} : mLPut d k v E τ M = v τ M fun t M1 => d τ M1 fun x M2 => k τ M2 fun y M3 => match x, y, t with
  | .lr i, .d (.int j), .d z => (match M3.L[i]? with
    | some (some ds) => ∃ n, ixN ds.length j = some n ∧ E.nx τ { M3 with L := M3.L.set i (some (ds.set n z)) }
    | _ => False)
  | _, _, _ => False := rfl
@[simp] theorem x_key {s : Str} : keyOf (.d (.str s)) = some (.inr s) := rfl
variable {P : En → Mem → Prop} {mi : Mi} {mg : Mg}
@[simp] theorem x_gn {t : T} : gN i t τ M P = P (τ.set i (some t)) M := rfl
@[simp] theorem x_gtu {r : Mgs} {xs : List PyData} : gTu n r (.d (.tuple xs)) τ M P = (xs.length = n ∧ r xs τ M P) := rfl
@[simp] theorem x_gtw {r : Mgs} {xs : List PyData} : gTu n r (.wt xs) τ M P = (xs.length = n ∧ r xs τ M P) := rfl
@[simp] theorem x_gsn {xs : List PyData} : gsNil xs τ M P = (xs = [] ∧ P τ M) := rfl
@[simp] theorem x_gsc {r : Mgs} {d : PyData} {xs : List PyData} : gsCons mg r (d :: xs) τ M P = mg (.d d) τ M fun τ1 M1 => r xs τ1 M1 P := rfl
@[simp] theorem x_iseq {R : List T → Mem → Prop} : iSeq m τ M R = m τ M fun t M1 => match t with
  | .d (.list xs) => R (xs.map T.d) M1
  | .d (.tuple xs) => R (xs.map T.d) M1
  | .scr ns => R (ns.map T.int) M1
  | _ => False := rfl
@[simp] theorem x_irange {R : List T → Mem → Prop} : iRange a τ M R = a τ M fun ts M1 => match ts with
  | [.d (.int j)] => (-(2 ^ 62) ≤ j ∧ j < 2 ^ 62) ∧ R (rangeT j.toNat) M1
  | _ => False := rfl
theorem w_seq (h : s { E with nx := t E } τ M) : mSeq s t E τ M := h
theorem w_for (h : mi τ M fun ts M1 => goFor mg s E ts τ M1) : mFor mi mg s E τ M := h
theorem w_if {c : Mb} (h : c τ M fun b M1 => if b = true then s E τ M1 else t E τ M1) : mIf c s t E τ M := h
theorem x_forn : goFor mg s E [] τ M = E.nx τ M := rfl
theorem x_forc {t : T} {ts : List T} : goFor mg s E (t :: ts) τ M = mg t τ M fun τ1 M1 => s { E with nx := goFor mg s E ts, ct := goFor mg s E ts, bk := E.nx } τ1 M1 := rfl
theorem x_lc {c : Mb} {vs : List Nat} : mLc mi mg c m vs τ M Q = mi τ M fun ts M1 => goLc mg c m (wipeT τ vs) (fun acc M2 => Q (.lst acc) M2) ts [] M1 := rfl
theorem x_lcc {c : Mb} {τ0 : En} {acc : List PyData} {R : List PyData → Mem → Prop} {t : T} {ts : List T} : goLc mg c m τ0 R (t :: ts) acc M = mg t τ0 M fun τ1 M1 => c τ1 M1 fun k M2 => if k = true then m τ1 M2 fun y M3 => (match y with
      | .d z => acc.length < sizeLine ∧ goLc mg c m τ0 R ts (acc ++ [z]) M3
      | _ => False) else goLc mg c m τ0 R ts acc M2 := by
  rw [goLc] <;> rfl
end
end L3
set_option Elab.async false
set_option linter.all false
set_option maxRecDepth 100000
namespace Sh
open PySem PySem.Spec L2 L3
abbrev b__law_reel_0 : Ms := (mSet 2 (mOp oMod (mCall fInt (aCons (mOp oAdd (mOp oAdd (mOp oMul (mVar 2) (mC (.int 69069))) (mOp oMul (mVar 3) (mC (.int 11)))) (mC (.int 5))) aNil)) (mC (.int 4294967291))))
abbrev b__law_reel_1 : Ms := (mRet (mDisp [("deep", (mVar 4)), ("cells", (mOp oAdd (mVar 1) (mLst (aCons (mOp oAdd (mOp oMul (mC (.int 2)) (mCall fLen (aCons (mVar 1) aNil))) (mC (.int 1))) aNil)))), ("stamp", (mVar 2)), ("count", (mC (.int 0)))]))
abbrev b__law_reel_2 : Ms := (mSeq (mSet 4 (mLcD (iSeq (mVar 1)) (gN 3) (mTest (mOp oGe (mVar 3) (mOp oPow (mC (.int 10)) (mC (.int 18))))) (mVar 3) [3])) b__law_reel_1)
abbrev b__law_reel_3 : Ms := (mSeq (mFor (iSeq (mVar 1)) (gN 3) b__law_reel_0) b__law_reel_2)
abbrev b__law_reel_4 : Ms := (mSeq (mPar 1 2 (aCons (mLc (iSeq (mSl (mVar 0) oNone (oPart (mC (.int 63))))) (gN 3) bYes (mIte (mTest (mOp oGe (mVar 3) (mC (.int 0)))) (mOp oMul (mC (.int 2)) (mVar 3)) (mOp oSub (mOp oMul (mUn oNeg (mC (.int 2))) (mVar 3)) (mC (.int 1)))) [3]) (aCons (mOp oAdd (mCall fLen (aCons (mVar 0) aNil)) (mC (.int 7))) aNil))) b__law_reel_3)
abbrev b__law_reel : Ms := b__law_reel_4
def d__law_reel : FD := mDef 1 5 b__law_reel
abbrev b__law_draw_0 : Ms := (mDrop (mMeth fApp (mVar 2) (aCons (mOp oDiv (mVar 3) (mVar 1)) aNil)))
abbrev b__law_draw_1 : Ms := (mRet (mOp oMod (mCall fInt (aCons (mVar 3) aNil)) (mVar 1)))
abbrev b__law_draw_2 : Ms := (mSeq (mIf (mTest (mOp oGe (mVar 3) (mVar 1))) b__law_draw_0 mNext) b__law_draw_1)
abbrev b__law_draw_3 : Ms := (mSeq (mSet 3 (mMeth0 fPop (mVar 2))) b__law_draw_2)
abbrev b__law_draw_4 : Ms := (mSet 6 (mOp oMod (mCall fInt (aCons (mOp oAdd (mOp oMul (mVar 6) (mVar 6)) (mOp oMul (mOp oDGet (mVar 0) (mC (.str "stamp"))) (mOp oAdd (mVar 4) (mVar 7)))) aNil)) (mC (.int 4294967279))))
abbrev b__law_draw_5 : Ms := (mRet (mOp oMod (mCall fInt (aCons (mOp oDiv (mVar 6) (mC (.int 512))) aNil)) (mVar 1)))
abbrev b__law_draw_6 : Ms := (mSeq (mFor (iRange (aCons (mC (.int 2)) aNil)) (gN 7) b__law_draw_4) b__law_draw_5)
abbrev b__law_draw_7 : Ms := (mSeq (mSet 6 (mOp oMod (mCall fInt (aCons (mOp oAdd (mOp oAdd (mOp oMul (mOp oIx (mVar 5) (mOp oMod (mCall fInt (aCons (mOp oMul (mVar 4) (mC (.int 7))) aNil)) (mCall fLen (aCons (mVar 5) aNil)))) (mC (.int 2246822519))) (mOp oDGet (mVar 0) (mC (.str "stamp")))) (mOp oMul (mVar 4) (mC (.int 3266489917)))) aNil)) (mC (.int 4294967291)))) b__law_draw_6)
abbrev b__law_draw_8 : Ms := (mSeq (mPar 4 5 (aCons (mOp oDGet (mVar 0) (mC (.str "count"))) (aCons (mOp oDGet (mVar 0) (mC (.str "cells"))) aNil))) b__law_draw_7)
abbrev b__law_draw_9 : Ms := (mSeq (mDPut (mVar 0) (mC (.str "count")) (mOp oAdd (mOp oDGet (mVar 0) (mC (.str "count"))) (mC (.int 1)))) b__law_draw_8)
abbrev b__law_draw_10 : Ms := (mSeq (mIf (bAnd (mTest (mOp (oEq true) (mVar 2) (mLst aNil))) (mTest (mOp oGt (mVar 1) (mC (.int 1))))) b__law_draw_3 mNext) b__law_draw_9)
abbrev b__law_draw_11 : Ms := (mSeq (mSet 2 (mOp oDGet (mVar 0) (mC (.str "deep")))) b__law_draw_10)
abbrev b__law_draw : Ms := b__law_draw_11
def d__law_draw : FD := mDef 2 8 b__law_draw
abbrev b__law_pick_0 : Ms := (mRet (mOp oIx (mVar 1) (mCall (fDef d__law_draw) (aCons (mVar 0) (aCons (mCall fLen (aCons (mVar 1) aNil)) aNil)))))
abbrev b__law_pick : Ms := b__law_pick_0
def d__law_pick : FD := mDef 2 2 b__law_pick
abbrev b__law_size_0 : Ms := (mRet (mVar 2))
abbrev b__law_size_1 : Ms := (mRet (mCall fMax (aCons (mC (.int 1)) (aCons (mOp oAdd (mVar 2) (mCall (fDef d__law_pick) (aCons (mVar 0) (aCons (mLst (aCons (mUn oNeg (mC (.int 1))) (aCons (mC (.int 1)) (aCons (mUn oNeg (mC (.int 2))) (aCons (mC (.int 3)) aNil))))) aNil)))) aNil))))
abbrev b__law_size_2 : Ms := (mRet (mOp oAdd (mC (.int 1)) (mCall (fDef d__law_draw) (aCons (mVar 0) (aCons (mC (.int 40)) aNil)))))
abbrev b__law_size_3 : Ms := (mRet (mCall fMin (aCons (mOp oPow (mC (.int 10)) (mC (.int 30))) (aCons (mCall fMax (aCons (mC (.int 1)) (aCons (mOp oAdd (mVar 4) (mVar 5)) aNil))) aNil))))
abbrev b__law_size_4 : Ms := (mSeq (mSet 5 (mCall (fDef d__law_pick) (aCons (mVar 0) (aCons (mLst (aCons (mC (.int 0)) (aCons (mC (.int 0)) (aCons (mUn oNeg (mC (.int 1))) (aCons (mC (.int 1)) (aCons (mOp oDiv (mUn oNeg (mVar 1)) (mC (.int 2))) (aCons (mOp oSub (mC (.int 0)) (mOp oMul (mCall (fDef d__law_draw) (aCons (mVar 0) (aCons (mOp oPow (mC (.int 10)) (mC (.int 6))) aNil))) (mOp oPow (mC (.int 10)) (mC (.int 23))))) aNil))))))) aNil)))) b__law_size_3)
abbrev b__law_size_5 : Ms := (mSeq (mSet 4 (mOp oSub (mOp oPow (mC (.int 10)) (mC (.int 30))) (mOp oMul (mVar 1) (mCall (fDef d__law_draw) (aCons (mVar 0) (aCons (mC (.int 9)) aNil)))))) b__law_size_4)
abbrev b__law_size_6 : Ms := (mSeq (mIf (mTest (mOp oLt (mVar 3) (mC (.int 8)))) b__law_size_2 mNext) b__law_size_5)
abbrev b__law_size_7 : Ms := (mSeq (mIf (mTest (mOp oLt (mVar 3) (mC (.int 6)))) b__law_size_1 mNext) b__law_size_6)
abbrev b__law_size_8 : Ms := (mSeq (mIf (mTest (mOp oLt (mVar 3) (mC (.int 3)))) b__law_size_0 mNext) b__law_size_7)
abbrev b__law_size_9 : Ms := (mSeq (mPar 2 3 (aCons (mOp oMul (mVar 1) (mOp oAdd (mC (.int 1)) (mCall (fDef d__law_draw) (aCons (mVar 0) (aCons (mC (.int 6)) aNil))))) (aCons (mCall (fDef d__law_draw) (aCons (mVar 0) (aCons (mC (.int 9)) aNil))) aNil))) b__law_size_8)
abbrev b__law_size : Ms := b__law_size_9
def d__law_size : FD := mDef 2 6 b__law_size
abbrev b__law_book_0 : Ms := (mLPut (mVar 2) (mVar 3) (mOp oIx (mVar 2) (mOp oSub (mVar 3) (mC (.int 1)))))
abbrev b__law_book_1 : Ms := (mIf (bAnd (mTest (mOp oGt (mVar 3) (mC (.int 0)))) (mTest (mOp (oEq false) (mCall (fDef d__law_draw) (aCons (mVar 0) (aCons (mC (.int 9)) aNil))) (mC (.int 0))))) b__law_book_0 mNext)
abbrev b__law_book_2 : Ms := (mSeq (mDrop (mMeth fApp (mVar 2) (aCons (mTup (aCons (mCall (fDef d__law_size) (aCons (mVar 0) (aCons (mVar 4) aNil))) (aCons (mVar 4) aNil))) aNil))) b__law_book_1)
abbrev b__law_book_3 : Ms := (mSeq (mSet 4 (mCall (fDef d__law_pick) (aCons (mVar 0) (aCons (mLst (aCons (mC (.int 1)) (aCons (mC (.int 1)) (aCons (mC (.int 2)) (aCons (mC (.int 2)) (aCons (mC (.int 4)) (aCons (mC (.int 4)) (aCons (mC (.int 8)) (aCons (mC (.int 16)) (aCons (mC (.int 32)) (aCons (mC (.int 64)) aNil))))))))))) aNil)))) b__law_book_2)
abbrev b__law_book_4 : Ms := (mRet (mCall fTuple (aCons (mVar 2) aNil)))
abbrev b__law_book_5 : Ms := (mSeq (mFor (iRange (aCons (mVar 1) aNil)) (gN 3) b__law_book_3) b__law_book_4)
abbrev b__law_book_6 : Ms := (mSeq (mSet 2 (mNewL aNil)) b__law_book_5)
abbrev b__law_book : Ms := b__law_book_6
def d__law_book : FD := mDef 2 5 b__law_book
abbrev b__law_row_0 : Ms := (mSet 5 (mCall (fDef d__law_draw) (aCons (mVar 0) (aCons (mCall fLen (aCons (mVar 1) aNil)) aNil))))
abbrev b__law_row_1 : Ms := (mDrop (mMeth fApp (mVar 4) (aCons (mVar 5) aNil)))
abbrev b__law_row_2 : Ms := (mSeq (mIf (bOr (mTest (mOp (oEq false) (mVar 3) (mC (.int 0)))) (mTest (mOp (oEq false) (mCall (fDef d__law_draw) (aCons (mVar 0) (aCons (mC (.int 4)) aNil))) (mC (.int 0))))) b__law_row_0 mNext) b__law_row_1)
abbrev b__law_row_3 : Ms := (mRet (mCall fTuple (aCons (mVar 4) aNil)))
abbrev b__law_row_4 : Ms := (mSeq (mFor (iRange (aCons (mVar 2) aNil)) (gN 6) b__law_row_2) b__law_row_3)
abbrev b__law_row_5 : Ms := (mSeq (mSet 5 (mCall (fDef d__law_draw) (aCons (mVar 0) (aCons (mCall fLen (aCons (mVar 1) aNil)) aNil)))) b__law_row_4)
abbrev b__law_row_6 : Ms := (mSeq (mPar 3 4 (aCons (mCall (fDef d__law_draw) (aCons (mVar 0) (aCons (mC (.int 3)) aNil))) (aCons (mNewL aNil) aNil))) b__law_row_5)
abbrev b__law_row : Ms := b__law_row_6
def d__law_row : FD := mDef 3 7 b__law_row
abbrev b__law_record_0 : Ms := (mLPut (mVar 3) (mCall (fDef d__law_draw) (aCons (mVar 0) (aCons (mCall fLen (aCons (mVar 3) aNil)) aNil))) (mOp oAdd (mC (.int 1)) (mCall (fDef d__law_draw) (aCons (mVar 0) (aCons (mC (.int 9)) aNil)))))
abbrev b__law_record_1 : Ms := (mRet (mCall fTuple (aCons (mVar 3) aNil)))
abbrev b__law_record_2 : Ms := (mSeq (mIf (mTest (mOp (oEq false) (mLc (iSeq (mFrz (mVar 3))) (gN 5) (mTest (mOp oGt (mVar 5) (mC (.int 0)))) (mVar 5) [5]) (mLst aNil))) b__law_record_0 mNext) b__law_record_1)
abbrev b__law_record_3 : Ms := (mSeq (mSet 3 (mLcL (iSeq (mVar 1)) (gN 4) bYes (mCall (fDef d__law_pick) (aCons (mVar 0) (aCons (mVar 2) aNil))) [4])) b__law_record_2)
abbrev b__law_record_4 : Ms := (mSeq (mSet 2 (mLst (aCons (mC (.int 0)) (aCons (mC (.int 0)) (aCons (mC (.int 1)) (aCons (mC (.int 1)) (aCons (mC (.int 2)) (aCons (mC (.int 3)) (aCons (mCall (fDef d__law_draw) (aCons (mVar 0) (aCons (mC (.int 30)) aNil))) (aCons (mOp oPow (mC (.int 10)) (mC (.int 30))) (aCons (mCall (fDef d__law_draw) (aCons (mVar 0) (aCons (mOp oPow (mC (.int 10)) (mC (.int 9))) aNil))) aNil))))))))))) b__law_record_3)
abbrev b__law_record : Ms := b__law_record_4
def d__law_record : FD := mDef 2 6 b__law_record
end Sh
set_option Elab.async false
set_option linter.all false
set_option maxRecDepth 100000
namespace L3
open PySem PySem.Spec L2
def isNonT : T → Bool
  | .d .none => true
  | .q .non => true
  | _ => false
def oIsN : F2 := fun x y M Q => y = .d .none ∧ Q (.bl (isNonT x)) M
def oNotN : F2 := fun x y M Q => y = .d .none ∧ Q (.bl (!isNonT x)) M
theorem isNonT_rt {K : PySem.W.Frag} {B : Bk} {v : V} {t : T} (h : Rt K B v t) : decide (v = .non) = isNonT t := by
  cases t with
  | d x => cases (show Rp K B.G v x from h) <;> rfl
  | mr i =>
    obtain ⟨a, rfl, _⟩ := h
    rfl
  | lr i =>
    obtain ⟨a, rfl, _⟩ := h
    rfl
  | scr ns =>
    obtain ⟨a, rfl, _⟩ := h
    rfl
  | wt xs =>
    obtain ⟨a, vs, rfl, _⟩ := h
    rfl
  | exo a c d e =>
    obtain ⟨rfl, _⟩ := h
    rfl
  | q x => cases (show Rq K B.G v x from h) <;> rfl
theorem opl_isN {K : PySem.W.Frag} : OpL K (fun x y H Q => y = .non ∧ Q (.bl (decide (x = .non))) H) oIsN := by
  rintro x y t u M B H Q Q' ⟨rfl, h⟩ w rx ry k
  cases (show Rp K B.G y .none from ry)
  refine ⟨rfl, ?_⟩
  rw [isNonT_rt rx]
  exact k _ _ M B H h w (.refl _ _) (.bl _)
theorem opl_notN {K : PySem.W.Frag} : OpL K (fun x y H Q => y = .non ∧ Q (.bl (!decide (x = .non))) H) oNotN := by
  rintro x y t u M B H Q Q' ⟨rfl, h⟩ w rx ry k
  cases (show Rp K B.G y .none from ry)
  refine ⟨rfl, ?_⟩
  rw [isNonT_rt rx]
  exact k _ _ M B H h w (.refl _ _) (.bl _)
section
variable {X : Cx} {a b : Expr} {ma mb : Me} {pos : Pos}
theorem me_isN (ha : ME X a ma) (hb : ME X b mb) : ME X (.Compare a [.Is] [b] pos) (mOp oIsN ma mb) := me_cmp op_isN opl_isN ha hb (nomark _)
theorem mb_notN (ha : ME X a ma) (hb : ME X b mb) : MB X (.Compare a [.IsNot] [b] pos) (mTest (mOp oNotN ma mb)) := mb_cmp op_notN opl_notN ha hb (nomark _)
end
@[simp] theorem x_isN {x : T} {M : Mem} {Q : Kt} : oIsN x (.d .none) M Q = Q (.bl (isNonT x)) M := by simp [oIsN]
@[simp] theorem x_notN {x : T} {M : Mem} {Q : Kt} : oNotN x (.d .none) M Q = Q (.bl (!isNonT x)) M := by simp [oNotN]
@[simp] theorem isNonT_n : isNonT (.d .none) = true := rfl
@[simp] theorem isNonT_i {i : Int} : isNonT (.d (.int i)) = false := rfl
@[simp] theorem isNonT_t {l : List PyData} : isNonT (.d (.tuple l)) = false := rfl
@[simp] theorem isNonT_l {l : List PyData} : isNonT (.d (.list l)) = false := rfl
end L3
set_option Elab.async false
set_option linter.all false
set_option maxRecDepth 100000
namespace L3
open PySem PySem.Spec L2
theorem begin_enum1 {v : Value} {o : Obj} {Hh : Heap → Prop} (B : Begins v o Hh) :
    Meets (Builtin.«enumerate.__new__» ⟨[.type "enumerate", v], []⟩) (fun _ R s => Hh s.heap ∧
      R (.ok (.ret (.ref (s.heap.push o).objs.size))) { s with heap := (s.heap.push o).push { cls := .type "enumerate", data := .fields #[.none, .bool false, .ref s.heap.objs.size, rawInt 0, .none, .none] } }) :=
  .of_wp fun prog w A R s hh => by
    obtain ⟨hp, gg, dd, tk, os⟩ := s
    obtain ⟨h1, hr⟩ := hh
    have hsub := sub_enumerate
    have it1 : ∀ {A' : Around} {E : Value → Shared → Prop} {Q : Value → Shared → Prop}, Q (.ref hp.objs.size) ⟨hp.push o, gg, dd, tk, os⟩ → wpAny (model prog w) A' (pyIter v) Q E ⟨hp, gg, dd, tk, os⟩ :=
      fun q => B.iter prog w _ _ ⟨hp, gg, dd, tk, os⟩ _ h1 q
    wp_walk using it1
    refine wpAny_stack_any fun st => wpAny_pure ?_
    split
    · rename_i c _ _ _ _ _
      cases (c == Value.type "enumerate")
      · wp_walk using it1
        exact ⟨_, rfl, hr⟩
      · wp_walk using it1
        exact ⟨_, rfl, hr⟩
    · wp_walk using it1
      exact ⟨_, rfl, hr⟩
inductive Src where
  | l | t
def srcS (K : PySem.W.Frag) (k : Src) (H : Hp) (a : Addr) (xs : List V) : Prop := match k with
  | .l => SqL K H a xs
  | .t => SqT K H a xs
def itS (k : Src) (h : Heap) (it a : Addr) (i : Nat) : Prop := match k with
  | .l => h.IsListIter it a i
  | .t => h.IsTupleIter it a i
def atS (k : Src) (h : Heap) (a : Addr) (items : Array Value) : Prop := match k with
  | .l => h.IsList a items
  | .t => h.IsTuple a items
def obS (k : Src) (a : Addr) : Obj := match k with
  | .l => { cls := .type "list_iterator", data := .fields #[.ref a, .int 0 0] }
  | .t => { cls := .type "tuple_iterator", data := .fields #[.ref a, .int 0 0] }
theorem drawS {prog : Program} {w : World} {A : Around} (k : Src) (hh : A.handled = none) (it a : Addr) (hne : a ≠ it) (items : Array Value) :
    Draws prog w A it [it, a] items.size (fun i v => items[i]? = some v) (fun i h => itS k h it a i ∧ atS k h a items) := by
  cases k with
  | l => exact Draws.list hh it a hne items
  | t => exact Draws.tuple hh it a hne items
theorem beginS (k : Src) (a : Addr) (items : Array Value) : Begins (.ref a) (obS k a) fun h => atS k h a items := by
  cases k with
  | l => exact begins_list a items
  | t => exact begins_tuple a items
theorem itS_ob (k : Src) {h : Heap} {it a : Addr} (e : h.get? it = some (obS k a)) : itS k h it a 0 := by
  cases k with
  | l => exact ⟨_, e, rfl, rfl⟩
  | t => exact ⟨_, e, rfl, rfl⟩
theorem itS_obj {k : Src} {h : Heap} {it a : Addr} {i : Nat} (e : itS k h it a i) : ∃ o, h.get? it = some o ∧ ∀ v, o.data ≠ .cell v := by
  cases k with
  | l =>
    obtain ⟨o, h1, _, h2⟩ := e
    exact ⟨o, h1, fun v q => by rw [h2] at q; cases q⟩
  | t =>
    obtain ⟨o, h1, _, h2⟩ := e
    exact ⟨o, h1, fun v q => by rw [h2] at q; cases q⟩
theorem itS_at {k : Src} {h h' : Heap} {it a : Addr} {i : Nat} (e : itS k h it a i) (f : ∀ o, h.get? it = some o → h'.get? it = some o) : itS k h' it a i := by
  cases k with
  | l => exact Heap.IsListIter.at e f
  | t => exact Heap.IsTupleIter.at e f
section
variable {X : Cx} {pn : List (Addr × Obj)} {sg : L2.St} {hp : Hp} {sh : Shared}
theorem invS (iv : Inv X pn sg hp sh) {k : Src} {a : Addr} {xs : List V} (h : srcS X.K k hp a xs) : ∃ its : List Value, Vals xs its ∧ atS k sh.heap a its.toArray := by
  cases k with
  | l =>
    obtain ⟨its, rv, pl, _⟩ := iv.list h
    exact ⟨its, rv, pl.isList⟩
  | t =>
    obtain ⟨its, rv, pl, _⟩ := iv.tuple h
    exact ⟨its, rv, pl⟩
end
/-- an iterator of new tuples: at turn i the tuple ys i, while S holds of the heap -/
def ItN (n : Nat) (S : Hp → Prop) (ys : Nat → List V) : It :=
  ⟨fun i H => i < n ∧ S H, fun i H x H' => ∃ p, x = .ref p ∧ H p = none ∧ H' = upd H p (.tup (ys i)), fun i H => i = n ∧ S H⟩
/-- what walks as GoesN does, once the sources are read -/
theorem turn_goes {P : Program} {w : World} {K : PySem.W.Frag} {elts : List Expr} {kk : Nat} {tpos : Pos} {I : Addr} {fp fpA wr : List Addr} {n : Nat} {S : Hp → Prop} {ys : Nat → List V} {tn : Nat → Heap → Prop}
    (mem : I ∈ fp) (obj : ∀ i h, tn i h → ∀ b ∈ fp, ∃ o, h.get? b = some o ∧ ∀ v, o.data ≠ .cell v) (keep : ∀ i h h', tn i h → (∀ b ∈ fp, ∀ o, h.get? b = some o → h'.get? b = some o) → tn i h')
    (wrs : ∀ b ∈ wr, b ∈ fp) (len : ∀ i, (ys i).length ≤ sizeLine)
    (goes : ∀ (X : Cx), X.prog = P → X.w = w → X.K = K → X.calm = true → ∀ (pn : List (Addr × Obj)) (sh : Shared) (sg : L2.St) (hp : Hp), Inv X pn sg hp sh → S hp →
      ∃ (St : Nat → Heap → Prop) (Y : Nat → Heap → Value → Heap → Prop), GoesN P w X.A (.Tuple elts kk tpos) I fpA wr n Y St ∧ (∀ i, tn i sh.heap → St i sh.heap) ∧ (∀ i h, St i h → tn i h) ∧
        ∀ i v h, i < n → Y i sh.heap v h → ∃ T us, v = .ref T ∧ sh.heap.objs.size ≤ T ∧ Vals (ys i) us ∧ h.IsTuple T us.toArray)
    (self : ∀ (A : Around) (i : Nat) (s : Shared) (Q : Value → Shared → Prop) (E : Value → Shared → Prop), tn i s.heap → Q (.ref I) s → wpAny (model P w) A (pyIter (.ref I)) Q E s) :
    Turn P w K (.Tuple elts kk tpos) (ItN n S ys) fp I tn where
  mem := mem
  obj := obj
  keep := keep
  self := self
  item := by
    intro X e1 e2 e3 hc i pn sh sg hp E iv hf st go
    obtain ⟨hi, hS⟩ := go
    obtain ⟨St, Y, W, s1, s2, hY⟩ := goes X e1 e2 e3 hc pn sh sg hp iv hS
    have alive := obj i _ st
    subst e1 e2
    refine wpAny_mono (W.goes i sh (fun v s2 => ∃ x H', Inv X pn sg H' s2 ∧ RelV x v ∧ (ItN n S ys).yld i hp x H' ∧ tn (i + 1) s2.heap ∧ ∀ b ∈ fp, H' b = none) E hi (s1 i st) fun v h' tk y st' kk' _ => ?_) (fun r s1 h => h) fun _ _ h => h
    obtain ⟨T, us, rfl, hT, rv, ht⟩ := hY i v h' hi y
    have new : ObjOk X.prog X.w (upd hp T (.tup (ys i))) h' T (.tup (ys i)) := ⟨len i, us, rv, ht⟩
    have iv2 := iv.turnedNew (t' := tk) (ch := wr) kk' (fun b hb => hf b (wrs b hb)) hT new
    refine ⟨.ref T, _, iv2, rfl, ⟨T, rfl, iv.hok.fresh hT, rfl⟩, s2 _ _ st', fun b hb => ?_⟩
    obtain ⟨o, ho, _⟩ := alive b hb
    rw [upd_ne (Nat.ne_of_lt (Nat.lt_of_lt_of_le (Heap.lt_size ho) hT))]
    exact (hf b hb).1
  done := by
    intro X e1 e2 e3 hc i pn sh sg hp E iv hf st stop
    obtain ⟨rfl, hS⟩ := stop
    obtain ⟨St, Y, W, s1, s2, hY⟩ := goes X e1 e2 e3 hc pn sh sg hp iv hS
    subst e1 e2
    exact W.stops sh _ E (s1 _ st) fun h' tk kk htk => iv.turnedL (t' := tk) (ch := wr) kk (fun b hb => hf b (wrs b hb))
theorem vals_at {xs : List V} {us : List Value} (r : Vals xs us) {i : Nat} {v : Value} (e : us[i]? = some v) : RelV (xs.getD i .non) v := by
  induction r generalizing i with
  | nil => cases e
  | cons r rr ih =>
    cases i with
    | zero =>
      cases e
      exact r
    | succ j => exact ih e
section
variable {X : Cx} {pn : List (Addr × Obj)} {sg : L2.St} {hp : Hp} {sh : Shared} {elts : List Expr} {kk : Nat} {tpos : Pos}
theorem itS_keep {k : Src} {h h' : Heap} {it a : Addr} {i : Nat} {fp : List Addr} (m : it ∈ fp) (e : itS k h it a i) (f : ∀ b ∈ fp, ∀ o, h.get? b = some o → h'.get? b = some o) : itS k h' it a i := itS_at e fun o q => f it m o q
theorem turn_enumS (P : Program) (w : World) (K : PySem.W.Frag) (k : Src) (a e it : Addr) (ne : e ≠ it) (xs : List V) :
    Turn P w K (.Tuple elts kk tpos) (ItN xs.length (fun H => srcS K k H a xs ∧ a ≠ e ∧ a ≠ it) fun i => [.int (i : Int), xs.getD i .non]) [e, it] e fun i h => (∃ old, IsEnum h e it (0 + (i : Int)) old) ∧ itS k h it a i := by
  refine turn_goes (fpA := e :: [it, a]) (wr := [e, it]) (by simp) ?_ ?_ (fun b hb => hb) (fun i => ?_) ?_ ?_
  · rintro i h ⟨⟨old, h1⟩, h2⟩ b hb
    rcases List.mem_cons.mp hb with rfl | hb
    · exact ⟨_, h1, fun v z => by cases z⟩
    · rw [List.mem_singleton.mp hb]
      exact itS_obj h2
  · rintro i h h' ⟨⟨old, h1⟩, h2⟩ f
    exact ⟨⟨old, f e (by simp) _ h1⟩, itS_keep (by simp) h2 f⟩
  · show (2 : Nat) ≤ sizeLine
    rw [sizeLine_eq]; omega
  · intro X e1 e2 e3 hc pn sh sg hp iv ⟨hS, n1, n2⟩
    subst e1 e2 e3
    obtain ⟨its, rv, at1⟩ := invS iv hS
    have hl : its.toArray.size = xs.length := by rw [List.size_toArray]; exact rv.length.symm
    have D := drawS (prog := X.prog) (w := X.w) (A := X.A.in1) k (iv.ok.hd hc) it a n2 its.toArray
    have G := GoesN.enumFrom (elts := elts) (x1 := kk) (pos := tpos) 0 D e ne (by simp [ne, n1.symm]) (by simp)
    rw [hl] at G
    refine ⟨_, _, G, fun i t => ⟨t.1, t.2, at1⟩, fun i h t => ⟨t.1, t.2.1⟩, fun i v h hi y => ?_⟩
    obtain ⟨T, t, x, rfl, hT, hx, ht⟩ := y
    refine ⟨T, [.int (0 + (i : Int)) t, x], rfl, hT, ?_, ht⟩
    have hx' : its[i]? = some x := by rw [← List.getElem?_toArray]; exact hx
    rw [Int.zero_add]
    exact .cons ⟨_, rfl⟩ (.cons (vals_at rv hx') .nil)
  · rintro A i s Q E ⟨⟨old, h1⟩, h2⟩ q
    exact wpAny_pyIter_enum h1 q
theorem enum_begins1 {prog : Program} {w : World} {A : Around} {E : Value → Shared → Prop} {s : Shared} {v : Value} {o : Obj} {H : Heap → Prop} {Q : Value → Shared → Prop} (B : Begins v o H) (h1 : H s.heap)
    (h : ∀ h', IsEnum h' (s.heap.objs.size + 1) s.heap.objs.size 0 .none → h'.get? s.heap.objs.size = some o → h'.objs.size = s.heap.objs.size + 2 →
      (∀ b o, s.heap.get? b = some o → h'.get? b = some o) → Q (.ref (s.heap.objs.size + 1)) { s with heap := h' }) :
    wpAny (model prog w) A (call (.type "enumerate") [v]) Q E s := by
  refine callType_new F.called_enumerate (by decide) (F.typeCall_enumerate_1 _) (F.newCall_enumerate_1 _) (fun obj => F.args_object_init_2 obj _) F.entry_enumerate_new
    (begin_enum1 B) ⟨h1, ?_⟩
  have hz : (s.heap.push o).objs.size = s.heap.objs.size + 1 := Heap.size_push ..
  show _ ∧ _
  rw [hz]
  have he : IsEnum ((s.heap.push o).push { cls := .type "enumerate", data := .fields #[.none, .bool false, .ref s.heap.objs.size, rawInt 0, .none, .none] }) (s.heap.objs.size + 1) s.heap.objs.size 0 .none := by
    have := Heap.get?_push_size (s.heap.push o) (o := { cls := .type "enumerate", data := .fields #[.none, .bool false, .ref s.heap.objs.size, rawInt 0, .none, .none] }) rfl
    rw [hz] at this; exact this
  exact ⟨⟨_, he, rfl⟩, h _ he (Heap.get?_push_of_some _ (Heap.get?_push_size _ B.free)) (by rw [Heap.size_push, hz]) fun b o x => Heap.get?_push_of_some _ (Heap.get?_push_of_some _ x)⟩
theorem srcS_none {K : PySem.W.Frag} {k : Src} {H : Hp} {a : Addr} {xs : List V} (h : srcS K k H a xs) (iv : Inv X pn sg H sh) (e : X.K = K) : a < sh.heap.objs.size := by
  subst e
  obtain ⟨its, _, at1⟩ := invS iv h
  cases k with
  | l =>
    obtain ⟨o, h1, _⟩ := at1
    exact Heap.lt_size h1
  | t =>
    obtain ⟨o, h1, _⟩ := at1
    exact Heap.lt_size h1
theorem pie_enumS {k : Src} {a : Addr} {xs : List V} {R : It → Hp → Prop} (iv : Inv X pn sg hp sh) (hq : srcS X.K k hp a xs)
    (hR : ∀ e it, e ≠ a → it ≠ a → R (ItN xs.length (fun H => srcS X.K k H a xs ∧ a ≠ e ∧ a ≠ it) fun i => [.int (i : Int), xs.getD i .non]) hp) :
    wpAny (model X.prog X.w) X.A (call (.type "enumerate") [.ref a]) (fun v s1 => wpAny (model X.prog X.w) X.A (pyIter v) (PIE X pn sg (.Tuple elts kk tpos) R) X.xe s1) X.xe sh := by
  obtain ⟨its, rv, at1⟩ := invS iv hq
  have la := srcS_none hq iv rfl
  refine enum_begins1 (beginS k a its.toArray) at1 fun h' he hit hsz hk => wpAny_pyIter_enum he ?_
  have I2 : Inv X pn sg hp { sh with heap := h' } := iv.kept (t' := sh.toks) hk
  refine ⟨sh.heap.objs.size + 1, [sh.heap.objs.size + 1, sh.heap.objs.size], _, _, hp, rfl, I2, turn_enumS X.prog X.w X.K k a _ _ (Nat.succ_ne_self _) xs, ⟨⟨_, he⟩, itS_ob k hit⟩, fun b hb => ?_, hR _ _ (Nat.ne_of_gt (Nat.lt_succ_of_lt la)) (Nat.ne_of_gt la)⟩
  have e' : b = sh.heap.objs.size + 1 ∨ b = sh.heap.objs.size := by simpa using hb
  have hle : sh.heap.objs.size ≤ b := by
    rcases e' with z | z
    · rw [z]; exact Nat.le_add_right _ _
    · rw [z]; exact Nat.le_refl _
  exact iv.fpOk hle (iv.hok.fresh hle)
end
end L3
set_option Elab.async false
set_option linter.all false
set_option maxRecDepth 100000
namespace L3
open PySem PySem.Spec L2
def enumT (xs : List PyData) : List T := (List.range xs.length).map fun (i : Nat) => T.wt [.int (i : Int), xs.getD i .none]
def zipT (xs ys : List PyData) : List T := (List.range (min xs.length ys.length)).map fun (i : Nat) => T.wt [xs.getD i .none, ys.getD i .none]
def seqOf : T → Option (List PyData)
  | .d (.list xs) => some xs
  | .d (.tuple xs) => some xs
  | _ => none
def iEnum (r : Ma) : Mi := fun τ M Q => r τ M fun ts M1 => match ts with
  | [t] => (match seqOf t with
    | some xs => Q (enumT xs) M1
    | none => False)
  | _ => False
def iZip2 (r : Ma) : Mi := fun τ M Q => r τ M fun ts M1 => match ts with
  | [t, u] => (match seqOf t, seqOf u with
    | some xs, some ys => Q (zipT xs ys) M1
    | _, _ => False)
  | _ => False
theorem srcS_mono {K : PySem.W.Frag} {k : Src} {G G' : Hp} {a : Addr} {xs : List V} (g : ∀ a o, G a = some o → G' a = some o) (h : srcS K k G a xs) : srcS K k G' a xs := by
  cases k with
  | l => exact SqL.mono g h
  | t => exact SqT.mono0 g h
section
open PyProof.Rows HT
variable {X : Cx} {e e2 : Expr} {mr : Ma} {p pos tpos : Pos} {elts : List Expr} {kk : Nat}
end
variable {τ : En} {M : Mem} {a : Ma}
@[simp] theorem x_seql {xs : List PyData} : seqOf (.d (.list xs)) = some xs := rfl
@[simp] theorem x_seqt {xs : List PyData} : seqOf (.d (.tuple xs)) = some xs := rfl
@[simp] theorem x_ienum {R : List T → Mem → Prop} : iEnum a τ M R = a τ M fun ts M1 => match ts with
  | [t] => (match seqOf t with
    | some xs => R (enumT xs) M1
    | none => False)
  | _ => False := rfl
@[simp] theorem x_izip2 {R : List T → Mem → Prop} : iZip2 a τ M R = a τ M fun ts M1 => match ts with
  | [t, u] => (match seqOf t, seqOf u with
    | some xs, some ys => R (zipT xs ys) M1
    | _, _ => False)
  | _ => False := rfl
end L3
set_option Elab.async false
set_option linter.all false
set_option maxRecDepth 100000
namespace L3
open PySem PySem.Spec L2
def fPopAt (x : T) : FA := fun ts M Q => match x, ts with
  | .lr i, [.d (.int j)] => (match M.L[i]? with
    | some (some ds) => (0 ≤ j ∧ j < 2 ^ 63 ∧ j.toNat < ds.length) ∧ ∀ z, ds[j.toNat]? = some z → Q (.d z) { M with L := M.L.set i (some (ds.eraseIdx j.toNat)) }
    | _ => False)
  | _, _ => False
section
variable {X : Cx}
end
def CBig (i j : Int) : Prop := i.natAbs < 2 ^ 300 ∧ j.natAbs < 2 ^ 300
def oMulW : F2 := oI CBig fun i j => .int (i * j)
def oRepT : F2 := fun x y M Q => match x, y with
  | .d (.tuple xs), .d (.int j) => (xs ≠ [] ∧ 2 ≤ j ∧ j ≤ 1000 ∧ xs.length ≤ 1000) ∧ Q (.tup (List.replicate j.toNat xs).flatten) M
  | _, _ => False
theorem opl_repT {K : PySem.W.Frag} : OpL K (rRepC K) oRepT := by
  intro x y t u M B H Q Q' h w rx ry k
  unfold oRepT at h
  split at h
  · cases rx with
    | tup e1 q1 =>
      cases ry
      obtain ⟨⟨h0, h1, h2, h3⟩, q⟩ := h
      refine ⟨_, _, _, rfl, rfl, SqT.mono w.le e1, ?_, h1, h2, ?_, fun p o hp ho => ?_⟩
      · intro z
        subst z
        cases q1
        exact h0 rfl
      · rw [RpA.length q1]
        exact h3
      · obtain ⟨w', x'⟩ := w.alloc hp (.frz o (.tup _))
        exact k _ _ M _ _ q w' x' (.tup (.inl ⟨o, upd_same, ho⟩) (RpA.mono x'.g (RpA.rep q1 _)))
  · exact h.elim
theorem me_repT {X : Cx} {a b : Expr} {ma mb : Me} {pos : Pos} (ha : ME X a ma) (hb : ME X b mb) : ME X (.BinOp a .Mult b pos) (mOp oRepT ma mb) := me_op op_repC opl_repT ha hb
variable {M : Mem} {Q : Kt} {D : List Cell} {L : List (Option (List PyData))} {i : Nat}
@[simp] theorem x_mulW {i j : Int} : oMulW (.d (.int i)) (.d (.int j)) M Q = (CBig i j ∧ Q (.int (i * j)) M) := rfl
@[simp] theorem x_repT {xs : List PyData} {j : Int} : oRepT (.d (.tuple xs)) (.d (.int j)) M Q = ((xs ≠ [] ∧ 2 ≤ j ∧ j ≤ 1000 ∧ xs.length ≤ 1000) ∧ Q (.tup (List.replicate j.toNat xs).flatten) M) := rfl
@[simp] theorem x_popAt {j : Int} : fPopAt (.lr i) [.d (.int j)] M Q = (match M.L[i]? with
    | some (some ds) => (0 ≤ j ∧ j < 2 ^ 63 ∧ j.toNat < ds.length) ∧ ∀ z, ds[j.toNat]? = some z → Q (.d z) { M with L := M.L.set i (some (ds.eraseIdx j.toNat)) }
    | _ => False) := rfl
section
open PyProof.Rows
variable {prog : Program} {w : World} {A : Around} {E : Value → Shared → Prop} {s : Shared} {l : Addr}
theorem sum_intTup {xs : Array (Int × Tok)} {Q : Value → Shared → Prop} (hh : A.handled = none) (hl : s.heap.IsTuple l (intItems xs))
    (h : ∀ h' tk t', (∀ b o, s.heap.get? b = some o → h'.get? b = some o) → Q (.int (preSum (numAt xs) xs.size) t') { s with heap := h', toks := tk }) :
    wpAny (model prog w) A (call (.builtin "sum") [.ref l]) Q E s := by
  have hlt : l < s.heap.objs.size := by
    obtain ⟨o, h1, _⟩ := hl
    exact Heap.lt_size h1
  refine call_sum_walkG (wpAny_pyIter_tuple hl ?_)
  refine ⟨_, [_, l], [_], _, _, _, numAt xs, rfl, Walks.tuple (A := A.in1) hh _ l (Nat.ne_of_lt hlt) (intItems xs), ⟨⟨_, Heap.get?_push_size _ rfl, rfl, rfl⟩, hl.push _⟩, fun c hc => ?_, (fun _ _ => intItems_at), fun h' tk t' hk => ?_⟩
  · rw [Heap.size_push]
    rcases List.mem_cons.mp hc with z | z
    · rw [z]; exact Nat.lt_succ_self _
    · rw [List.mem_singleton.mp z]; exact Nat.lt_succ_of_lt hlt
  · have := h h' tk t' fun b o e => hk b o (fun z => by
      rw [List.mem_singleton.mp z] at e
      exact absurd (Heap.lt_size e) (Nat.lt_irrefl _)) (Heap.get?_push_of_some _ e)
    simpa [intItems] using this
theorem sumT_raw {its : List Value} {ns : List Int} {Q : Value → Shared → Prop} (hh : A.handled = none) (hl : s.heap.IsTuple l its.toArray) (hi : IntsAre its ns)
    (h : ∀ h' tk t', (∀ b o, s.heap.get? b = some o → h'.get? b = some o) → Q (.int ns.sum t') { s with heap := h', toks := tk }) : wpAny (model prog w) A (call (.builtin "sum") [.ref l]) Q E s := by
  obtain ⟨xs, e⟩ := hi.allInts.items
  have hn : numsOf (intItems xs).toList = ns := by rw [← e]; exact hi.numsOf
  rw [nums_intItems] at hn
  rw [e] at hl
  refine sum_intTup hh hl fun h' tk t' hk => ?_
  have := h h' tk t' hk
  rw [preSum_eq, List.take_of_length_le (by simp), hn]; exact this
end
def rSumT (K : PySem.W.Frag) : List V → Hp → VK → Prop := fun vs H Q => ∃ (a : Addr) (ns : List Int), vs = [V.ref a] ∧ SqT K H a (ns.map V.int) ∧ Q (.int ns.sum) H
theorem cr_sumT {X : Cx} (hc : X.calm = true) : CallR X (.builtin "sum") (rSumT X.K) := by
  intro pins s σ H vs us Q I r h
  obtain ⟨a, ns, rfl, hs, q⟩ := h
  obtain ⟨its, rv, hl, _⟩ := I.tuple hs
  rw [Vals.ref1 r]
  exact sumT_raw (I.ok.hd hc) hl rv.ints fun h' tk t' hk => ⟨.int _, H, I.kept hk, ⟨_, rfl⟩, q⟩
def fSumT : FA := fun ts M Q => match ts with
  | [.d (.tuple xs)] => (match intsOf xs with
    | some ns => Q (.int ns.sum) M
    | none => False)
  | _ => False
theorem rpa_ints {K : PySem.W.Frag} {G : Hp} : ∀ {ns : List Int} {vs : List V}, RpA K G vs (ns.map .int) → vs = ns.map V.int
  | [], _, .nil => rfl
  | _ :: _, _, .cons p q => by
    cases p
    rw [rpa_ints q]
    rfl
theorem cal_sumT {K : PySem.W.Frag} : CaL K (rSumT K) fSumT := by
  intro xs ts M B H Q Q' h w r k
  unfold fSumT at h
  split at h
  · obtain ⟨v, rfl, r1⟩ := paired_one r
    split at h
    · rename_i ns e
      have e2 := intsOf_eq e
      subst e2
      cases (show Rp K B.G v (.tuple _) from r1) with
      | tup e1 q1 =>
        rw [rpa_ints q1] at e1
        exact ⟨_, ns, rfl, SqT.mono w.le e1, k _ _ M B H h w (.refl _ _) (.int _)⟩
    · exact h.elim
  · exact h.elim
section
variable {X : Cx} {e : Expr} {es : List Expr} {mr : Ma} {p pos : Pos}
end
end L3
set_option Elab.async false
set_option linter.all false
set_option maxRecDepth 100000
namespace Sh
open PySem PySem.Spec L2 L3
def rk (cells : List Int) (stamp count : Int) : List (Key × T) := [(.inr "deep", .mr 0), (.inr "cells", .lst (cells.map .int)), (.inr "stamp", .int stamp), (.inr "count", .int count)]
def rd (deep cells : List Int) (stamp count : Int) : List Cell := [.lst (deep.map T.int), .dct (rk cells stamp count)]
@[simp] theorem rk_deep {c : List Int} {s n : Int} : lookT (rk c s n) (.inr "deep") = some (.mr 0) := by
  unfold rk lookT
  rfl
@[simp] theorem rk_cells {c : List Int} {s n : Int} : lookT (rk c s n) (.inr "cells") = some (.lst (c.map .int)) := by
  unfold rk lookT
  rfl
@[simp] theorem rk_stamp {c : List Int} {s n : Int} : lookT (rk c s n) (.inr "stamp") = some (.int s) := by
  unfold rk lookT
  rfl
@[simp] theorem rk_count {c : List Int} {s n : Int} : lookT (rk c s n) (.inr "count") = some (.int n) := by
  unfold rk lookT
  rfl
@[simp] theorem rk_put {c : List Int} {s n m : Int} : putT (rk c s n) (.inr "count") (.int m) = rk c s m := by
  unfold rk putT
  rfl
@[simp] theorem rk_len {c : List Int} {s n : Int} : (rk c s n).length = 4 := rfl
structure RI (D : List Cell) : Prop where
  ex : ∃ (deep cells : List Int) (stamp count : Int), D = rd deep cells stamp count ∧ cells ≠ [] ∧ cells.length ≤ 64 ∧ deep.length ≤ 64 ∧ 0 ≤ stamp ∧ stamp < 4294967291 ∧ 0 ≤ count
theorem sz4 : (4 : Nat) < sizeLine := by rw [sizeLine_eq]; decide
theorem sz64 {n : Nat} (h : n ≤ 100000) : n < sizeLine := by rw [sizeLine_eq]; omega
theorem sz64' {n : Nat} (h : n ≤ 100000) : n ≤ sizeLine := by rw [sizeLine_eq]; omega
theorem datas_ints : ∀ l : List Int, datas (l.map T.int) = some (l.map PyData.int)
  | [] => rfl
  | x :: l => by
    show (datas (l.map T.int)).map (PyData.int x :: ·) = _
    rw [datas_ints l]
    rfl
theorem shaped_ints (l : List Int) : SeqAt.shaped (.list (l.map .int)) = true := by
  have h1 : ∀ l : List Int, PyData.canLayAll0 (l.map .int) = true := by
    intro l
    induction l with
    | nil => rfl
    | cons x l ih => simp [PyData.canLayAll0, PyData.canLay0, ih]
  have h2 : ∀ l : List Int, PyData.depthAll (l.map .int) ≤ 1 := by
    intro l
    induction l with
    | nil => simp [PyData.depthAll]
    | cons x l ih =>
      simp [PyData.depthAll, PyData.depth]
      omega
  unfold SeqAt.shaped
  rw [Bool.and_eq_true]
  refine ⟨by simp [PyData.canLay0, h1], decide_eq_true ?_⟩
  have := h2 l
  simp only [PyData.depth]
  omega
theorem eqv_nil (l : List PyData) : PyData.eqv (.list l) (.list []) = l.isEmpty := by
  cases l <;> simp [PyData.eqv, PyData.eqvAll]
theorem atI_mod {l : List Int} {i : Int} (h0 : 0 ≤ i) (h1 : i < l.length) : ∃ v, atI (l.map PyData.int) i = some (.int v) := by
  obtain ⟨n, rfl⟩ : ∃ n : Nat, i = n := ⟨i.toNat, by omega⟩
  have hn : n < l.length := by omega
  exact ⟨l[n], atI_nat (by rw [List.getElem?_map, List.getElem?_eq_getElem hn]; rfl)⟩
theorem he_nil {deep : List Int} {X : Cell} {n : Bool} {Q : Kt} : oEq n (.mr 0) (.d (.list [])) ⟨[.lst (deep.map T.int), X], []⟩ Q = Q (.bl (if n then !deep.isEmpty else deep.isEmpty)) ⟨[.lst (deep.map T.int), X], []⟩ := by
  rw [x_eq (a := .list (deep.map .int)) (b := .list []) ?_ rfl (shaped_ints _) (shaped_ints []) (fun _ z => nomatch z), eqv_nil]
  · cases deep <;> rfl
  · simp [now, datas_ints]
theorem rang {i j : Int} (h : 0 < j) : 0 ≤ i % j ∧ i % j < j := ⟨Int.emod_nonneg _ (by omega), Int.emod_lt_of_pos _ h⟩
/-- the draw's second half -/
theorem draw_tail {deep cells : List Int} {stamp count many : Int} {Q : T → List Cell → Prop} {t3 : Option T} (hc : cells ≠ []) (hcl : cells.length ≤ 64) (hdl : deep.length ≤ 64) (hs : 0 ≤ stamp) (hs2 : stamp < 4294967291) (hn : 0 ≤ count) (h1 : 1 ≤ many) (h2 : many < 18446744073709551616)
    (q : ∀ n D', 0 ≤ n → n < many → RI D' → Q (.int n) D') : b__law_draw_9 { nx := fun _ M => Q .non M.D, rt := fun t M => noL t = true ∧ Q t M.D } [some (.mr 1), some (.int many), some (.mr 0), t3, none, none, none, none] ⟨rd deep cells stamp count, []⟩ := by
  have hl : 0 < cells.length := List.length_pos_iff.mpr hc
  refine w_seq ?_
  simp [rd, sz4]
  refine w_seq ?_
  simp
  refine w_seq ?_
  have hr := rang (i := (count + 1) * 7) (j := cells.length) (by omega)
  obtain ⟨v, hv⟩ := atI_mod (l := cells) (i := (count + 1) * 7 % cells.length) hr.1 hr.2
  simp
  refine ⟨by unfold CMul; omega, hl, _, hv, ?_⟩
  simp
  refine ⟨by unfold CMul; omega, by unfold CMul; omega, ?_⟩
  refine w_seq (w_for ?_)
  simp [rangeT, List.range_succ]
  have hm := rang (i := v * 2246822519 + stamp + (count + 1) * 3266489917) (j := 4294967291) (by omega)
  rw [x_forc]
  simp
  refine ⟨by unfold CMul; omega, by unfold CMul; omega, ?_⟩
  rw [x_forc]
  simp
  have hm2 := rang (i := (v * 2246822519 + stamp + (count + 1) * 3266489917) % 4294967291 * ((v * 2246822519 + stamp + (count + 1) * 3266489917) % 4294967291) + stamp * (count + 1)) (j := 4294967279) (by omega)
  refine ⟨by unfold CMul; omega, by unfold CMul; omega, ?_⟩
  rw [x_forn]
  simp
  refine ⟨by unfold CDv; omega, by omega, ?_⟩
  have hf := fun x : Int => rang (i := x) (j := many) (by omega)
  exact q _ _ (hf _).1 (hf _).2 ⟨deep, cells, stamp, count + 1, rfl, hc, hcl, hdl, hs, hs2, by omega⟩
theorem sp_draw {D : List Cell} {many : Int} {Q : T → List Cell → Prop} (hD : RI D) (h1 : 1 ≤ many) (h2 : many < 18446744073709551616) (q : ∀ n D', 0 ≤ n → n < many → RI D' → Q (.int n) D') : d__law_draw [.mr 1, .int many] D Q := by
  obtain ⟨deep, cells, stamp, count, rfl, hc, hcl, hdl, hs, hs2, hn⟩ := hD.ex
  refine ⟨rfl, ?_⟩
  have ht := fun (t3 : Option T) => draw_tail (t3 := t3) hc hcl hdl hs hs2 hn h1 h2 q
  refine w_seq ?_
  simp [rd]
  refine w_seq (w_if ?_)
  simp [he_nil]
  by_cases hd : deep = []
  · subst hd
    exact .inl ⟨rfl, ht none⟩
  · refine .inr ⟨hd, ?_⟩
    by_cases hm : many ≤ 1
    · exact .inl ⟨hm, ht none⟩
    · refine .inr ⟨by omega, ?_⟩
      obtain ⟨d0, x, rfl⟩ : ∃ d0 x, deep = d0 ++ [x] := ⟨deep.dropLast, deep.getLast hd, (List.dropLast_concat_getLast hd).symm⟩
      refine w_seq ?_
      simp
      refine w_seq (w_if ?_)
      simp
      have hp := fun x : Int => rang (i := x) (j := many) (by omega)
      have hl2 : d0.length + 1 ≤ 64 := by simpa using hdl
      by_cases hx : x < many
      · exact .inl ⟨hx, by omega, q _ _ (hp x).1 (hp x).2 ⟨d0, cells, stamp, count, rfl, hc, hcl, by omega, hs, hs2, hn⟩⟩
      · refine .inr ⟨by omega, by unfold CDv; omega, sz64 (by omega), by omega, q _ _ (hp x).1 (hp x).2 ⟨d0 ++ [x / many], cells, stamp, count, ?_, hc, hcl, by simpa using hl2, hs, hs2, hn⟩⟩
        simp [rd]
end Sh
set_option Elab.async false
set_option linter.all false
set_option maxRecDepth 100000
namespace Sh
open PySem PySem.Spec L2 L3
theorem for_all {g : Mg} {b : Ms} {E : Es} {ts : List T} {τ : En} {M : Mem} (I : Nat → En → Mem → Prop) (h0 : I 0 τ M)
    (step : ∀ (i : Nat) (τ : En) (M : Mem) (t : T) (R : En → Mem → Prop), ts[i]? = some t → I i τ M → (∀ τ' M', I (i + 1) τ' M' → R τ' M') → g t τ M fun τ1 M1 => b { E with nx := R, ct := R, bk := E.nx } τ1 M1)
    (done : ∀ τ M, I ts.length τ M → E.nx τ M) : goFor g b E ts τ M := by
  have key : ∀ (rest : List T) (i : Nat) (τ : En) (M : Mem), ts.drop i = rest → i ≤ ts.length → I i τ M → goFor g b E rest τ M := by
    intro rest
    induction rest with
    | nil =>
      intro i τ M e hi h
      have : i = ts.length := by
        have := congrArg List.length e
        simp at this
        omega
      subst this
      exact done τ M h
    | cons t rest ih =>
      intro i τ M e hi h
      have hlt : i < ts.length := by
        rcases Nat.lt_or_ge i ts.length with q | q
        · exact q
        · rw [List.drop_eq_nil_of_le q] at e; cases e
      rw [drop_at hlt] at e
      obtain ⟨e1, e2⟩ := List.cons.inj e
      rw [x_forc]
      refine step i τ M t _ (by rw [← e1]; exact List.getElem?_eq_getElem hlt) h fun τ' M' h' => ?_
      exact ih (i + 1) τ' M' e2 hlt h'
  exact key ts 0 τ M rfl (Nat.zero_le _) h0
theorem lc_all {g : Mg} {c : Mb} {m : Me} {τ0 : En} {F : List PyData → Mem → Prop} {ts : List T} {M : Mem} (I : Nat → List PyData → Mem → Prop) (h0 : I 0 [] M)
    (step : ∀ (i : Nat) (acc : List PyData) (M : Mem) (t : T) (R : List PyData → Mem → Prop), ts[i]? = some t → I i acc M → (∀ acc' M', I (i + 1) acc' M' → R acc' M') →
      g t τ0 M fun τ1 M1 => c τ1 M1 fun k M2 => if k = true then m τ1 M2 fun y M3 => (match y with | .d z => acc.length < sizeLine ∧ R (acc ++ [z]) M3 | _ => False) else R acc M2)
    (done : ∀ acc M, I ts.length acc M → F acc M) : goLc g c m τ0 F ts [] M := by
  have key : ∀ (rest : List T) (i : Nat) (acc : List PyData) (M : Mem), ts.drop i = rest → i ≤ ts.length → I i acc M → goLc g c m τ0 F rest acc M := by
    intro rest
    induction rest with
    | nil =>
      intro i acc M e hi h
      have : i = ts.length := by
        have := congrArg List.length e
        simp at this
        omega
      subst this
      exact done acc M h
    | cons t rest ih =>
      intro i acc M e hi h
      have hlt : i < ts.length := by
        rcases Nat.lt_or_ge i ts.length with q | q
        · exact q
        · rw [List.drop_eq_nil_of_le q] at e; cases e
      rw [drop_at hlt] at e
      obtain ⟨e1, e2⟩ := List.cons.inj e
      rw [x_lcc]
      exact step i acc M t (fun a m' => goLc g c m τ0 F rest a m') (by rw [← e1]; exact List.getElem?_eq_getElem hlt) h fun a' M' h' => ih (i + 1) a' M' e2 hlt h'
  exact key ts 0 [] M rfl (Nat.zero_le _) h0
/-- a comprehension that changes nothing: f of every item of which p -/
theorem lc_pf {g : Mg} {c : Mb} {m : Me} {τ0 : En} {F : List PyData → Mem → Prop} {α : Type} {ts : List α} {e : α → T} {M : Mem} (p : α → Bool) (f : α → PyData) (hz : ts.length ≤ sizeLine)
    (step : ∀ (x : α) (acc : List PyData) (R : List PyData → Mem → Prop), x ∈ ts → acc.length < sizeLine → R (if p x = true then acc ++ [f x] else acc) M →
      g (e x) τ0 M fun τ1 M1 => c τ1 M1 fun k M2 => if k = true then m τ1 M2 fun y M3 => (match y with | .d z => acc.length < sizeLine ∧ R (acc ++ [z]) M3 | _ => False) else R acc M2)
    (done : F ((ts.filter p).map f) M) : goLc g c m τ0 F (ts.map e) [] M := by
  refine lc_all (fun i acc M' => M' = M ∧ acc = ((ts.take i).filter p).map f) ⟨rfl, rfl⟩ ?_ ?_
  · rintro i acc M' t R ht ⟨rfl, rfl⟩ k
    rw [List.getElem?_map] at ht
    cases hx : ts[i]? with
    | none => rw [hx] at ht; cases ht
    | some x =>
      rw [hx] at ht
      cases ht
      have hi : i < ts.length := by
        rcases Nat.lt_or_ge i ts.length with q | q
        · exact q
        · rw [List.getElem?_eq_none q] at hx; cases hx
      have hm : x ∈ ts := List.mem_of_getElem? hx
      have hlen : (((ts.take i).filter p).map f).length < sizeLine := by
        rw [List.length_map]
        have := List.length_filter_le p (ts.take i)
        rw [List.length_take] at this
        omega
      refine step x _ R hm hlen (k _ _ ⟨rfl, ?_⟩)
      rw [List.take_add_one, hx, Option.toList_some, List.filter_append, List.map_append]
      by_cases hp : p x = true
      · rw [if_pos hp]
        simp [hp]
      · rw [if_neg hp]
        simp [hp]
  · rintro acc M' ⟨rfl, rfl⟩
    rw [List.length_map, List.take_length]
    exact done
theorem lc_pure {g : Mg} {m : Me} {τ0 : En} {F : List PyData → Mem → Prop} {α : Type} {ts : List α} {e : α → T} {M : Mem} (f : α → PyData) (hz : ts.length ≤ sizeLine)
    (step : ∀ (x : α) (acc : List PyData) (R : List PyData → Mem → Prop), x ∈ ts → acc.length < sizeLine → R (acc ++ [f x]) M →
      g (e x) τ0 M fun τ1 M1 => m τ1 M1 fun y M3 => (match y with | .d z => acc.length < sizeLine ∧ R (acc ++ [z]) M3 | _ => False))
    (done : F (ts.map f) M) : goLc g bYes m τ0 F (ts.map e) [] M := by
  refine lc_pf (fun _ => true) f hz (fun x acc R hx ha hr => ?_) (by rw [List.filter_eq_self.mpr (by simp)]; exact done)
  simp only [x_byes, if_true]
  exact step x acc R hx ha (by simpa using hr)
theorem cut63 {ns : List Int} (h : ns.length ≤ 63) : cutT ns none (some 63) = ns := by
  unfold cutT
  have h1 : HT.sIx ns.length 0 none = 0 := rfl
  have h2 : HT.sIx ns.length ns.length (some 63) = ns.length := by
    show (if (63 : Int) < 0 then ((63 : Int) + (ns.length : Int)).toNat else min (63 : Int).toNat ns.length) = ns.length
    rw [if_neg (by omega)]
    omega
  rw [h1, h2]
  simp
def dbl (n : Int) : Int := if 0 ≤ n then 2 * n else -2 * n - 1
theorem map_map' (f : Int → Int) (l : List Int) : l.map (fun x => PyData.int (f x)) = (l.map f).map .int := by rw [List.map_map]; rfl
theorem sp_reel {ns : List Int} {Q : T → List Cell → Prop} (h : ns.length ≤ 63) (q : ∀ D, RI D → Q (.mr 1) D) : d__law_reel [.scr ns] [] Q := by
  have h0 : ns.length ≤ sizeLine := sz64' (by omega)
  refine ⟨rfl, w_seq ?_⟩
  simp only [x_par, x_acons, x_lc, x_iseq, x_sl, x_var]
  simp [wipeT, cut63 h]
  refine lc_pure (e := T.d ∘ PyData.int) (fun n => .int (dbl n)) h0 (fun x acc R _ ha hr => ?_) ?_
  · simp
    unfold dbl at hr
    by_cases hx : 0 ≤ x
    · rw [if_pos hx] at hr
      exact .inr ⟨hx, by unfold CMul; omega, ha, hr⟩
    · rw [if_neg hx] at hr
      exact .inl ⟨by omega, by unfold CMul; omega, ha, hr⟩
  · rw [map_map']
    have hl : (ns.map dbl).length ≤ 63 := by rw [List.length_map]; exact h
    generalize ns.map dbl = cs at hl
    refine w_seq (w_for ?_)
    simp
    refine for_all (fun i τ M => M = ⟨[], []⟩ ∧ ∃ st w, τ = [some (.scr ns), some (.lst (cs.map .int)), some (.int st), w, none] ∧ 0 ≤ st ∧ st < 4294967291) ⟨rfl, _, _, rfl, by omega, by omega⟩ ?_ ?_
    · rintro i τ M t R ht ⟨rfl, st, w, rfl, h1, h2⟩ k
      rw [List.getElem?_map] at ht
      cases hx : cs[i]? with
      | none => rw [hx] at ht; cases ht
      | some x =>
        rw [hx] at ht
        cases ht
        have hm := rang (i := st * 69069 + x * 11 + 5) (j := 4294967291) (by omega)
        simp
        refine ⟨by unfold CMul; omega, by unfold CMul; omega, ?_⟩
        exact k _ _ ⟨rfl, _, _, rfl, hm.1, hm.2⟩
    · rintro τ M ⟨rfl, st, w, rfl, h1, h2⟩
      dsimp only
      refine w_seq ?_
      simp only [x_set, mLcD, x_iseq, x_var]
      simp [wipeT]
      refine lc_pf (e := T.d ∘ PyData.int) (fun n => decide (1000000000000000000 ≤ n)) (fun n => .int n) (sz64' (by omega)) (fun x acc R _ ha hr => ?_) ?_
      · simp [CPow]
        by_cases hx : 1000000000000000000 ≤ x
        · rw [if_pos (decide_eq_true hx)] at hr
          exact .inr ⟨hx, ha, hr⟩
        · rw [if_neg (by simpa using hx)] at hr
          exact .inl ⟨by omega, hr⟩
      · generalize hdp : cs.filter (fun n => decide (1000000000000000000 ≤ n)) = dp
        have hdl : dp.length ≤ 63 := by
          rw [← hdp]
          exact Nat.le_trans (List.length_filter_le _ _) hl
        simp [mDisp, goD, sizeLine_eq]
        refine ⟨by unfold CMul; omega, by omega, by decide, ?_⟩
        refine q _ ⟨dp, cs ++ [2 * (cs.length : Int) + 1], st, 0, ?_, by simp, by simp; omega, by omega, h1, h2, by omega⟩
        simp [rd, rk]
end Sh
set_option Elab.async false
set_option linter.all false
set_option maxRecDepth 100000
namespace Sh
open PySem PySem.Spec L2 L3
theorem sp_pick {D : List Cell} {xs : List PyData} {Q : T → List Cell → Prop} (hD : RI D) (h1 : xs ≠ []) (h2 : xs.length < 100000) (q : ∀ x D', x ∈ xs → RI D' → Q (.d x) D') : d__law_pick [.mr 1, .lst xs] D Q := by
  have hl : 0 < xs.length := List.length_pos_iff.mpr h1
  refine ⟨rfl, ?_⟩
  try simp
  refine sp_draw hD (by omega) (by omega) fun n D' n0 n1 hD' => ?_
  obtain ⟨k, rfl⟩ : ∃ k : Nat, n = k := ⟨n.toNat, by omega⟩
  have hk : k < xs.length := by omega
  try simp
  exact ⟨_, atI_nat (List.getElem?_eq_getElem hk), q _ _ (List.getElem_mem hk) hD'⟩
/-- the steps that a kind may have -/
def Al (a : Int) : Prop := a = 1 ∨ a = 2 ∨ a = 4 ∨ a = 8 ∨ a = 16 ∨ a = 32 ∨ a = 64
theorem Al.pos {a : Int} (h : Al a) : 1 ≤ a ∧ a ≤ 64 := by unfold Al at h; omega
theorem sp_size {D : List Cell} {a : Int} {Q : T → List Cell → Prop} (hD : RI D) (h : Al a) (q : ∀ s D', 1 ≤ s → s ≤ 1000000000000000000000000000000 → RI D' → Q (.int s) D') : d__law_size [.mr 1, .int a] D Q := by
  have ha := h.pos
  refine ⟨rfl, w_seq ?_⟩
  try simp
  refine sp_draw hD (by omega) (by omega) fun n D1 n0 n1 hD1 => ?_
  try simp
  have h1 : 1 ≤ a * (1 + n) ∧ a * (1 + n) ≤ 384 := by
    have : n = 0 ∨ n = 1 ∨ n = 2 ∨ n = 3 ∨ n = 4 ∨ n = 5 := by omega
    rcases this with rfl | rfl | rfl | rfl | rfl | rfl <;> omega
  generalize a * (1 + n) = near at h1
  refine ⟨by unfold CMul; omega, ?_⟩
  refine sp_draw hD1 (by omega) (by omega) fun lot D2 l0 l1 hD2 => ?_
  try simp
  refine w_seq (w_if ?_)
  try simp
  by_cases c1 : lot < 3
  · exact .inr ⟨c1, q _ _ h1.1 (by omega) hD2⟩
  refine .inl ⟨by omega, w_seq (w_if ?_)⟩
  try simp
  by_cases c2 : lot < 6
  · refine .inr ⟨c2, by simp [sizeLine_eq], ?_⟩
    refine sp_pick hD2 (by simp) (by simp) fun x D3 hx hD3 => ?_
    simp at hx
    have : ∃ v : Int, x = .int v ∧ -2 ≤ v ∧ v ≤ 3 := by
      rcases hx with rfl | rfl | rfl | rfl
      · exact ⟨-1, rfl, by omega, by omega⟩
      · exact ⟨1, rfl, by omega, by omega⟩
      · exact ⟨-2, rfl, by omega, by omega⟩
      · exact ⟨3, rfl, by omega, by omega⟩
    obtain ⟨v, rfl, v1, v2⟩ := this
    simp
    refine q _ _ ?_ ?_ hD3
    · split <;> omega
    · split <;> omega
  refine .inl ⟨by omega, w_seq (w_if ?_)⟩
  try simp
  by_cases c3 : lot < 8
  · refine .inr ⟨c3, ?_⟩
    refine sp_draw hD2 (by omega) (by omega) fun v D3 v0 v1 hD3 => ?_
    simp
    exact q _ _ (by omega) (by omega) hD3
  refine .inl ⟨by omega, w_seq ?_⟩
  simp [CPow]
  refine sp_draw hD2 (by omega) (by omega) fun v D3 v0 v1 hD3 => ?_
  try simp
  refine ⟨by unfold CMul; omega, w_seq ?_⟩
  simp [CDv, CPow]
  refine sp_draw hD3 (by omega) (by omega) fun z D4 z0 z1 hD4 => ?_
  try simp
  refine ⟨by unfold CMul; omega, by simp [sizeLine_eq], ?_⟩
  refine sp_pick hD4 (by simp) (by simp) fun x D5 hx hD5 => ?_
  have : ∃ v : Int, x = .int v := by
    simp at hx
    rcases hx with rfl | rfl | rfl | rfl | rfl <;> exact ⟨_, rfl⟩
  obtain ⟨o, rfl⟩ := this
  simp [CPow]
  refine q _ _ ?_ ?_ hD5
  · split <;> split <;> omega
  · split <;> split <;> omega
end Sh
set_option Elab.async false
set_option linter.all false
set_option maxRecDepth 100000
namespace Sh
open PySem PySem.Spec L2 L3
/-- a kind, as data -/
def kd (k : Int × Int) : PyData := .tuple [.int k.1, .int k.2]
def GK (k : Int × Int) : Prop := (1 ≤ k.1 ∧ k.1 ≤ 1000000000000000000000000000000) ∧ Al k.2
structure GB (K : List (Int × Int)) : Prop where
  ne : K ≠ []
  six : K.length ≤ 6
  ok : ∀ k ∈ K, GK k
theorem range_at {n i : Nat} {t : T} (h : (rangeT n)[i]? = some t) : i < n ∧ t = .int (i : Int) := by
  unfold rangeT at h
  rw [List.getElem?_map] at h
  rcases Nat.lt_or_ge i n with q | q
  · rw [List.getElem?_range q] at h
    cases h
    exact ⟨q, rfl⟩
  · rw [List.getElem?_eq_none (by rw [List.length_range]; exact q)] at h
    cases h
theorem range_len {n : Nat} : (rangeT n).length = n := by unfold rangeT; simp
theorem sp_book {D : List Cell} {many : Int} {Q : T → List Cell → Prop} (hD : RI D) (h1 : 1 ≤ many) (h2 : many ≤ 6) (q : ∀ K D', GB K → (K.length : Int) = many → RI D' → Q (.tup (K.map kd)) D') : d__law_book [.mr 1, .int many] D Q := by
  refine ⟨rfl, w_seq ?_⟩
  try simp
  refine w_seq (w_for ?_)
  try simp
  refine ⟨by omega, ?_⟩
  refine for_all (fun i τ M => ∃ K D' p st, M = ⟨D', [some (K.map kd)]⟩ ∧ RI D' ∧ K.length = i ∧ (∀ k ∈ K, GK k) ∧ τ = [some (.mr 1), some (.int many), some (.lr 0), p, st]) ⟨[], D, none, none, rfl, hD, rfl, by simp, rfl⟩ ?_ ?_
  · rintro i τ M t R ht ⟨K, D', p, st, rfl, hD', rfl, hK, rfl⟩ k
    obtain ⟨hi, rfl⟩ := range_at ht
    try simp
    refine w_seq ?_
    try simp [sizeLine_eq]
    refine sp_pick hD' (by simp) (by simp) fun x D1 hx hD1 => ?_
    have : ∃ a, x = .int a ∧ Al a := by
      simp at hx
      unfold Al
      rcases hx with rfl | rfl | rfl | rfl | rfl | rfl | rfl <;> exact ⟨_, rfl, by omega⟩
    obtain ⟨a, rfl, ha⟩ := this
    try simp
    refine w_seq ?_
    try simp
    refine sp_size hD1 ha fun s D2 s1 s2 hD2 => ?_
    have hKs : ∀ k ∈ K ++ [(s, a)], GK k := by
      intro k hk
      rcases List.mem_append.mp hk with z | z
      · exact hK k z
      · rw [List.mem_singleton] at z
        subst z
        exact ⟨⟨s1, s2⟩, ha⟩
    try simp [sizeLine_eq]
    refine ⟨by omega, ?_⟩
    have e1 : List.map kd K ++ [PyData.tuple [PyData.int s, PyData.int a]] = List.map kd (K ++ [(s, a)]) := by simp [kd]
    rw [e1]
    by_cases hk0 : 0 < K.length
    · refine .inr ⟨hk0, ?_⟩
      refine sp_draw hD2 (by omega) (by omega) fun z D3 z0 z1 hD3 => ?_
      try simp
      by_cases hz : z = 0
      · refine .inr ⟨hz, ?_⟩
        have hlt : K.length - 1 < K.length := by omega
        have e2 : atI (List.map kd K ++ [kd (s, a)]) ((K.length : Int) - 1) = some (kd K[K.length - 1]) := by
          have e3 : ((K.length : Int) - 1) = ((K.length - 1 : Nat) : Int) := by omega
          rw [e3]
          refine atI_nat ?_
          rw [List.getElem?_append_left (by simpa using hlt), List.getElem?_map, List.getElem?_eq_getElem hlt]
          rfl
        refine ⟨_, e2, K.length, ?_, ?_⟩
        · unfold ixN
          rw [if_pos (by omega), if_pos (by omega)]
          simp
        · have hmem : K[K.length - 1] ∈ K := List.getElem_mem hlt
          refine k _ _ ⟨K ++ [K[K.length - 1]], D3, _, _, ?_, hD3, by simp, ?_, rfl⟩
          · simp [List.set_append]
          · intro k hk
            rcases List.mem_append.mp hk with z | z
            · exact hK k z
            · rw [List.mem_singleton] at z
              rw [z]
              exact hK _ hmem
      · exact .inl ⟨hz, k _ _ ⟨K ++ [(s, a)], D3, _, _, by simp [kd], hD3, by simp, hKs, rfl⟩⟩
    · exact .inl ⟨by simpa using hk0, k _ _ ⟨K ++ [(s, a)], D2, _, _, by simp [kd], hD2, by simp, hKs, rfl⟩⟩
  · rintro τ M ⟨K, D', p, st, rfl, hD', hl, hK, rfl⟩
    rw [range_len] at hl
    try simp
    refine q K D' ⟨?_, by omega, hK⟩ (by omega) hD'
    intro z
    subst z
    simp at hl
    omega
end Sh
set_option Elab.async false
set_option linter.all false
set_option maxRecDepth 100000
namespace Sh
open PySem PySem.Spec L2 L3
def rup (n m : Int) : Int := (n + m - 1) / m * m
abbrev Bk6 := List (Int × Int)
def kat (K : Bk6) (i : Nat) : Int × Int := K.getD i (1, 1)
def mx : List Int → Int
  | [] => 0
  | [x] => x
  | x :: y :: r => max x (mx (y :: r))
def als (K : Bk6) (r : List Nat) : List Int := r.map fun i => (kat K i).2
def bkD (K : Bk6) : PyData := .tuple (K.map kd)
def ix (i : Nat) : PyData := .int (i : Int)
def rowD (r : List Nat) : PyData := .tuple (r.map ix)
structure GR (K : Bk6) (r : List Nat) : Prop where
  ne : r ≠ []
  hd : r.length ≤ 100
  ok : ∀ i ∈ r, i < K.length
@[simp] theorem at_0 {x y : PyData} : atI [x, y] 0 = some x := rfl
@[simp] theorem at_1 {x y : PyData} : atI [x, y] 1 = some y := rfl
@[simp] theorem at_k0 {k : Int × Int} {M : Mem} {Q : Kt} : oIx (.d (kd k)) (.d (.int 0)) M Q = Q (.int k.1) M := by simp [kd]
@[simp] theorem at_k1 {k : Int × Int} {M : Mem} {Q : Kt} : oIx (.d (kd k)) (.d (.int 1)) M Q = Q (.int k.2) M := by simp [kd]
end Sh
set_option Elab.async false
set_option linter.all false
set_option maxRecDepth 100000
namespace Sh
open PySem PySem.Spec L2 L3
structure Sw (w k : Nat) (d : PyData) : Prop where
  sh : d.showable = true
  nd : d.hasDict = false
  ls : d.leavesShort 62 = true
  wt : d.weight ≤ w
  dp : d.depth ≤ k
structure SwA (w k : Nat) (d : List PyData) : Prop where
  sh : PyData.showableAll d = true
  nd : PyData.hasDictAll d = false
  ls : PyData.leavesShortAll 62 d = true
  wt : PyData.weightAll d ≤ w
  dp : PyData.depthAll d ≤ k
theorem Sw.mono {w k w' k' : Nat} {d : PyData} (h : Sw w k d) (hw : w ≤ w') (hk : k ≤ k') : Sw w' k' d := ⟨h.sh, h.nd, h.ls, Nat.le_trans h.wt hw, Nat.le_trans h.dp hk⟩
theorem SwA.mono {w k w' k' : Nat} {d : List PyData} (h : SwA w k d) (hw : w ≤ w') (hk : k ≤ k') : SwA w' k' d := ⟨h.sh, h.nd, h.ls, Nat.le_trans h.wt hw, Nat.le_trans h.dp hk⟩
theorem Sw.ok {w k : Nat} {d : PyData} (h : Sw w k d) (hw : w ≤ 200000) (hk : k ≤ 100) : OkShow d := by
  refine ⟨h.sh, h.nd, Nat.le_trans h.dp hk, ?_⟩
  have := PyData.shown_le 62 (by omega) d h.ls
  have := h.wt
  rw [sizeLine_eq]
  have : (62 + 2) * d.weight ≤ 64 * 200000 := Nat.mul_le_mul (by omega) (by omega)
  omega
theorem sp_row {K : Bk6} {many : Int} {D : List Cell} {Q : T → List Cell → Prop} (hD : RI D) (g : GB K) (h1 : 1 ≤ many) (h2 : many ≤ 100) (q : ∀ r D', GR K r → (r.length : Int) = many → RI D' → Q (.d (rowD r)) D') : d__law_row [.mr 1, .d (bkD K), .int many] D Q := by
  have hK : 1 ≤ K.length := List.length_pos_iff.mpr g.ne
  have h6 := g.six
  have dl : ∀ {D1 : List Cell} {R : T → List Cell → Prop}, RI D1 → (∀ (j : Nat) D', j < K.length → RI D' → R (.int (j : Int)) D') → d__law_draw [.mr 1, .int (K.length : Int)] D1 R := fun {D1 R} h k => sp_draw h (by omega) (by omega) fun n D' n0 n1 hD' => by
    obtain ⟨j, rfl⟩ : ∃ j : Nat, n = j := ⟨n.toNat, by omega⟩
    exact k j D' (by omega) hD'
  refine ⟨rfl, w_seq ?_⟩
  try simp
  refine sp_draw hD (by omega) (by omega) fun lot D1 l0 l1 hD1 => ?_
  try simp
  refine w_seq ?_
  simp [bkD]
  refine dl hD1 fun j D2 hj hD2 => ?_
  try simp
  refine w_seq (w_for ?_)
  try simp
  refine ⟨by omega, ?_⟩
  refine for_all (fun i τ M => ∃ (r : List Nat) (D' : List Cell) (p : Option T) (j : Nat), M = ⟨D', [some (r.map ix)]⟩ ∧ RI D' ∧ r.length = i ∧ j < K.length ∧ (∀ i ∈ r, i < K.length) ∧ τ = [some (.mr 1), some (.d (bkD K)), some (.int many), some (.int lot), some (.lr 0), some (.int (j : Int)), p]) ⟨[], D2, none, j, rfl, hD2, rfl, hj, by simp, rfl⟩ ?_ ?_
  · rintro i τ M t R ht ⟨r, D', p, j, rfl, hD', rfl, hj, hr, rfl⟩ k
    obtain ⟨hi, rfl⟩ := range_at ht
    have app : ∀ (j : Nat) D' , RI D' → j < K.length → r.length < sizeLine ∧ R [some (.mr 1), some (.d (bkD K)), some (.int many), some (.int lot), some (.lr 0), some (.int (j : Int)), some (.int (r.length : Int))] ⟨D', [some (r.map ix ++ [.int (j : Int)])]⟩ := by
      intro j D' hD' hj
      refine ⟨sz64 (by omega), k _ _ ⟨r ++ [j], D', _, j, ?_, hD', by simp, hj, ?_, rfl⟩⟩
      · simp [ix]
      · intro i hi
        rcases List.mem_append.mp hi with z | z
        · exact hr i z
        · rw [List.mem_singleton.mp z]
          exact hj
    refine w_seq (w_if ?_)
    try simp
    by_cases hl : lot = 0
    · refine .inr ⟨hl, ?_⟩
      simp [bkD]
      refine dl hD' fun j2 D3 hj2 hD3 => ?_
      try simp
      exact app j2 D3 hD3 hj2
    · refine .inl ⟨hl, ?_⟩
      refine sp_draw hD' (by omega) (by omega) fun z D3 z0 z1 hD3 => ?_
      try simp
      by_cases hz : z = 0
      · refine .inr ⟨hz, ?_⟩
        simp [bkD]
        refine dl hD3 fun j2 D4 hj2 hD4 => ?_
        try simp
        exact app j2 D4 hD4 hj2
      · exact .inl ⟨hz, app j D3 hD3 hj⟩
  · rintro τ M ⟨r, D', p, j, rfl, hD', hl, hj, hr, rfl⟩
    rw [range_len] at hl
    try simp
    refine q r D' ⟨?_, by omega, hr⟩ (by omega) hD'
    intro z
    subst z
    simp at hl
    omega
end Sh
set_option Elab.async false
set_option linter.all false
set_option maxRecDepth 100000
namespace Sh
open PySem PySem.Spec L2 L3
end Sh
set_option Elab.async false
set_option linter.all false
set_option maxRecDepth 100000
namespace Sh
open PySem PySem.Spec L2 L3
def rm (K : Bk6) (i : Nat) : Int := rup (kat K i).1 (kat K i).2
def num (N : List Int) (i : Nat) : Int := N.getD i 0
def tot (K : Bk6) (N : List Int) : Int := ((List.range K.length).map fun i => num N i * rm K i).sum
def thr (K : Bk6) (N : List Int) : List Nat := (List.range K.length).filter fun i => decide (0 < num N i)
def due (K : Bk6) (N : List Int) : Int := rup (tot K N) (mx (als K (thr K N)))
def recD (N : List Int) : PyData := .tuple (N.map .int)
structure GN (K : Bk6) (N : List Int) : Prop where
  len : N.length = K.length
  ok : ∀ n ∈ N, 0 ≤ n ∧ n ≤ 1000000000000000000000000000000
  pos : ∃ n ∈ N, 0 < n
theorem num_at {N : List Int} {i : Nat} (h : i < N.length) : num N i = N[i] := by
  unfold num
  rw [List.getD_eq_getElem?_getD, List.getElem?_eq_getElem h]
  rfl
theorem GN.gr {K : Bk6} {N : List Int} (g : GN K N) (gb : GB K) : GR K (thr K N) := by
  refine ⟨?_, ?_, fun i hi => ?_⟩
  · obtain ⟨n, hn, h0⟩ := g.pos
    obtain ⟨i, hi, e⟩ := List.getElem_of_mem hn
    intro z
    have h1 := List.filter_eq_nil_iff.mp z i (List.mem_range.mpr (by rw [← g.len]; exact hi))
    rw [num_at hi, e] at h1
    exact h1 (decide_eq_true h0)
  · have h1 := List.length_filter_le (fun i => decide (0 < num N i)) (List.range K.length)
    rw [List.length_range] at h1
    have := gb.six
    unfold thr
    omega
  · exact List.mem_range.mp (List.mem_filter.mp hi).1
end Sh
set_option Elab.async false
set_option linter.all false
set_option maxRecDepth 100000
namespace Sh
open PySem PySem.Spec L2 L3
end Sh
namespace L3
open PySem PySem.Spec L2 PyProof.Rows
theorem tuple_mul1 (l : Addr) (items : Array Value) (n : Nat) (dd : Option Addr) (sl : Array (Option Value)) (u : Tok) :
    Meets (Builtin.«tuple.__mul__» ⟨[.ref l, .int 1 u], []⟩) (fun _ R s => s.heap.get? l = some { cls := .type "tuple", dict := dd, data := .seq items n, slots := sl } ∧
      R (.ok (.ret (Value.ref l))) s) :=
  .of_wp fun prog w A R s h => by
    obtain ⟨hp, g, d, tk, os⟩ := s
    obtain ⟨hl, h⟩ := h
    have f1 := AutoSeq1.idx_int
    have c0 : (decide ((1 : Int) < -(2 ^ 63)) || decide ((1 : Int) ≥ 2 ^ 63)) = false := by decide
    have c1 : (items.isEmpty || (1 : Int) == 1) = true := by simp
    wp_walk using wpAny_loadPart' hl
    repeat (first
      | (refine wpAny_ite_false (decide_eq_false (by rw [c0]; exact Bool.false_ne_true)) ?_; wp_walk using wpAny_loadPart' hl)
      | (refine wpAny_ite_true (decide_eq_true c1) ?_; wp_walk using wpAny_loadPart' hl))
    exact ⟨_, rfl, h⟩
def rRep1 (K : PySem.W.Frag) : R2 := fun x y H Q => ∃ l xs, x = .ref l ∧ y = .int 1 ∧ SqT K H l xs ∧ Q (.ref l) H
theorem op_rep1 {X : Cx} : OpR X (binaryOp .Mult) (rRep1 X.K) := by
  intro pins s σ H x y v u Q I rx ry h
  obtain ⟨l, xs, rfl, rfl, hT, q⟩ := h
  cases rx
  obtain ⟨t, rfl⟩ := ry
  obtain ⟨its, r, ⟨⟨cls, dd, data, sl⟩, ho, hc, n, hd⟩, hs⟩ := I.tuple hT
  simp only at hc hd
  subst hc hd
  exact wpAny_binaryOp_repeat_ref (T := "tuple") (U := "int") (by decide) ⟨_, ho, rfl⟩ (fun s' => typeIs_int s' 1 t) noFill_tuple_mul F.fills_int_mul F.slot_int_rmul repeat_tuple F.slot_int_index.lookup
    (call_meets F.slot_int_rmul (typeIs_int s 1 t) F.entry_int_rmul (F.args_int_rmul_2 _ _) (int_rmul_tuple 1 t l its.toArray n dd sl)
      ⟨ho, rfl, ⟨_, ho, rfl⟩, call_meets F.slot_tuple_mul ⟨_, ho, rfl⟩ F.entry_tuple_mul (F.args_tuple_mul_2 _ _) (tuple_mul1 l its.toArray n dd sl t) ⟨ho, .ref l, H, I, rfl, q⟩⟩)
def oRepA : F2 := fun x y M Q => match x, y with
  | .d (.tuple xs), .d (.int j) => (xs ≠ [] ∧ 1 ≤ j ∧ j ≤ 1000 ∧ xs.length ≤ 1000) ∧ Q (.tup (List.replicate j.toNat xs).flatten) M
  | _, _ => False
@[simp] theorem x_repA {xs : List PyData} {j : Int} {M : Mem} {Q : Kt} : oRepA (.d (.tuple xs)) (.d (.int j)) M Q = ((xs ≠ [] ∧ 1 ≤ j ∧ j ≤ 1000 ∧ xs.length ≤ 1000) ∧ Q (.tup (List.replicate j.toNat xs).flatten) M) := rfl
end L3
set_option Elab.async false
set_option linter.all false
set_option maxRecDepth 100000
namespace L3
open PySem PySem.Spec L2
section
variable {X : Cx} {e tg : Expr} {m : Me} {pos : Pos} {elt : Expr} {ifs : List Expr} {scope : Scope} {own : List (Str × Nat)} {i : Mi} {g : Mg} {os : List Nat} {mc : Mb}
end
def fPopD (x : T) : FA := fun ts M Q => match x, ts with
  | .mr i, [.d (.int j)] => (match M.D[i]? with
    | some (.lst us) => (0 ≤ j ∧ j < 2 ^ 63 ∧ j.toNat < us.length) ∧ ∀ z, us[j.toNat]? = some z → Q z { M with D := M.D.set i (.lst (us.eraseIdx j.toNat)) }
    | _ => False)
  | _, _ => False
def fInsD (x : T) : FA := fun ts M Q => match x, ts with
  | .mr i, [.d (.int j), t] => (match M.D[i]? with
    | some (.lst us) => (noL t = true ∧ us.length < sizeLine ∧ 0 ≤ j ∧ j < 2 ^ 63) ∧ Q .non { M with D := M.D.set i (.lst (us.take j.toNat ++ [t] ++ us.drop j.toNat)) }
    | _ => False)
  | _, _ => False
section
variable {X : Cx}
end
section
variable {i : Nat} {M : Mem} {Q : Kt} {D : List Cell}
@[simp] theorem x_popDj {j : Int} : fPopD (.mr i) [.d (.int j)] M Q = (match M.D[i]? with
    | some (.lst us) => (0 ≤ j ∧ j < 2 ^ 63 ∧ j.toNat < us.length) ∧ ∀ z, us[j.toNat]? = some z → Q z { M with D := M.D.set i (.lst (us.eraseIdx j.toNat)) }
    | _ => False) := rfl
@[simp] theorem x_insDj {j : Int} {t : T} : fInsD (.mr i) [.d (.int j), t] M Q = (match M.D[i]? with
    | some (.lst us) => (noL t = true ∧ us.length < sizeLine ∧ 0 ≤ j ∧ j < 2 ^ 63) ∧ Q .non { M with D := M.D.set i (.lst (us.take j.toNat ++ [t] ++ us.drop j.toNat)) }
    | _ => False) := rfl
end
section
variable {τ : En} {M : Mem} {E : Es} {d k v : Me} {r : Ma} {Q : Kt}
@[simp] theorem x_lputD : mLPutD d k v E τ M = v τ M fun t M1 => d τ M1 fun x M2 => k τ M2 fun y M3 => match x, y with
  | .mr i, .d (.int j) => (match M3.D[i]? with
    | some (.lst ds) => noL t = true ∧ ∃ n, ixN ds.length j = some n ∧ E.nx τ { M3 with D := M3.D.set i (.lst (ds.set n t)) }
    | _ => False)
  | _, _ => False := rfl
@[simp] theorem x_newD : mNewD r τ M Q = r τ M fun ts M1 => ((∀ t ∈ ts, noL t = true) ∧ ts.length ≤ sizeLine) ∧ Q (.mr M1.D.length) { M1 with D := M1.D ++ [.lst ts] } := rfl
end
def CDvW (i j : Int) : Prop := 0 < j ∧ j.natAbs < 2 ^ 300
def oDivW : F2 := oI CDvW fun i j => .int (i / j)
@[simp] theorem x_divW {i j : Int} {M : Mem} {Q : Kt} : oDivW (.d (.int i)) (.d (.int j)) M Q = (CDvW i j ∧ Q (.int (i / j)) M) := rfl
def mAugI (f : Int → Int → Int) (i : Nat) (m : Me) : Ms := fun E τ M => ∃ t, τ[i]? = some (some t) ∧ m τ M fun u M1 => match t, u with
  | .d (.int a), .d (.int b) => E.nx (τ.set i (some (.int (f a b)))) M1
  | _, _ => False
section
variable {X : Cx} {e : Expr} {m : Me} {pos pos' : Pos} {i : Nat} {x : Str}
end
@[simp] theorem x_augI {f : Int → Int → Int} {i : Nat} {m : Me} {E : Es} {τ : En} {M : Mem} : mAugI f i m E τ M = ∃ t, τ[i]? = some (some t) ∧ m τ M fun u M1 => match t, u with
  | .d (.int a), .d (.int b) => E.nx (τ.set i (some (.int (f a b)))) M1
  | _, _ => False := rfl
def rangeT2 (lo : Int) (n : Nat) : List T := (List.range n).map fun (i : Nat) => T.int (lo + (i : Int))
def iRange2 (r : Ma) : Mi := fun τ M Q => r τ M fun ts M1 => match ts with
  | [.d (.int i), .d (.int j)] => (-(2 ^ 62) ≤ i ∧ i < 2 ^ 62 ∧ -(2 ^ 62) ≤ j ∧ j < 2 ^ 62) ∧ Q (rangeT2 i (j - i).toNat) M1
  | _ => False
@[simp] theorem x_irange2 {a : Ma} {τ : En} {M : Mem} {R : List T → Mem → Prop} : iRange2 a τ M R = a τ M fun ts M1 => match ts with
  | [.d (.int i), .d (.int j)] => (-(2 ^ 62) ≤ i ∧ i < 2 ^ 62 ∧ -(2 ^ 62) ≤ j ∧ j < 2 ^ 62) ∧ R (rangeT2 i (j - i).toNat) M1
  | _ => False := rfl
end L3
set_option Elab.async false
set_option linter.all false
set_option maxRecDepth 100000
namespace L3
open PySem PySem.Spec L2
def rgD (n : Int) : List PyData := (List.range n.toNat).map fun (i : Nat) => .int (i : Int)
def mListR (m : Me) : Me := fun τ M Q => m τ M fun t M1 => match t with
  | .d (.int n) => (0 ≤ n ∧ n ≤ 16777216) ∧ Q (.lst (rgD n)) M1
  | _ => False
@[simp] theorem x_listR {m : Me} {τ : En} {M : Mem} {Q : Kt} : mListR m τ M Q = m τ M fun t M1 => match t with
  | .d (.int n) => (0 ≤ n ∧ n ≤ 16777216) ∧ Q (.lst (rgD n)) M1
  | _ => False := rfl
section
open PyProof.Rows
variable {prog : Program} {w : World} {A : Around} {E : Value → Shared → Prop} {s : Shared} {l : Addr}
end
section
variable {X : Cx} {e : Expr} {es : List Expr} {mr : Ma} {p pos : Pos}
end
end L3
set_option Elab.async false
set_option linter.all false
set_option maxRecDepth 100000
namespace L3
open PySem PySem.Spec L2
def oAddL : F2 := fun x y M Q => match x, y with
  | .d (.list a), .d (.list b) => a.length + b.length ≤ sizeLine ∧ Q (.lr M.L.length) { M with L := M.L ++ [some (a ++ b)] }
  | _, _ => False
@[simp] theorem x_addL {a b : List PyData} {M : Mem} {Q : Kt} : oAddL (.d (.list a)) (.d (.list b)) M Q = (a.length + b.length ≤ sizeLine ∧ Q (.lr M.L.length) { M with L := M.L ++ [some (a ++ b)] }) := rfl
end L3
set_option Elab.async false
set_option linter.all false
set_option maxRecDepth 100000
namespace L3
open PySem PySem.Spec L2 PyProof.Rows
def oRepZ : F2 := fun x y M Q => match x, y with
  | .d (.tuple xs), .d (.int j) => (xs ≠ [] ∧ 0 ≤ j ∧ j ≤ 1000 ∧ xs.length ≤ 1000) ∧ Q (.tup (List.replicate j.toNat xs).flatten) M
  | _, _ => False
@[simp] theorem x_repZ {xs : List PyData} {j : Int} {M : Mem} {Q : Kt} : oRepZ (.d (.tuple xs)) (.d (.int j)) M Q = ((xs ≠ [] ∧ 0 ≤ j ∧ j ≤ 1000 ∧ xs.length ≤ 1000) ∧ Q (.tup (List.replicate j.toNat xs).flatten) M) := rfl
end L3
set_option Elab.async false
set_option linter.all false
set_option maxRecDepth 100000
namespace L3
open PySem PySem.Spec L2
def goLcO (n : Nat) (ds : List PyData) (g : Mg) (c : Mb) (m : Me) (τ0 : En) (Q : List PyData → Mem → Prop) : List T → List PyData → Mem → Prop
  | [], acc, M => Q acc M
  | t :: ts, acc, M => g t τ0 M fun τ1 M1 => c τ1 M1 fun k M2 => if k = true then m τ1 M2 fun y M3 => (match y with
      | .d z => acc.length < sizeLine ∧ M3.L[n]? = some (some ds) ∧ goLcO n ds g c m τ0 Q ts (acc ++ [z]) M3
      | _ => False) else M2.L[n]? = some (some ds) ∧ goLcO n ds g c m τ0 Q ts acc M2
def mLcO (o : Me) (g : Mg) (c : Mb) (m : Me) (vs : List Nat) : Me := fun τ M Q => o τ M fun t M1 => match t with
  | .lr n => (match M1.L[n]? with
    | some (some ds) => goLcO n ds g c m (wipeT τ vs) (fun acc M2 => Q (.lst acc) M2) (ds.map T.d) [] M1
    | _ => False)
  | _ => False
def rIo (K : PySem.W.Frag) (m : Me) : TI := fun σ H R => ∃ τ M B Q, m τ M Q ∧ Wd K B M H ∧ Sl K B σ τ ∧ ∀ t M' B' H', Q t M' → Wd K B' M' H' → Ext B H B' H' → ∃ n ds, t = .lr n ∧ M'.L[n]? = some (some ds) ∧ ∀ a, B'.l[n]? = some a → R (Itl K a) H'
theorem mi_own {X : Cx} {e tg : Expr} {m : Me} (he : ME X e m) : PI X tg e (rIo X.K m) := by
  refine ⟨fun pn sh sg hp R iv ⟨τ, M, B, Q, h, w, s, k⟩ => ?_⟩
  let P := fun (x : V) (H1 : Hp) => ∃ t M1 B1, Q t M1 ∧ Wd X.K B1 M1 H1 ∧ Ext B hp B1 H1 ∧ Rt X.K B1 x t
  refine thn (he.run pn sh sg hp P iv ⟨τ, M, B, _, h, w, s, fun v t M1 B1 H1 h1 w1 e1 r1 => ⟨t, M1, B1, h1, w1, e1, r1⟩⟩) fun v s1 ⟨x, H1, i1, rx, t, M1, B1, h1, w1, e1, r1⟩ => ?_
  obtain ⟨n, ds, rfl, hL, k2⟩ := k t M1 B1 H1 h1 w1 e1
  obtain ⟨a', rfl, ha'⟩ := r1
  cases rx
  obtain ⟨_, xs, e, _⟩ := w1.lc _ _ _ ha' hL
  exact pie_l i1 (.of e) (k2 a' ha')
theorem drop_map_at {ds : List PyData} {i : Nat} (h : i < ds.length) : (ds.map T.d).drop i = .d ds[i] :: (ds.map T.d).drop (i + 1) := by
  rw [drop_at (by rw [List.length_map]; exact h), List.getElem_map]
theorem walk_own {K : PySem.W.Frag} {a : Addr} (m : Nat) : Walk (Itl K a) m (fun H => ∃ xs, H a = some (.lst xs) ∧ xs.length = m) fun i H x H' => H' = H ∧ ∀ xs, SqL K H a xs → xs[i]? = some x :=
  ⟨fun i H hi ⟨xs, e, l⟩ => ⟨xs, xs[i]'(by omega), .of e, List.getElem?_eq_getElem (by omega)⟩, fun H ⟨xs, e, l⟩ => ⟨xs, .of e, by omega⟩, fun _ _ _ _ _ _ y => y⟩
theorem lc_genO {K : PySem.W.Frag} {o m : Me} {g : Mg} {os : List Nat} {mc : Mb} {vs0 : List Nat} {σ : L2.St} {H : Hp} {Q' : VK} (sub : ∀ j ∈ os, j ∈ vs0) (h : rE K (mLcO o g mc m vs0) σ H Q') :
    tLc (rIo K o) (rG K os g) (rB K mc) (rE K m) vs0 σ H Q' := by
  obtain ⟨τ, M, B, Q, h, w, sl, k⟩ := h
  refine ⟨τ, M, B, _, h, w, sl, fun t M1 B1 H1 h1 w1 e1 => ?_⟩
  split at h1
  case h_2 => exact h1.elim
  rename_i n
  split at h1
  case h_2 => exact h1.elim
  rename_i ds hL
  refine ⟨n, ds, rfl, hL, fun a ha D hD => ?_⟩
  obtain ⟨dG, dr, dl⟩ := w1.fresh hD
  have sw := (sl.mono e1).wipe vs0
  refine lc_it (walk_own ds.length) (fun i H2 => ∃ acc vs M2 B2, M2.L[n]? = some (some ds) ∧ goLcO n ds g mc m (wipeT τ vs0) (fun acc M2 => Q (.lst acc) M2) ((ds.map T.d).drop i) acc M2 ∧ Wd K B2 M2 H2 ∧ Ext B1 H1 B2 H2 ∧ H2 D = some (.lst vs) ∧ RpA K B2.G vs acc ∧ B2.G D = none ∧ D ∉ B2.r ∧ D ∉ B2.l) ?_ ?_ ?_ ?_
  · exact ⟨[], [], M1, B1, hL, h1, w1.side hD _, .side hD _, upd_same, .nil, dG, dr, dl⟩
  · rintro i H2 _ ⟨acc, vs, M2, B2, hL2, _, w2, e2, _⟩
    obtain ⟨_, us, eu, qu⟩ := w2.lc n a ds (get_prefix e2.l ha) hL2
    exact ⟨us, eu, RpA.length qu⟩
  · rintro i x H2 H3 hlt ⟨acc, vs, M2, B2, hL2, h2, w2, e2, d2, r2, g2, n2, l2⟩ y
    obtain ⟨hh, y⟩ := y
    rw [hh]
    obtain ⟨_, us, eu, qu⟩ := w2.lc n a ds (get_prefix e2.l ha) hL2
    obtain ⟨u, y1, y2⟩ := RpA.get qu (List.getElem?_eq_getElem hlt)
    have y3 := y us (.of eu)
    rw [y1] at y3
    cases y3
    have e3 : Ext B2 H2 B2 H2 := .refl _ _
    rw [drop_map_at hlt, goLcO] at h2
    have keepD : ∀ {B4 : Bk} {H4 : Hp}, Ext B2 H2 B4 H4 → H4 D = some (.lst vs) ∧ B4.G D = none ∧ D ∉ B4.r ∧ D ∉ B4.l := fun {B4 H4} e4 => by
      refine ⟨e4.fr D _ d2 n2 l2, ?_, fun z => ?_, fun z => ?_⟩
      · cases q : B4.G D with
        | none => rfl
        | some o =>
          rcases e4.gf D o q with z | z | z
          · rw [g2] at z; cases z
          · rw [d2] at z; cases z
          · exact absurd z l2
      · rcases e4.rn D z with q | q
        · exact n2 q
        · rw [d2] at q; cases q
      · rcases e4.ln D z with q | q
        · exact l2 q
        · rw [d2] at q; cases q
    refine ⟨.d ds[i], wipeT τ vs0, M2, B2, _, h2, w2, sw.mono e2, y2, fun τ4 M4 B4 σ4 H4 h4 w4 e4 s4 a4 => ⟨a4.wipe sub, ?_⟩⟩
    refine ⟨τ4, M4, B4, _, h4, w4, s4, fun k5 M5 B5 H5 h5 w5 e5 => ?_⟩
    have e25 := e3.trans (e4.trans e5)
    cases k5 with
    | false =>
      obtain ⟨q1, q2, q3, q4⟩ := keepD e25
      exact ⟨acc, vs, M5, B5, h5.1, h5.2, w5, e2.trans e25, q1, RpA.mono e25.g r2, q2, q3, q4⟩
    | true =>
      refine ⟨τ4, M5, B5, _, h5, w5, s4.mono e5, fun v t M6 B6 H6 h6 w6 e6 r6 => ?_⟩
      split at h6
      · have e26 := e25.trans e6
        obtain ⟨q1, q2, q3, q4⟩ := keepD e26
        refine ⟨vs, q1, by rw [RpA.length r2]; exact h6.1, acc ++ [_], vs ++ [v], M6, B6, h6.2.1, h6.2.2, ?_, ?_, upd_same, RpA.append (RpA.mono e26.g r2) (.cons r6 .nil), q2, q3, q4⟩
        · -- the world does not know D
          refine ⟨fun a u z => ?_, w6.rlen, w6.llen, w6.nd, fun j a c z1 z2 => ?_, fun j a ds z1 z2 => ?_, fun a ha => ?_⟩
          · rw [upd_ne (ne_of_none z q2)]
            exact w6.le a u z
          · obtain ⟨p1, p2⟩ := w6.dc j a c z1 z2
            exact ⟨p1, CellAt.mono (fun _ _ e => e) (List.prefix_refl _) (upd_ne fun z => q3 (by rw [← z]; exact mem_of_get z1)) p2⟩
          · obtain ⟨p1, xs, p2, p3⟩ := w6.lc j a ds z1 z2
            exact ⟨p1, xs, (upd_ne fun z => q4 (by rw [← z]; exact mem_of_get z1)).trans p2, p3⟩
          · rw [upd_ne fun z => ?_]
            · exact w6.tr a ha
            · rw [z] at ha
              exact (List.mem_append.mp ha).elim q3 q4
        · have x6 := e2.trans e26
          refine ⟨x6.g, x6.r, x6.l, fun a u z n1 n2 => ?_, fun a z => ?_, x6.rn, x6.ln, x6.gf⟩
          · rw [upd_ne (ne_of_none z hD)]
            exact x6.fr a u z n1 n2
          · by_cases q : a = D
            · rw [q]
              exact hD
            · rw [upd_ne q] at z
              exact x6.tr a z
      · exact h6.elim
  · rintro H2 ⟨acc, vs, M2, B2, hL2, h2, w2, e2, d2, r2, g2, n2, l2⟩
    have ed : (ds.map T.d).drop ds.length = [] := by rw [← List.length_map (f := T.d), List.drop_length]
    rw [ed] at h2
    rcases Ext.adoptG (o := .lst vs) (e1.tr D hD) (e1.trans e2) with x | x
    · exact k _ _ M2 _ H2 h2 (w2.adoptG g2 n2 l2 d2) x (.lst upd_same (RpA.mono (upd_keep g2) r2))
    · exact absurd g2 x
section
variable {X : Cx} {e tg : Expr} {m o : Me} {elt : Expr} {ifs : List Expr} {scope : Scope} {own : List (Str × Nat)} {g : Mg} {os : List Nat} {mc : Mb} {pos : Pos}
theorem me_lcO (hc : X.calm = true) (hN : X.N.Nodup) (hi : ME X e o) (ok : BlkOk X.N X.env.scope scope own)
    (hg : ∀ (s : Shared) (H : Hp) (C : Addr) (cl : List (Str × Addr)) (fp : List Addr), MG (X.blk s H scope (compEnvC scope cl C X.env) fp) tg os g) (ht : ∀ (s : Shared) (H : Hp) (C : Addr) (cl : List (Str × Addr)) (fp : List Addr), MTs (X.blk s H scope (compEnvC scope cl C X.env) fp) ifs mc)
    (he : ∀ (s : Shared) (H : Hp) (C : Addr) (cl : List (Str × Addr)) (fp : List Addr), ME (X.blk s H scope (compEnvC scope cl C X.env) fp) elt m) (sub : ∀ j ∈ os, j ∈ own.map (·.2)) (hs : ∀ x, foldedSetIterable e X.env x = pure x := by intro _; rfl) :
    ME X (.ListComp elt [⟨tg, e, ifs, 0⟩] scope pos) (mLcO o g mc m (own.map (·.2))) := PE.of (pe_lc (te := rE X.K m) (tt := rB X.K mc) (g := rG X.K os g) hc hN (mi_own hi) ok hg ht he hs) fun _ _ _ h => lc_genO sub h
end
theorem x_lcO {o m : Me} {g : Mg} {mc : Mb} {vs : List Nat} {τ : En} {M : Mem} {Q : Kt} : mLcO o g mc m vs τ M Q = o τ M fun t M1 => match t with
  | .lr n => (match M1.L[n]? with
    | some (some ds) => goLcO n ds g mc m (wipeT τ vs) (fun acc M2 => Q (.lst acc) M2) (ds.map T.d) [] M1
    | _ => False)
  | _ => False := rfl
end L3
set_option Elab.async false
set_option linter.all false
set_option maxRecDepth 100000
namespace L3
open PySem PySem.Spec L2
def mDead : Ms := fun _ _ _ => False
theorem ms_dead {X : Cx} {st : Stmt} : MS X st mDead := ⟨fun _ _ _ _ _ _ ⟨_, _, _, _, h, _⟩ => h.elim⟩
@[simp] theorem x_dead {E : Es} {τ : En} {M : Mem} : mDead E τ M = False := rfl
theorem me_gl {X : Cx} {x : Str} {pos : Pos} {d : PyData} (hg : Gl X x) (h : ∃ u v, X.mg x = some u ∧ RelV v u ∧ ∀ G, Rp X.K G v d) (hdb : (x == ("__debug__" : Str)) = false := by decide) : ME X (.Name x pos) (mC d) := by
  obtain ⟨u, v, h1, h2, h3⟩ := h
  exact PE.of (pe_glob hg h1 h2 hdb) fun σ H Q' ⟨τ, M, B, Q, q, w, s, k⟩ => k v (.d d) M B H q w (.refl _ _) (h3 _)
def tyN : PyData → Option String
  | .none => some "NoneType"
  | .bool _ => some "bool"
  | .int _ => some "int"
  | .str _ => some "str"
  | .list _ => some "list"
  | .tuple _ => some "tuple"
  | _ => none
def mIsi (T0 : String) (m : Me) : Me := fun τ M Q => m τ M fun t M1 => match t with
  | .d x => ∃ a r, tyN x = some a ∧ kitB a T0 = some r ∧ Q (.bl r) M1
  | _ => False
@[simp] theorem x_isi {T0 : String} {m : Me} {τ : En} {M : Mem} {Q : Kt} : mIsi T0 m τ M Q = m τ M fun t M1 => match t with
  | .d x => ∃ a r, tyN x = some a ∧ kitB a T0 = some r ∧ Q (.bl r) M1
  | _ => False := rfl
def mSm (f : Str → FA) (o : Me) (r : Ma) : Me := fun τ M Q => o τ M fun x M1 => match x with
  | .d (.str a) => r τ M1 fun ts M2 => f a ts M2 Q
  | _ => False
section
variable {X : Cx} {o e : Expr} {es : List Expr} {mo m : Me} {mr : Ma} {name : Str} {id : String} {apos cpos : Pos} {r : V → List V → Hp → VK → Prop} {f : Str → FA}
end
section
variable {X : Cx} {o x : Expr} {mo : Me} {mr : Ma} {apos cpos : Pos}
end
@[simp] theorem x_sm {f : Str → FA} {o : Me} {r : Ma} {τ : En} {M : Mem} {Q : Kt} : mSm f o r τ M Q = o τ M fun x M1 => match x with
  | .d (.str a) => r τ M1 fun ts M2 => f a ts M2 Q
  | _ => False := rfl
/-- str(i) -/
def fStr : FA := fun ts M Q => match ts with
  | [.d (.int i)] => i.natAbs.log2 < 1920 ∧ Q (.str (toString i)) M
  | _ => False
theorem cal_str {K : PySem.W.Frag} : CaL K (fun xs H Q => ∃ i, xs = [V.int i] ∧ i.natAbs.log2 < 1920 ∧ Q (.str (toString i)) H) fStr := by
  intro xs ts M B H Q Q' h w r k
  unfold fStr at h
  split at h
  · obtain ⟨v, rfl, r1⟩ := paired_one r
    rename_i i
    cases (show Rp K B.G v (.int i) from r1)
    exact ⟨i, rfl, h.1, k _ _ M B H h.2 w (.refl _ _) (.str _)⟩
  · exact h.elim
section
variable {X : Cx} {e : Expr} {es : List Expr} {mr : Ma} {p pos : Pos}
theorem me_strI (hg : Gl X "str") (hm : X.mg "str" = none) (ha : MA X (e :: es) mr) (he : starEach (e :: es) X.env = (false, eval e X.env) :: starEach es X.env := by rfl) (hpl : (backTo pos (starEach es X.env)).any (·.1) = false := by rfl) : ME X (.Call (.Name "str" p) (e :: es) [] pos) (mCall fStr mr) := me_callTy call_str_int cal_str hg hm (by decide +kernel) ha (by decide) (by decide) he hpl
end
end L3
set_option Elab.async false
set_option linter.all false
set_option maxRecDepth 100000
namespace L3
open PySem PySem.Spec L2
theorem rpa_ints' {K : PySem.W.Frag} {G : Hp} : ∀ {is : List Int} {vs : List V}, RpA K G vs (is.map .int) → vs = is.map V.int
  | [], _, .nil => rfl
  | _ :: _, _, .cons p q => by
    cases p
    rw [rpa_ints' q]
    rfl
def oIn (n : Bool) : F2 := fun x y M Q => match x, y with
  | .d (.str a), .d (.str b) => ∃ c, a = ⟨#[c]⟩ ∧ Q (.bl (if n then !decide (c ∈ b.cps.toList) else decide (c ∈ b.cps.toList))) M
  | .d (.int i), .d (.tuple ds) => ∃ is, intsOf ds = some is ∧ Q (.bl (if n then !is.any (· == i) else is.any (· == i))) M
  | _, _ => match now x M, now y M with
    | some a, some (.list ds) => (SeqAt.shaped a = true ∧ SeqAt.shaped (.list ds) = true) ∧ Q (.bl (if n then !ds.any (fun z => PyData.eqv z a) else ds.any (fun z => PyData.eqv z a))) M
    | _, _ => False
def rIns (K : PySem.W.Frag) : R2 := fun x y H Q => (∃ (c : Nat) (z : Str), x = .str ⟨#[c]⟩ ∧ y = .str z ∧ Q (.bl (decide (c ∈ z.cps.toList))) H) ∨ (L2.rIn K false x y H Q ∨ rInD K x y H Q)
theorem inV_ints {i : Int} : ∀ is : List Int, inV (.int i) (is.map V.int) = is.any (· == i)
  | [] => rfl
  | s :: r => by
    have := inV_ints (i := i) r
    unfold inV at this ⊢
    rw [List.map_cons, List.any_cons, List.any_cons, this]
    rfl
theorem flat_ints : ∀ is : List Int, (is.map V.int).all flatV = true
  | [] => rfl
  | s :: r => by
    rw [List.map_cons, List.all_cons, flat_ints r]
    rfl
theorem opl_in {K : PySem.W.Frag} : OpL K (rIns K) (oIn false) := by
  intro x y t u M B H Q Q' h w rx ry k
  unfold oIn at h
  split at h
  · cases rx
    cases ry
    obtain ⟨c, rfl, q⟩ := h
    exact .inl ⟨c, _, rfl, rfl, k _ _ M B H q w (.refl _ _) (.bl _)⟩
  · cases rx
    obtain ⟨is, e, q⟩ := h
    cases intsOf_eq e
    cases ry with
    | tup g r =>
      cases rpa_ints' r
      exact .inr (.inl ⟨_, _, rfl, .inr (SqT.mono w.le g), rfl, flat_ints is, by
        rw [if_neg Bool.false_ne_true, inV_ints]
        exact k _ _ M B H q w (.refl _ _) (.bl _)⟩)
  · split at h
    · rename_i a ds e1 e2
      exact .inr (.inr ⟨a, ds, w.dpNow rx e1, w.dpNow ry e2, h.1.1, h.1.2, k _ _ M B H h.2 w (.refl _ _) (.bl _)⟩)
    · exact h.elim
theorem opr_ins {X : Cx} (hu : X.A.units + 65 < cLine) : OpR X (compareOp .In) (rIns X.K) := op_in_sign.or (op_in_seq.or (op_inD hu))
theorem un65 {k : Nat} {A : Around} (rm : Room k A) : A.units + 65 < cLine := by
  have := rm.un
  omega
section
variable {X : Cx} {a b : Expr} {ma mb : Me} {pos : Pos}
theorem me_in {k : Nat} (rm : Room k X.A) (ha : ME X a ma) (hb : ME X b mb) (hm : behindInMarks .In b = false := by with_unfolding_all rfl) : ME X (.Compare a [.In] [b] pos) (mOp (oIn false) ma mb) := me_cmp (opr_ins (un65 rm)) opl_in ha hb hm
end
def GlC (K : PySem.W.Frag) (mg : Str → Option Value) (x : Str) (d : PyData) : Prop := ∃ u v, mg x = some u ∧ RelV v u ∧ ∀ G, Rp K G v d
theorem glc_int {K : PySem.W.Frag} {h : Heap} {mg : Str → Option Value} {x : Str} {i : Int} {t : Tok} (X : K.In h) (G : h.Ns mainGlobals mg) (e : PySem.W.nsIn K mainGlobals x = some (some (.int i t))) : GlC K mg x (.int i) :=
  ⟨_, .int i, PySem.W.mg_of X G e, ⟨t, rfl⟩, fun _ => .int i⟩
theorem glc_tup {K : PySem.W.Frag} {h : Heap} {mg : Str → Option Value} {x : Str} {is : List Int} {a : Addr} {its : Array Value} {n : Nat} {sl : Array (Option Value)} (X : K.In h) (G : h.Ns mainGlobals mg) (e : PySem.W.nsIn K mainGlobals x = some (some (.ref a)))
    (l : K.lookup a = some ⟨.type "tuple", none, .seq its n, sl⟩) (hz : its.size ≤ sizeLine) (r : Vals (is.map V.int) its.toList) : GlC K mg x (.tuple (is.map .int)) :=
  ⟨_, .ref a, PySem.W.mg_of X G e, rfl, fun _ => .tup (.inr ⟨_, its, n, l, rfl, rfl, rfl, hz, r⟩) (RpA.of_ints is)⟩
end L3
set_option Elab.async false
set_option linter.all false
set_option maxRecDepth 100000
namespace L3
open PySem PySem.Spec L2
def fIns (x : T) : FA := fun ts M Q => match x, ts with
  | .lr i, [.d (.int j), .d z] => (match M.L[i]? with
    | some (some ds) => (ds.length < sizeLine ∧ 0 ≤ j ∧ j < 2 ^ 63) ∧ Q .non { M with L := M.L.set i (some (ds.take j.toNat ++ [z] ++ ds.drop j.toNat)) }
    | _ => False)
  | _, _ => False
@[simp] theorem x_insL {i : Nat} {M : Mem} {Q : Kt} {j : Int} {z : PyData} : fIns (.lr i) [.d (.int j), .d z] M Q = (match M.L[i]? with
    | some (some ds) => (ds.length < sizeLine ∧ 0 ≤ j ∧ j < 2 ^ 63) ∧ Q .non { M with L := M.L.set i (some (ds.take j.toNat ++ [z] ++ ds.drop j.toNat)) }
    | _ => False) := rfl
end L3
set_option Elab.async false
set_option linter.all false
set_option maxRecDepth 100000
namespace L3
open PySem PySem.Spec L2
end L3
set_option Elab.async false
set_option linter.all false
set_option maxRecDepth 100000
namespace L3
open PySem PySem.Spec L2 PyProof.Rows
section
variable {prog : Program} {w : World} {A : Around} {s : Shared}
/-- a tuple of ints -/
def TupN (h : Heap) (v : Value) (ns : List Int) : Prop := ∃ a n dd sl items, v = .ref a ∧ h.get? a = some { cls := .type "tuple", dict := dd, data := .seq items n, slots := sl } ∧ IntsAre items.toList ns
end
open Classical in
noncomputable def kN (h : Heap) (v : Value) : List Int := if z : ∃ ns, TupN h v ns then choose z else []
section
variable {X : Cx} {a b : Expr} {ma mb : Me} {pos : Pos}
end
end L3
set_option Elab.async false
set_option linter.all false
set_option maxRecDepth 100000
namespace L3
open PySem PySem.Spec L2 PyProof.Rows
end L3
set_option Elab.async false
set_option linter.all false
set_option maxRecDepth 100000
namespace L3
open PySem PySem.Spec L2 PyProof.Rows
def mRevT (m : Me) : Me := fun τ M Q => m τ M fun t M1 => match t with
  | .d (.tuple ds) => Q (.tup ds.reverse) M1
  | _ => False
theorem RpA.reverse {K : PySem.W.Frag} {G : Hp} : ∀ {vs : List V} {ds : List PyData}, RpA K G vs ds → RpA K G vs.reverse ds.reverse
  | _, _, .nil => .nil
  | _, _, .cons p q => by
    rw [List.reverse_cons, List.reverse_cons]
    exact RpA.append (RpA.reverse q) (.cons p .nil)
section
variable {X : Cx} {e o : Expr} {m mo : Me} {mr : Ma} {k : Nat} {p1 p2 p3 pos apos cpos : Pos}
@[simp] theorem x_revT {τ : En} {M : Mem} {Q : Kt} : mRevT m τ M Q = m τ M fun t M1 => match t with
  | .d (.tuple ds) => Q (.tup ds.reverse) M1
  | _ => False := rfl
def mCnt (m : Me) (r : Ma) : Me := fun τ M Q => m τ M fun t M1 => match t with
  | .d (.tuple ds) => r τ M1 fun ts M2 => match ts with
    | [.d (.int k)] => ∃ ns, intsOf ds = some ns ∧ Q (.int (ns.count k : Nat)) M2
    | _ => False
  | _ => False
@[simp] theorem x_count {τ : En} {M : Mem} {Q : Kt} : mCnt m mr τ M Q = m τ M fun t M1 => match t with
  | .d (.tuple ds) => mr τ M1 fun ts M2 => match ts with
    | [.d (.int k)] => ∃ ns, intsOf ds = some ns ∧ Q (.int (ns.count k : Nat)) M2
    | _ => False
  | _ => False := rfl
end
end L3
set_option Elab.async false
set_option linter.all false
set_option maxRecDepth 100000
namespace L3
open PySem PySem.Spec L2 PyProof.Rows
def mAugL (f : Int → Int → Int) (d k v : Me) : Ms := fun E τ M => d τ M fun x M1 => k τ M1 fun y M2 => match x, y with
  | .lr i, .d (.int j) => (match M2.L[i]? with
    | some (some ds) => (0 ≤ j ∧ j < 2 ^ 63) ∧ ∃ a, ds[j.toNat]? = some (.int a) ∧ v τ M2 fun t M3 => match t with
      | .d (.int b) => M3.L[i]? = some (some ds) ∧ E.nx τ { M3 with L := M3.L.set i (some (ds.set j.toNat (.int (f a b)))) }
      | _ => False
    | _ => False)
  | _, _ => False
section
variable {X : Cx} {o i e : Expr} {mo mi me : Me} {mr : Ma} {pos tpos : Pos}
@[simp] theorem x_augL {f : Int → Int → Int} {d k v : Me} {E : Es} {τ : En} {M : Mem} : mAugL f d k v E τ M = d τ M fun x M1 => k τ M1 fun y M2 => match x, y with
  | .lr i, .d (.int j) => (match M2.L[i]? with
    | some (some ds) => (0 ≤ j ∧ j < 2 ^ 63) ∧ ∃ a, ds[j.toNat]? = some (.int a) ∧ v τ M2 fun t M3 => match t with
      | .d (.int b) => M3.L[i]? = some (some ds) ∧ E.nx τ { M3 with L := M3.L.set i (some (ds.set j.toNat (.int (f a b)))) }
      | _ => False
    | _ => False)
  | _, _ => False := rfl
def mPar3 (i j l : Nat) (r : Ma) : Ms := fun E τ M => r τ M fun ts M1 => match ts with
  | [t, u, v] => E.nx (((τ.set i (some t)).set j (some u)).set l (some v)) M1
  | _ => False
@[simp] theorem x_par3 {i j l : Nat} {r : Ma} {E : Es} {τ : En} {M : Mem} : mPar3 i j l r E τ M = r τ M fun ts M1 => match ts with
  | [t, u, v] => E.nx (((τ.set i (some t)).set j (some u)).set l (some v)) M1
  | _ => False := rfl
end
def oMulL : F2 := fun x y M Q => match x, y with
  | .d (.list a), .d (.int j) => (-(2 ^ 63) ≤ j ∧ j < 2 ^ 63 ∧ a.length * j.toNat ≤ sizeLine) ∧ Q (.lr M.L.length) { M with L := M.L ++ [some (List.replicate j.toNat a).flatten] }
  | _, _ => False
@[simp] theorem x_mulL {a : List PyData} {j : Int} {M : Mem} {Q : Kt} : oMulL (.d (.list a)) (.d (.int j)) M Q = ((-(2 ^ 63) ≤ j ∧ j < 2 ^ 63 ∧ a.length * j.toNat ≤ sizeLine) ∧ Q (.lr M.L.length) { M with L := M.L ++ [some (List.replicate j.toNat a).flatten] }) := rfl
end L3
set_option Elab.async false
set_option linter.all false
set_option maxRecDepth 100000
namespace L3
open PySem PySem.Spec L2 PyProof.Rows
theorem Rt.cut {K : PySem.W.Frag} {B B0 : Bk} {v v0 : V} {t : T} (h0 : Rt K { B0 with l := [] } v0 t) (h : Rt K { B with l := [] } v t) : Rt K { B with r := B.r.take B0.r.length, l := [] } v t := by
  cases t with
  | d x => exact h
  | mr i =>
    obtain ⟨a, e, q⟩ := h
    obtain ⟨a0, _, q0⟩ := h0
    have hi : i < B0.r.length := by
      rcases Nat.lt_or_ge i B0.r.length with z | z
      · exact z
      · have q0' : B0.r[i]? = some a0 := q0
        rw [List.getElem?_eq_none z] at q0'
        cases q0'
    refine ⟨a, e, ?_⟩
    show (B.r.take B0.r.length)[i]? = some a
    rw [List.getElem?_take, if_pos hi]
    exact q
  | lr i => exact h
  | scr ns => exact h
  | wt xs => exact h
  | exo a c d e => exact h
  | q x => exact h
theorem paired_cut {K : PySem.W.Frag} {B B0 : Bk} : ∀ {vs0 vs : List V} {ts : List T}, Paired (Rt K { B0 with l := [] }) vs0 ts → Paired (Rt K { B with l := [] }) vs ts → Paired (Rt K { B with r := B.r.take B0.r.length, l := [] }) vs ts
  | _, _, _, .nil, .nil => .nil
  | _, _, _, .cons a q, .cons b r => .cons (Rt.cut a b) (paired_cut q r)
theorem paired_cutD {K : PySem.W.Frag} {B B0 : Bk} : ∀ {vs0 vs : List (Key × V)} {ts : List (Key × T)}, Paired (fun (p : Key × V) (q : Key × T) => p.1 = q.1 ∧ Rt K { B0 with l := [] } p.2 q.2) vs0 ts → Paired (fun (p : Key × V) (q : Key × T) => p.1 = q.1 ∧ Rt K { B with l := [] } p.2 q.2) vs ts → Paired (fun (p : Key × V) (q : Key × T) => p.1 = q.1 ∧ Rt K { B with r := B.r.take B0.r.length, l := [] } p.2 q.2) vs ts
  | _, _, _, .nil, .nil => .nil
  | _, _, _, .cons a q, .cons b r => .cons ⟨b.1, Rt.cut a.2 b.2⟩ (paired_cutD q r)
theorem paired_cutS {K : PySem.W.Frag} {B B0 : Bk} : ∀ {vs0 vs : List (Str × V)} {ts : List (Str × T)}, Paired (fun (p : Str × V) (q : Str × T) => p.1 = q.1 ∧ Rt K { B0 with l := [] } p.2 q.2) vs0 ts → Paired (fun (p : Str × V) (q : Str × T) => p.1 = q.1 ∧ Rt K { B with l := [] } p.2 q.2) vs ts → Paired (fun (p : Str × V) (q : Str × T) => p.1 = q.1 ∧ Rt K { B with r := B.r.take B0.r.length, l := [] } p.2 q.2) vs ts
  | _, _, _, .nil, .nil => .nil
  | _, _, _, .cons a q, .cons b r => .cons ⟨b.1, Rt.cut a.2 b.2⟩ (paired_cutS q r)
theorem paired_cutN {K : PySem.W.Frag} {B B0 : Bk} : ∀ {vs0 vs : List (NestedKey × Addr × V)} {ts : List (NestedKey × T)}, Paired (fun (p : NestedKey × Addr × V) (q : NestedKey × T) => p.1 = q.1 ∧ okKey 8 q.1 = true ∧ Rp K B0.G (.ref p.2.1) q.1.data ∧ Rt K { B0 with l := [] } p.2.2 q.2) vs0 ts →
    Paired (fun (p : NestedKey × Addr × V) (q : NestedKey × T) => p.1 = q.1 ∧ okKey 8 q.1 = true ∧ Rp K B.G (.ref p.2.1) q.1.data ∧ Rt K { B with l := [] } p.2.2 q.2) vs ts →
    Paired (fun (p : NestedKey × Addr × V) (q : NestedKey × T) => p.1 = q.1 ∧ okKey 8 q.1 = true ∧ Rp K B.G (.ref p.2.1) q.1.data ∧ Rt K { B with r := B.r.take B0.r.length, l := [] } p.2.2 q.2) vs ts
  | _, _, _, .nil, .nil => .nil
  | _, _, _, .cons a q, .cons b r => .cons ⟨b.1, b.2.1, b.2.2.1, Rt.cut a.2.2.2 b.2.2.2⟩ (paired_cutN q r)
theorem paired_cutK {K : PySem.W.Frag} {B B0 : Bk} : ∀ {vs0 vs : List (NestedKey × Addr × V)} {ts : List (PyData × T)}, Paired (fun (p : NestedKey × Addr × V) (q : PyData × T) => nk q.1 = some p.1 ∧ okKey 8 p.1 = true ∧ Rp K B0.G (.ref p.2.1) q.1 ∧ Rt K { B0 with l := [] } p.2.2 q.2) vs0 ts →
    Paired (fun (p : NestedKey × Addr × V) (q : PyData × T) => nk q.1 = some p.1 ∧ okKey 8 p.1 = true ∧ Rp K B.G (.ref p.2.1) q.1 ∧ Rt K { B with l := [] } p.2.2 q.2) vs ts →
    Paired (fun (p : NestedKey × Addr × V) (q : PyData × T) => nk q.1 = some p.1 ∧ okKey 8 p.1 = true ∧ Rp K B.G (.ref p.2.1) q.1 ∧ Rt K { B with r := B.r.take B0.r.length, l := [] } p.2.2 q.2) vs ts
  | _, _, _, .nil, .nil => .nil
  | _, _, _, .cons a q, .cons b r => .cons ⟨b.1, b.2.1, b.2.2.1, Rt.cut a.2.2.2 b.2.2.2⟩ (paired_cutK q r)
theorem Wd.cut {K : PySem.W.Frag} {B B0 : Bk} {M : Mem} {D : List Cell} {H H0 : Hp} (w0 : Wd K B0 ⟨D, []⟩ H0) (w : Wd K B M H) (hD : M.D.take D.length = D) : Wd K { B with r := B.r.take B0.r.length, l := [] } ⟨D, []⟩ H := by
  have nr : B.r.Nodup := (List.nodup_append.mp w.nd).1
  have l0 : B0.r.length = D.length := w0.rlen
  refine ⟨w.le, ?_, rfl, ?_, fun i a c h1 h2 => ?_, fun i a ds h1 _ => ?_, fun a ha => ?_⟩
  · show (B.r.take B0.r.length).length = D.length
    have := congrArg List.length hD
    rw [List.length_take] at this
    rw [List.length_take, w.rlen, l0]
    exact this
  · show (B.r.take B0.r.length ++ []).Nodup
    rw [List.append_nil]
    exact nr.sublist (List.take_sublist _ _)
  · have h1' : (B.r.take B0.r.length)[i]? = some a := h1
    have h2' : D[i]? = some c := h2
    rw [List.getElem?_take] at h1'
    split at h1'
    · rename_i hi
      have h3 : M.D[i]? = some c := by
        rw [← hD, List.getElem?_take] at h2'
        split at h2'
        · exact h2'
        · cases h2'
      obtain ⟨z1, z2⟩ := w.dc i a c h1' h3
      obtain ⟨z3, z4⟩ := w0.dc i (B0.r[i]'hi) c (List.getElem?_eq_getElem hi) h2'
      refine ⟨z1, ?_⟩
      cases c with
      | lst ts =>
        obtain ⟨xs, e1, e2⟩ := z2
        obtain ⟨xs0, _, e3⟩ := z4
        exact ⟨xs, e1, paired_cut e3 e2⟩
      | dct kvs =>
        obtain ⟨xs, e1, e2⟩ := z2
        obtain ⟨xs0, _, e3⟩ := z4
        exact ⟨xs, e1, paired_cutD e3 e2⟩
      | held u => exact z2
      | ins c fs =>
        obtain ⟨C, dx, vs, hc, e1, e2⟩ := z2
        obtain ⟨_, _, _, _, _, e3⟩ := z4
        exact ⟨C, dx, vs, hc, e1, paired_cutS e3 e2⟩
      | tup ts =>
        obtain ⟨o, xs, e1, ho, e2⟩ := z2
        obtain ⟨_, _, _, _, e3⟩ := z4
        exact ⟨o, xs, e1, ho, paired_cut e3 e2⟩
      | exc f2 e2 => exact z2
      | dnd kvs =>
        obtain ⟨xs, e1, e2⟩ := z2
        obtain ⟨xs0, _, e3⟩ := z4
        exact ⟨xs, e1, paired_cutK e3 e2⟩
      | dnk kvs =>
        obtain ⟨xs, e1, e2⟩ := z2
        obtain ⟨xs0, _, e3⟩ := z4
        exact ⟨xs, e1, paired_cutN e3 e2⟩
    · cases h1'
  · have h1' : ([] : List Addr)[i]? = some a := h1
    simp at h1'
  · have ha' : a ∈ B.r.take B0.r.length ++ [] := ha
    rw [List.append_nil] at ha'
    exact w.tr a (List.mem_append_left _ (List.mem_of_mem_take ha'))
theorem Ext.cut {B B0 : Bk} {H H0 : Hp} (e : Ext B0 H0 B H) : Ext B0 H0 { B with r := B.r.take B0.r.length, l := B0.l } H := by
  have er : B.r.take B0.r.length = B0.r := by
    obtain ⟨c, hc⟩ := e.r
    rw [← hc, List.take_left]
  exact ⟨e.g, by show B0.r <+: B.r.take B0.r.length; rw [er]; exact List.prefix_refl _, List.prefix_refl _, e.fr, e.tr, fun a z => .inl (by have z' : a ∈ B.r.take B0.r.length := z; rw [er] at z'; exact z'), fun a z => .inl z, e.gf⟩
end L3
set_option Elab.async false
set_option linter.all false
set_option maxRecDepth 100000
namespace L3
open PySem PySem.Spec L2 PyProof.Rows
theorem KT.lookN {K : PySem.W.Frag} {B : Bk} {vs : List (Key × V)} {ts : List (Key × T)} {k : Key} (h : KT K B vs ts) : (valV vs k).isSome = (lookT ts k).isSome := by
  induction h with
  | nil => rfl
  | @cons p q ps qs f _ ih =>
    by_cases z : q.1 = k
    · have e' : lookT (q :: qs) k = some q.2 := by simp [lookT, List.find?_cons, z]
      rw [e', valV_pos (f.1.trans z)]
      rfl
    · have e' : lookT (q :: qs) k = lookT qs k := by simp [lookT, List.find?_cons, z]
      rw [e', valV_neg fun y => z (f.1.symm.trans y), ih]
def oDIn (n : Bool) : F2 := fun x y M Q => match keyOf x, y with
  | some k, .mr i => (match M.D[i]? with
    | some (.dct kvs) => Q (.bl (if n then !(lookT kvs k).isSome else (lookT kvs k).isSome)) M
    | _ => False)
  | _, _ => False
@[simp] theorem x_din {n : Bool} {j : Int} {i : Nat} {M : Mem} {Q : Kt} : oDIn n (.d (.int j)) (.mr i) M Q = (match M.D[i]? with
    | some (.dct kvs) => Q (.bl (if n then !(lookT kvs (.inl j)).isSome else (lookT kvs (.inl j)).isSome)) M
    | _ => False) := rfl
@[simp] theorem x_keyI {j : Int} : keyOf (.d (.int j)) = some (.inl j) := rfl
section
variable {X : Cx} {o i : Expr} {mo mi : Me} {pos : Pos}
def mDNew : Me := fun _ M Q => Q (.mr M.D.length) { M with D := M.D ++ [.dct []] }
@[simp] theorem x_dnew {τ : En} {M : Mem} {Q : Kt} : mDNew τ M Q = Q (.mr M.D.length) { M with D := M.D ++ [.dct []] } := rfl
end
end L3
set_option Elab.async false
set_option linter.all false
set_option maxRecDepth 100000
namespace Sh
open PySem PySem.Spec L2 L3
theorem pig : ∀ (n : Nat) (l : List Nat), l.Nodup → (∀ x ∈ l, x < n) → l.length ≤ n
  | 0, l, _, h => by
    cases l with
    | nil => simp
    | cons a l => exact absurd (h a List.mem_cons_self) (by omega)
  | n + 1, l, nd, h => by
    have h1 := pig n (l.erase n) (nd.erase n) fun x hx => by
      have := (nd.mem_erase_iff).mp hx
      have := h x this.2
      omega
    have h2 := List.length_erase (a := n) (l := l)
    split at h2 <;> omega
structure Kn (P : Int → T → Prop) (kvs : List (Key × T)) : Prop where
  nd : (kvs.map (·.1)).Nodup
  ok : ∀ p ∈ kvs, ∃ j : Int, p.1 = .inl j ∧ 0 ≤ j ∧ j < 64 ∧ P j p.2
theorem Kn.nil {P : Int → T → Prop} : Kn P [] := ⟨List.nodup_nil, fun p h => nomatch h⟩
theorem Kn.put {P : Int → T → Prop} {kvs : List (Key × T)} {j : Int} {t : T} (h : Kn P kvs) (h0 : 0 ≤ j) (h1 : j < 64) (hp : P j t) : Kn P (putT kvs (.inl j) t) := by
  unfold putT
  split
  · refine ⟨?_, fun p hm => ?_⟩
    · have e : (kvs.map fun kv => if kv.1 = (.inl j : Key) then (kv.1, t) else kv).map (·.1) = kvs.map (·.1) := by
        rw [List.map_map]
        refine List.map_congr_left fun kv _ => ?_
        show (if kv.1 = (.inl j : Key) then (kv.1, t) else kv).1 = kv.1
        split <;> rfl
      rw [e]
      exact h.nd
    · obtain ⟨kv, hk, rfl⟩ := List.mem_map.mp hm
      by_cases z : kv.1 = (.inl j : Key)
      · rw [if_pos z]
        exact ⟨j, z, h0, h1, hp⟩
      · rw [if_neg z]
        exact h.ok kv hk
  · rename_i hn
    refine ⟨?_, fun p hm => ?_⟩
    · rw [List.map_append]
      refine List.nodup_append.mpr ⟨h.nd, by simp, fun a ha b hb => ?_⟩
      rw [List.mem_singleton.mp hb]
      rintro rfl
      obtain ⟨kv, hk, e⟩ := List.mem_map.mp ha
      exact hn (List.any_eq_true.mpr ⟨kv, hk, decide_eq_true e⟩)
    · rcases List.mem_append.mp hm with z | z
      · exact h.ok p z
      · rw [List.mem_singleton.mp z]
        exact ⟨j, rfl, h0, h1, hp⟩
theorem Kn.look {P : Int → T → Prop} {kvs : List (Key × T)} {j : Int} {t : T} (h : Kn P kvs) (e : lookT kvs (.inl j) = some t) : P j t := by
  unfold lookT at e
  cases hf : kvs.find? fun kv => decide (kv.1 = (.inl j : Key)) with
  | none => rw [hf] at e; cases e
  | some p =>
    rw [hf] at e
    cases e
    have h0 := List.find?_some hf
    have h1 : p.1 = (.inl j : Key) := of_decide_eq_true h0
    obtain ⟨i, a, _, _, d⟩ := h.ok p (List.mem_of_find?_eq_some hf)
    rw [h1] at a
    cases a
    exact d
def kN : Key → Nat
  | .inl j => j.toNat
  | _ => 0
theorem Kn.len {P : Int → T → Prop} {kvs : List (Key × T)} (h : Kn P kvs) : kvs.length ≤ 64 := by
  have := pig 64 (kvs.map fun p => kN p.1) ?_ fun x hx => ?_
  · simpa using this
  · have nd := h.nd
    unfold List.Nodup at nd ⊢
    rw [List.pairwise_map] at nd ⊢
    refine List.Pairwise.imp_of_mem (fun {a b} ha hb hne => ?_) nd
    obtain ⟨i, e1, i0, _, _⟩ := h.ok a ha
    obtain ⟨j, e2, j0, _, _⟩ := h.ok b hb
    rw [e1, e2] at hne ⊢
    intro z
    have z' : i.toNat = j.toNat := z
    exact hne (by rw [show i = j by omega])
  · obtain ⟨p, hp, rfl⟩ := List.mem_map.mp hx
    obtain ⟨j, e, j0, j1, _⟩ := h.ok p hp
    rw [e]
    show j.toNat < 64
    omega
end Sh
set_option Elab.async false
set_option linter.all false
set_option maxRecDepth 100000
namespace Wl
open PySem PySem.Spec L2 L3
theorem w_an {R : List T → Mem → Prop} {τ : En} {M : Mem} (h : R [] M) : aNil τ M R := h
theorem w_c {x : PyData} {τ : En} {M : Mem} {Q : Kt} (h : Q (.d x) M) : mC x τ M Q := h
theorem ifT {p q : Prop} {b : Bool} (h : b = true) (x : p) : if b = true then p else q := by
  rw [if_pos h]
  exact x
theorem ifF {p q : Prop} {b : Bool} (h : ¬ b = true) (x : q) : if b = true then p else q := by
  rw [if_neg h]
  exact x
end Wl
set_option Elab.async false
set_option linter.all false
set_option maxRecDepth 100000
set_option maxHeartbeats 2000000
namespace L3
open PySem PySem.Spec L2
/-- the exception of the class cls, its dict at d, is e -/
def Rx (K : PySem.W.Frag) (mg : Str → Option Value) (G : Hp) (cls : Value) (d : Option Addr) (e : Exn) : Prop := mg e.cls = some cls ∧ ExR K G d e
abbrev Wx := Exn → Mem → Prop
abbrev Wxs := Exn → En → Mem → Prop
abbrev MeX := Wx → Me
abbrev MaX := Wx → Ma
abbrev MsX := Wxs → Ms
def GoW (K : PySem.W.Frag) (mg : Str → Option Value) (Wt : Wx) (W : WX) (σ : St) (B : Bk) (H : Hp) : Prop := ∀ e cls d M' B' H', Wt e M' → Wd K B' M' H' → Ext B H B' H' → Rx K mg B'.G cls d e → W cls d σ H'
def GoS (K : PySem.W.Frag) (mg : Str → Option Value) (Wt : Wxs) (W : WX) (B : Bk) (H : Hp) : Prop := ∀ e cls d τ' M' B' σ' H', Wt e τ' M' → Wd K B' M' H' → Ext B H B' H' → Sl K B' σ' τ' → Rx K mg B'.G cls d e → W cls d σ' H'
theorem GoS.at {K : PySem.W.Frag} {mg : Str → Option Value} {Wt : Wxs} {W : WX} {B : Bk} {H : Hp} {σ : St} {τ : En} (g : GoS K mg Wt W B H) (s : Sl K B σ τ) : GoW K mg (fun e M => Wt e τ M) W σ B H := fun e c d M' B' H' h w y r => g e c d τ M' B' σ H' h w y (s.mono y) r
section
variable {X : Cx} {a b e : Expr} {es : List Expr} {m : Me} {mx my : MeX} {mr : Ma} {mrx : MaX} {mc : Mb} {pos : Pos}
end
section
variable {X : Cx} {e c tg : Expr} {m : Me} {mx : MeX} {mc : Mb} {st : Stmt} {sts a b : List Stmt} {s : Ms} {sx rx : MsX} {pos : Pos} {g : Mg}
end
/-- what the written part says of an exception class -/
structure ExF (K : PySem.W.Frag) (C : Addr) : Prop where
  kp : PySem.W.keepIn K (.ref C) = true
  su : PySem.W.subIn K (.ref C) (.type "BaseException") = some true
  ty : PySem.W.typeIn K (.ref C) = some (.type "type")
  cl : (PySem.W.clsIn K C).isSome = true
  ga : PySem.W.findIn K (.ref C) "__getattribute__" = some (some (.builtin "BaseException.__getattribute__"))
  gt : PySem.W.findIn K (.ref C) "__getattr__" = some none
  ha : PySem.W.findIn K (.ref C) "__class__" = some (some (.builtin "object.__class__"))
  hn : PySem.W.specialIn K (.builtin "object.__class__") "__get__" = some (some (.builtin "getset_descriptor.__get__"))
  tk : PySem.W.takesIn K (.builtin "object.__class__") = some true
  mo : PySem.W.mroIn K C (.type "object") = some true
abbrev tailVE : List Value := [.type "ValueError", .type "Exception", .type "BaseException", .type "object"]
section
variable {X : Cx}
end
abbrev FX := List T → List Cell → (T → List Cell → Prop) → (Exn → List Cell → Prop) → Prop
structure FnX (P : Program) (w : World) (K : PySem.W.Frag) (mg : Str → Option Value) (base : Heap) (k : Nat) (f : Addr) (fd : FuncData) (ps : List Str) (sp : Sp) : Prop where
  len : ∀ vs H Q E, sp vs H Q E → vs.length = ps.length
  run : ∀ (A : Around) (outer : List Env) (sh : Shared) (H : Hp) (args : Args) (us : List Value) (vs : List V) (Q : VK) (E : XK), Gd A → Room k A → Env0 P w K mg base A outer sh H → BindsTo sh fd args (ps.zip us) → Vals vs us → sp vs H Q E →
    codeAny (model P w) A (.call (.ref f) args) (CR (L2.CX P w) outer P w H sh Q E) sh
theorem FnX.mono {P : Program} {w : World} {K : PySem.W.Frag} {mg : Str → Option Value} {base : Heap} {j k : Nat} {f : Addr} {fd : FuncData} {ps : List Str} {sp : Sp} (F : FnX P w K mg base j f fd ps sp) (h : j ≤ k) : FnX P w K mg base k f fd ps sp :=
  ⟨F.len, fun A outer sh H args us vs Q E gd rm => F.run A outer sh H args us vs Q E gd (rm.mono h)⟩
theorem Ext.leave {B B' : Bk} {H H' : Hp} (lB : B.l = []) (e : Ext B H B' H') : Ext B H { B' with l := [] } H' :=
  ⟨e.g, e.r, by rw [lB]; exact List.nil_prefix, e.fr, e.tr, e.rn, fun a z => absurd z (by simp), e.gf⟩
/-- back in the frame that called: its own lists are there again -/
theorem back_wd {K : PySem.W.Frag} {M : Mem} {B B1 : Bk} {H H1 : Hp} {D' : List Cell} (w : Wd K B M H) (w1 : Wd K B1 ⟨D', []⟩ H1) (e1 : Ext { B with l := [] } H B1 H1) :
    Wd K { B1 with l := B.l } { M with D := D' } H1 ∧ Ext B H { B1 with l := B.l } H1 := by
  have l1 : B1.l = [] := List.length_eq_zero_iff.mp w1.llen
  have own : ∀ a ∈ B.l, H a ≠ none := fun a z => w.tr a (List.mem_append_right _ z)
  have nr1 : ∀ a ∈ B.l, a ∉ B1.r := fun a z y => by
    rcases e1.rn a y with q | q
    · exact w.rl q z
    · exact own a z q
  have stay : ∀ {a : Addr} {o : HO}, a ∈ B.l → H a = some o → H1 a = some o := fun {a o} z e => e1.fr a o e (fun y => w.rl y z) fun y => by cases y
  refine ⟨⟨w1.le, w1.rlen, w.llen, ?_, w1.dc, fun i a ds h1 h2 => ?_, fun a ha => ?_⟩, ⟨e1.g, e1.r, List.prefix_refl _, fun a o e n1 n2 => e1.fr a o e n1 (by intro y; cases y), e1.tr, e1.rn, fun a z => .inl z, fun a o e => (e1.gf a o e).elim .inl fun z => z.elim (fun z => .inr (.inl z)) (by intro z; cases z)⟩⟩
  · show (B1.r ++ B.l).Nodup
    have n1 := w1.nd
    rw [l1, List.append_nil] at n1
    refine List.nodup_append.mpr ⟨n1, (List.nodup_append.mp w.nd).2.1, fun x hx y hy z => ?_⟩
    subst z
    exact nr1 x hy hx
  · obtain ⟨q1, xs, q2, q3⟩ := w.lc i a ds h1 h2
    have ml := mem_of_get h1
    refine ⟨?_, xs, stay ml q2, RpA.mono e1.g q3⟩
    show B1.G a = none
    cases z : B1.G a with
    | none => rfl
    | some o =>
      rcases e1.gf a o z with y | y | y
      · rw [show B.G a = none from q1] at y; cases y
      · exact absurd y (own a ml)
      · cases y
  · have ha' : a ∈ B1.r ++ B.l := ha
    rcases List.mem_append.mp ha' with z | z
    · exact w1.tr a (List.mem_append_left _ z)
    · exact fun y => own a z (e1.tr a y)
section
variable {X : Cx} {j k : Nat} {x : Str} {st : Stmt} {f : Addr} {fd : FuncData} {ps ks : List Str} {m : FX} {p pos : Pos} {e : Expr} {es : List Expr} {mr : Ma} {kws : List Keyword}
end
end L3
set_option Elab.async false
set_option linter.all false
set_option maxRecDepth 100000
set_option maxHeartbeats 2000000
namespace L3
open PySem PySem.Spec L2
section
variable {X : Cx} {x n : Str} {cs : List Str} {i : Nat} {body suite : List Stmt} {b₀ : Stmt} {np pos pos' : Pos} {mb : MsX} {ms : Addr → Value → Option Addr → Exn → Ms} {mo : Ms}
end
section
variable {X : Cx} {a : Addr} {oe : Obj} {cls : Value} {d : Option Addr} {e : Exn} {pn : List (Addr × Obj)} {i : Nat} {x n : Str} {p p2 p3 pos : Pos}
end
end L3
namespace L3
open PySem PySem.Spec L2
theorem exf_of {K : PySem.W.Frag} {C : Addr} (kp : PySem.W.keepIn K (.ref C) = true) (su : PySem.W.subIn K (.ref C) (.type "BaseException") = some true) (ty : PySem.W.typeIn K (.ref C) = some (.type "type")) (cl : PySem.W.isClsIn K C = true)
    (ga : PySem.W.findIn K (.ref C) "__getattribute__" = some (some (.builtin "BaseException.__getattribute__"))) (gt : PySem.W.findIn K (.ref C) "__getattr__" = some none) (ha : PySem.W.findIn K (.ref C) "__class__" = some (some (.builtin "object.__class__")))
    (hn : PySem.W.specialIn K (.builtin "object.__class__") "__get__" = some (some (.builtin "getset_descriptor.__get__"))) (tk : PySem.W.takesIn K (.builtin "object.__class__") = some true) (mo : PySem.W.mroIn K C (.type "object") = some true) : ExF K C :=
  ⟨kp, su, ty, cl, ga, gt, ha, hn, tk, mo⟩
theorem all_cons {α : Type} {P : α → Prop} {a : α} {l : List α} (h : P a) (t : ∀ x ∈ l, P x) : ∀ x ∈ a :: l, P x := fun x hx => by
  rcases List.mem_cons.mp hx with e | e
  · rw [e]; exact h
  · exact t x e
section
variable {X : Cx} {a : Addr} {oe : Obj} {cls : Value} {d : Option Addr} {e : Exn} {pn : List (Addr × Obj)} {i : Nat} {x n : Str} {p p2 p3 pos : Pos}
end
end L3
namespace L3
open PySem PySem.Spec L2
theorem w_ret {m : Me} {E : Es} {τ : En} {M : Mem} (h : m τ M E.rt) : mRet m E τ M := h
theorem w_set {i : Nat} {m : Me} {E : Es} {τ : En} {M : Mem} (h : m τ M fun t M1 => E.nx (τ.set i (some t)) M1) : mSet i m E τ M := h
theorem w_next {E : Es} {τ : En} {M : Mem} (h : E.nx τ M) : mNext E τ M := h
theorem w_ac {m : Me} {a : Ma} {τ : En} {M : Mem} {R : List T → Mem → Prop} (h : m τ M fun x M1 => a τ M1 fun xs M2 => R (x :: xs) M2) : aCons m a τ M R := h
theorem w_lst {a : Ma} {τ : En} {M : Mem} {Q : Kt} (h : a τ M fun ts M1 => match datas ts with
    | some ds => ds.length ≤ sizeLine ∧ Q (.lst ds) M1
    | none => False) : mLst a τ M Q := h
theorem w_tup {a : Ma} {τ : En} {M : Mem} {Q : Kt} (h : a τ M fun ts M1 => match datas ts with
    | some ds => ds.length ≤ sizeLine ∧ Q (.tup ds) M1
    | none => False) : mTup a τ M Q := h
theorem w_call {f : FA} {a : Ma} {τ : En} {M : Mem} {Q : Kt} (h : a τ M fun ts M1 => f ts M1 Q) : mCall f a τ M Q := h
theorem w_op {f : F2} {m r : Me} {τ : En} {M : Mem} {Q : Kt} (h : m τ M fun x M1 => r τ M1 fun y M2 => f x y M2 Q) : mOp f m r τ M Q := h
end L3
set_option Elab.async false
set_option linter.all false
set_option maxRecDepth 100000
set_option maxHeartbeats 2000000
namespace L3
open PySem PySem.Spec L2 PyProof.Rows
section
variable {X : Cx} {pn : List (Addr × Obj)} {sg : L2.St} {H : Hp} {s : Shared}
mutual
theorem nk_data : ∀ k : NestedKey, nk k.data = some k
  | .none => rfl
  | .num i => rfl
  | .text x => rfl
  | .tup ks => by rw [NestedKey.data, nk, nks_datas ks]; rfl
theorem nks_datas : ∀ ks : List NestedKey, nks (NestedKey.datas ks) = some ks
  | [] => rfl
  | k :: ks => by rw [NestedKey.datas, nks, nk_data k, nks_datas ks]
end
end
/-- at b stands the tuple that is the key k -/
def KeyAt (K : PySem.W.Frag) (H : Hp) (b : Addr) (k : NestedKey) : Prop := okKey 8 k = true ∧ ∃ d, nk d = some k ∧ Rp K H (.ref b) d
theorem KeyAt.of {K : PySem.W.Frag} {H : Hp} {b : Addr} {k : NestedKey} (h : okKey 8 k = true) (r : Rp K H (.ref b) k.data) : KeyAt K H b k := ⟨h, _, nk_data k, r⟩
def lookE (es : List (NestedKey × Addr × V)) (k : NestedKey) : Option V := (es.find? fun e => decide (e.1 = k)).map (·.2.2)
def putE (es : List (NestedKey × Addr × V)) (k : NestedKey) (b : Addr) (v : V) : List (NestedKey × Addr × V) :=
  if (lookE es k).isSome then es.map fun e => if e.1 = k then (e.1, e.2.1, v) else e else es ++ [(k, b, v)]
abbrev PrE (es : List (NestedKey × Addr × V)) (xs : List (NestedKey × Addr × Value)) : Prop := Paired (fun (p : NestedKey × Addr × V) (q : NestedKey × Addr × Value) => p.1 = q.1 ∧ p.2.1 = q.2.1 ∧ RelV p.2.2 q.2.2) es xs
theorem PrE.look {es : List (NestedKey × Addr × V)} {xs : List (NestedKey × Addr × Value)} (r : PrE es xs) (k : NestedKey) : RelO (lookE es k) ((atKey xs k).map (·.2)) := by
  unfold PrE at r
  induction r with
  | nil => trivial
  | @cons p q ps qs f _ ih =>
    by_cases z : p.1 = k
    · have e1 : lookE (p :: ps) k = some p.2.2 := by simp [lookE, List.find?_cons, z]
      have e2 : (atKey (q :: qs) k).map (·.2) = some q.2.2 := by simp [atKey, List.find?_cons, f.1.symm.trans z]
      rw [e1, e2]
      exact f.2.2
    · have z2 : ¬ q.1 = k := fun y => z (f.1.trans y)
      have e1 : lookE (p :: ps) k = lookE ps k := by simp [lookE, List.find?_cons, z]
      have e2 : (atKey (q :: qs) k).map (·.2) = (atKey qs k).map (·.2) := by simp [atKey, List.find?_cons, z2]
      rw [e1, e2]
      exact ih
theorem PrE.repl {es : List (NestedKey × Addr × V)} {xs : List (NestedKey × Addr × Value)} (r : PrE es xs) (k : NestedKey) {v : V} {u : Value} (rv : RelV v u) :
    PrE (es.map fun e => if e.1 = k then (e.1, e.2.1, v) else e) (xs.map (putAt k u)) := by
  unfold PrE at r
  induction r with
  | nil => exact .nil
  | @cons p q ps qs f _ ih =>
    refine .cons ?_ ih
    by_cases z : p.1 = k
    · have e1 : (fun e : NestedKey × Addr × V => if e.1 = k then (e.1, e.2.1, v) else e) p = (p.1, p.2.1, v) := if_pos z
      have e2 : putAt k u q = (q.1, q.2.1, u) := if_pos (f.1.symm.trans z)
      rw [e1, e2]
      exact ⟨f.1, f.2.1, rv⟩
    · have e1 : (fun e : NestedKey × Addr × V => if e.1 = k then (e.1, e.2.1, v) else e) p = p := if_neg z
      have e2 : putAt k u q = q := if_neg fun y => z (f.1.trans y)
      rw [e1, e2]
      exact f
theorem PrE.put {es : List (NestedKey × Addr × V)} {xs : List (NestedKey × Addr × Value)} (r : PrE es xs) (k : NestedKey) (b : Addr) {v : V} {u : Value} (rv : RelV v u) : PrE (putE es k b v) (storedH xs k b u) := by
  have e : (lookE es k).isSome = (atKey xs k).isSome := by
    have := (r.look k).isSome_eq
    rw [Option.isSome_map] at this
    exact this
  unfold putE storedH
  rw [e]
  by_cases q : (atKey xs k).isSome = true
  · rw [if_pos q, if_pos q]
    exact r.repl k rv
  · rw [if_neg q, if_neg q]
    exact Paired.snoc r ⟨rfl, rfl, rv⟩
section
variable {P : Program} {w : World} {H : Hp} {h h' : Heap} {a : Addr} {es : List (NestedKey × Addr × V)}
end
section
variable {X : Cx} {pn : List (Addr × Obj)} {sg : L2.St} {H : Hp} {s : Shared} {a b : Addr} {es : List (NestedKey × Addr × V)} {k : NestedKey} {v : V} {u : Value} {A : Around} {E : Value → Shared → Prop}
end
def lookN (kvs : List (NestedKey × T)) (k : NestedKey) : Option T := (kvs.find? fun kv => decide (kv.1 = k)).map (·.2)
def putN (kvs : List (NestedKey × T)) (k : NestedKey) (t : T) : List (NestedKey × T) :=
  if (lookN kvs k).isSome then kvs.map fun kv => if kv.1 = k then (kv.1, t) else kv else kvs ++ [(k, t)]
abbrev NT (K : PySem.W.Frag) (B : Bk) (es : List (NestedKey × Addr × V)) (kvs : List (NestedKey × T)) : Prop := Paired (fun (p : NestedKey × Addr × V) (q : NestedKey × T) => p.1 = q.1 ∧ okKey 8 q.1 = true ∧ Rp K B.G (.ref p.2.1) q.1.data ∧ Rt K { B with l := [] } p.2.2 q.2) es kvs
theorem NT.look {K : PySem.W.Frag} {B : Bk} {es : List (NestedKey × Addr × V)} {kvs : List (NestedKey × T)} (r : NT K B es kvs) (k : NestedKey) : (lookE es k).isSome = (lookN kvs k).isSome ∧ ∀ t, lookN kvs k = some t → ∃ v, lookE es k = some v ∧ Rt K { B with l := [] } v t := by
  unfold NT at r
  induction r with
  | nil => exact ⟨rfl, fun t e => (nomatch e)⟩
  | @cons p q ps qs f _ ih =>
    by_cases z : q.1 = k
    · have e1 : lookE (p :: ps) k = some p.2.2 := by simp [lookE, List.find?_cons, f.1.trans z]
      have e2 : lookN (q :: qs) k = some q.2 := by simp [lookN, List.find?_cons, z]
      rw [e1, e2]
      exact ⟨rfl, fun t e => by cases e; exact ⟨_, rfl, f.2.2.2⟩⟩
    · have z2 : ¬ p.1 = k := fun y => z (f.1.symm.trans y)
      have e1 : lookE (p :: ps) k = lookE ps k := by simp [lookE, List.find?_cons, z2]
      have e2 : lookN (q :: qs) k = lookN qs k := by simp [lookN, List.find?_cons, z]
      rw [e1, e2]
      exact ih
theorem NT.repl {K : PySem.W.Frag} {B : Bk} {es : List (NestedKey × Addr × V)} {kvs : List (NestedKey × T)} (r : NT K B es kvs) (k : NestedKey) {v : V} {t : T} (rv : Rt K { B with l := [] } v t) :
    NT K B (es.map fun e => if e.1 = k then (e.1, e.2.1, v) else e) (kvs.map fun kv => if kv.1 = k then (kv.1, t) else kv) := by
  unfold NT at r
  induction r with
  | nil => exact .nil
  | @cons p q ps qs f _ ih =>
    refine .cons ?_ ih
    by_cases z : q.1 = k
    · have e1 : (fun e : NestedKey × Addr × V => if e.1 = k then (e.1, e.2.1, v) else e) p = (p.1, p.2.1, v) := if_pos (f.1.trans z)
      have e2 : (fun kv : NestedKey × T => if kv.1 = k then (kv.1, t) else kv) q = (q.1, t) := if_pos z
      rw [e1, e2]
      exact ⟨f.1, f.2.1, f.2.2.1, rv⟩
    · have e1 : (fun e : NestedKey × Addr × V => if e.1 = k then (e.1, e.2.1, v) else e) p = p := if_neg fun y => z (f.1.symm.trans y)
      have e2 : (fun kv : NestedKey × T => if kv.1 = k then (kv.1, t) else kv) q = q := if_neg z
      rw [e1, e2]
      exact f
theorem NT.put {K : PySem.W.Frag} {B : Bk} {es : List (NestedKey × Addr × V)} {kvs : List (NestedKey × T)} (r : NT K B es kvs) {k : NestedKey} {b : Addr} (hk : okKey 8 k = true) (hb : Rp K B.G (.ref b) k.data) {v : V} {t : T} (rv : Rt K { B with l := [] } v t) :
    NT K B (putE es k b v) (putN kvs k t) := by
  unfold putE putN
  rw [(r.look k).1]
  split
  · exact r.repl k rv
  · exact Paired.snoc r ⟨rfl, hk, hb, rv⟩
theorem NT.at {K : PySem.W.Frag} {B : Bk} {M : Mem} {H : Hp} {es : List (NestedKey × Addr × V)} {kvs : List (NestedKey × T)} (w : Wd K B M H) (r : NT K B es kvs) : ∀ e ∈ es, KeyAt K H e.2.1 e.1 := by
  unfold NT at r
  induction r with
  | nil => intro e he; cases he
  | @cons p q ps qs f _ ih =>
    intro e he
    rcases List.mem_cons.mp he with z | he
    · subst z
      rw [← f.1] at f
      exact .of f.2.1 (w.rp f.2.2.1)
    · exact ih e he
section
variable {X : Cx} {o i e f value : Expr} {mo mi mv mz : Me} {pos pos' apos cpos : Pos} {kk : Nat}
end
end L3
set_option Elab.async false
set_option linter.all false
set_option maxRecDepth 100000
set_option maxHeartbeats 2000000
namespace L3
open PySem PySem.Spec L2 PyProof.Rows
end L3
set_option Elab.async false
set_option linter.all false
set_option maxRecDepth 100000
set_option maxHeartbeats 2000000
namespace L3
open PySem PySem.Spec L2 PyProof.Rows
theorem ms_unp2 {X : Cx} {mr : Ma} {pos : Pos} {i j : Nat} {x y : Str} {e1 e2 : Expr} {px py pt : Pos} {kt k2 : Nat} {pt2 : Pos} (hc : X.calm = true) (hN : X.N.Nodup) (hi : X.N[i]? = some x) (hj : X.N[j]? = some y)
    (hx : Loc X.env.scope x) (hy : Loc X.env.scope y)
    (fx : X.fn x = true ∨ X.env.scope.names.lookup x = some .local) (fy : X.fn y = true ∨ X.env.scope.names.lookup y = some .local) (ha : MA X [e1, e2] mr)
    (hs : swapsWithSole [.Tuple [.Name x px, .Name y py] kt pt] (.Tuple [e1, e2] k2 pt2) pos.line X.env = pure false := by rfl)
    (hw : swappedStores [.Tuple [.Name x px, .Name y py] kt pt] (.Tuple [e1, e2] k2 pt2) X.env = pure none := by rfl) :
    MS X (.Assign [.Tuple [.Name x px, .Name y py] kt pt] (.Tuple [e1, e2] k2 pt2) pos) (mPar i j mr) :=
  PS.of (ps_asg (pe_tupC ha) (pg_tup (n := 2) hc (pgs_cons (pg_name hN hi hx fx) (pgs_cons (pg_name hN hj hy fy) pgs_nil)) (by rfl) (by rfl)) hs hw (by rfl)) fun D σ H ⟨E, τ, M, B, h, w, sl, g⟩ => by
  refine ⟨τ, M, B, _, h, w, sl, fun v t M1 B1 H1 h1 w1 e1 r1 => ?_⟩
  split at h1
  · cases r1 with
    | cons r2 r3 =>
      obtain ⟨v3, rfl, r6⟩ := paired_one r3
      refine ⟨(show 2 ≤ sizeLine by decide +kernel), fun p o hp ho => ?_⟩
      refine ⟨p, _, rfl, .inl (.inr ⟨o, upd_same⟩), rfl, _, _, rfl, _, _, rfl, rfl, ?_⟩
      exact g.nx _ M1 B1 _ _ h1 (w1.side hp _) (e1.trans (Ext.side hp _)) (((sl.mono e1).set i r2).set j r6)
  · exact h1.elim
end L3
set_option Elab.async false
set_option linter.all false
set_option maxRecDepth 100000
set_option maxHeartbeats 2000000
namespace L3
open PySem PySem.Spec L2
def T.lo (n : Nat) : T → Bool
  | .mr i => decide (i < n)
  | _ => true
def Cell.lo (n : Nat) : Cell → Bool
  | .lst ts => ts.all (T.lo n)
  | .dct kvs => kvs.all fun p => T.lo n p.2
  | .dnk kvs => kvs.all fun p => T.lo n p.2
  | .held _ => true
  | .ins _ fs => fs.all fun p => T.lo n p.2
  | .tup ts => ts.all (T.lo n)
  | .exc _ _ => true
  | .dnd kvs => kvs.all fun p => T.lo n p.2
def clo (n : Nat) (D : List Cell) : Prop := (D.take n).all (Cell.lo n) = true
theorem Rt.cutL {K : PySem.W.Frag} {B : Bk} {n : Nat} {v : V} {t : T} (h0 : T.lo n t = true) (h : Rt K { B with l := [] } v t) : Rt K { B with r := B.r.take n, l := [] } v t := by
  cases t with
  | d x => exact h
  | mr i =>
    obtain ⟨a, e, q⟩ := h
    have hi : i < n := of_decide_eq_true h0
    refine ⟨a, e, ?_⟩
    show (B.r.take n)[i]? = some a
    rw [List.getElem?_take, if_pos hi]
    exact q
  | lr i => exact h
  | scr ns => exact h
  | wt xs => exact h
  | exo a c d e => exact h
  | q x => exact h
theorem paired_cutL {K : PySem.W.Frag} {B : Bk} {n : Nat} : ∀ {vs : List V} {ts : List T}, ts.all (T.lo n) = true → Paired (Rt K { B with l := [] }) vs ts → Paired (Rt K { B with r := B.r.take n, l := [] }) vs ts
  | _, _, _, .nil => .nil
  | _, _, h, .cons b r => by
    rw [List.all_cons, Bool.and_eq_true] at h
    exact .cons (Rt.cutL h.1 b) (paired_cutL h.2 r)
theorem paired_cutLD {K : PySem.W.Frag} {B : Bk} {n : Nat} : ∀ {vs : List (Key × V)} {ts : List (Key × T)}, (ts.all fun p => T.lo n p.2) = true → Paired (fun (p : Key × V) (q : Key × T) => p.1 = q.1 ∧ Rt K { B with l := [] } p.2 q.2) vs ts → Paired (fun (p : Key × V) (q : Key × T) => p.1 = q.1 ∧ Rt K { B with r := B.r.take n, l := [] } p.2 q.2) vs ts
  | _, _, _, .nil => .nil
  | _, _, h, .cons b r => by
    rw [List.all_cons, Bool.and_eq_true] at h
    exact .cons ⟨b.1, Rt.cutL h.1 b.2⟩ (paired_cutLD h.2 r)
theorem paired_cutLS {K : PySem.W.Frag} {B : Bk} {n : Nat} : ∀ {vs : List (Str × V)} {ts : List (Str × T)}, (ts.all fun p => T.lo n p.2) = true → Paired (fun (p : Str × V) (q : Str × T) => p.1 = q.1 ∧ Rt K { B with l := [] } p.2 q.2) vs ts → Paired (fun (p : Str × V) (q : Str × T) => p.1 = q.1 ∧ Rt K { B with r := B.r.take n, l := [] } p.2 q.2) vs ts
  | _, _, _, .nil => .nil
  | _, _, h, .cons b r => by
    rw [List.all_cons, Bool.and_eq_true] at h
    exact .cons ⟨b.1, Rt.cutL h.1 b.2⟩ (paired_cutLS h.2 r)
theorem paired_cutLN {K : PySem.W.Frag} {B : Bk} {n : Nat} : ∀ {vs : List (NestedKey × Addr × V)} {ts : List (NestedKey × T)}, (ts.all fun p => T.lo n p.2) = true →
    Paired (fun (p : NestedKey × Addr × V) (q : NestedKey × T) => p.1 = q.1 ∧ okKey 8 q.1 = true ∧ Rp K B.G (.ref p.2.1) q.1.data ∧ Rt K { B with l := [] } p.2.2 q.2) vs ts →
    Paired (fun (p : NestedKey × Addr × V) (q : NestedKey × T) => p.1 = q.1 ∧ okKey 8 q.1 = true ∧ Rp K B.G (.ref p.2.1) q.1.data ∧ Rt K { B with r := B.r.take n, l := [] } p.2.2 q.2) vs ts
  | _, _, _, .nil => .nil
  | _, _, h, .cons b r => by
    rw [List.all_cons, Bool.and_eq_true] at h
    exact .cons ⟨b.1, b.2.1, b.2.2.1, Rt.cutL h.1 b.2.2.2⟩ (paired_cutLN h.2 r)
theorem paired_cutLK {K : PySem.W.Frag} {B : Bk} {n : Nat} : ∀ {vs : List (NestedKey × Addr × V)} {ts : List (PyData × T)}, (ts.all fun p => T.lo n p.2) = true →
    Paired (fun (p : NestedKey × Addr × V) (q : PyData × T) => nk q.1 = some p.1 ∧ okKey 8 p.1 = true ∧ Rp K B.G (.ref p.2.1) q.1 ∧ Rt K { B with l := [] } p.2.2 q.2) vs ts →
    Paired (fun (p : NestedKey × Addr × V) (q : PyData × T) => nk q.1 = some p.1 ∧ okKey 8 p.1 = true ∧ Rp K B.G (.ref p.2.1) q.1 ∧ Rt K { B with r := B.r.take n, l := [] } p.2.2 q.2) vs ts
  | _, _, _, .nil => .nil
  | _, _, h, .cons b r => by
    rw [List.all_cons, Bool.and_eq_true] at h
    exact .cons ⟨b.1, b.2.1, b.2.2.1, Rt.cutL h.1 b.2.2.2⟩ (paired_cutLK h.2 r)
theorem Wd.cutL {K : PySem.W.Frag} {B : Bk} {M : Mem} {H : Hp} {n : Nat} (w : Wd K B M H) (hD : clo n M.D) : Wd K { B with r := B.r.take n, l := [] } ⟨M.D.take n, []⟩ H := by
  have nr : B.r.Nodup := (List.nodup_append.mp w.nd).1
  refine ⟨w.le, ?_, rfl, ?_, fun i a c h1 h2 => ?_, fun i a ds h1 _ => ?_, fun a ha => ?_⟩
  · show (B.r.take n).length = (M.D.take n).length
    rw [List.length_take, List.length_take, w.rlen]
  · show (B.r.take n ++ []).Nodup
    rw [List.append_nil]
    exact nr.sublist (List.take_sublist _ _)
  · have h1' : (B.r.take n)[i]? = some a := h1
    have h2' : (M.D.take n)[i]? = some c := h2
    have hc : Cell.lo n c = true := List.all_eq_true.mp hD c (List.mem_of_getElem? h2')
    rw [List.getElem?_take] at h1' h2'
    split at h1'
    · rename_i hi
      rw [if_pos hi] at h2'
      obtain ⟨z1, z2⟩ := w.dc i a c h1' h2'
      refine ⟨z1, ?_⟩
      cases c with
      | lst ts =>
        obtain ⟨xs, e1, e2⟩ := z2
        exact ⟨xs, e1, paired_cutL hc e2⟩
      | dct kvs =>
        obtain ⟨xs, e1, e2⟩ := z2
        exact ⟨xs, e1, paired_cutLD hc e2⟩
      | held u => exact z2
      | ins c fs =>
        obtain ⟨C, dx, vs, hc1, e1, e2⟩ := z2
        exact ⟨C, dx, vs, hc1, e1, paired_cutLS hc e2⟩
      | tup ts =>
        obtain ⟨o, xs, e1, ho, e2⟩ := z2
        exact ⟨o, xs, e1, ho, paired_cutL hc e2⟩
      | exc f2 e2 => exact z2
      | dnd kvs =>
        obtain ⟨xs, e1, e2⟩ := z2
        exact ⟨xs, e1, paired_cutLK hc e2⟩
      | dnk kvs =>
        obtain ⟨xs, e1, e2⟩ := z2
        exact ⟨xs, e1, paired_cutLN hc e2⟩
    · cases h1'
  · have h1' : ([] : List Addr)[i]? = some a := h1
    simp at h1'
  · have ha' : a ∈ B.r.take n ++ [] := ha
    rw [List.append_nil] at ha'
    exact w.tr a (List.mem_append_left _ (List.mem_of_mem_take ha'))
def mDefC (n N : Nat) (body : Ms) : FD := fun ts D Q => ts.length = n ∧ body { nx := fun _ M => clo D.length M.D ∧ Q .non (M.D.take D.length), rt := fun t M => (∃ x, t = .d x) ∧ clo D.length M.D ∧ Q t (M.D.take D.length) } (ts.map some ++ List.replicate (N - n) none) ⟨D, []⟩
theorem okC_def {P : Program} {w : World} {K : PySem.W.Frag} {mg : Str → Option Value} {base : Heap} {x qual : Str} {st : Stmt} {f : Addr} {fd : FuncData} {N ps : List Str} {k : Nat} {m : Ms}
    (F : Fun K x qual st f fd) (S : FnScope N ps (defScope st))
    (body : ∀ (cdv : Value) (A : Around) (outer : List Env) (sh : Shared) (H : Hp) (E : XK), Gd (A.deeper (PyProof.Rows.envOfC qual (defScope st) sh.heap.objs.size f cdv)) → Room k (A.deeper (PyProof.Rows.envOfC qual (defScope st) sh.heap.objs.size f cdv)) →
      MSs (cxOf CX0 P w K mg base N qual (defScope st) f cdv A outer sh H E).nox (defBody st) m) :
    FnG P w K mg base (k + 1) f fd ps (spM K (mDefC ps.length N.length m)) := by
  refine fng_of F S (fun vs H Q E h => ?_) fun cdv A outer sh H vs Q E gd rm h => ?_
  · obtain ⟨ts, D, B, Q1, ⟨h1, _⟩, _, r, _⟩ := h
    exact (paired_len r).trans h1
  · obtain ⟨ts, D, B, Q1, ⟨h1, h2⟩, wd, r, kk⟩ := h
    refine ⟨_, body cdv A outer sh H E gd rm, ?_⟩
    have lB : B.l = [] := List.length_eq_zero_iff.mp wd.llen
    have lr : B.r.length = D.length := wd.rlen
    have s0 := start_sl (N := N) r
    rw [h1] at s0
    refine ⟨_, _, ⟨D, []⟩, B, h2, wd, s0, ⟨fun τ' M' B' σ' H' q w' e' s' => ?_, fun v t M' B' H' q w' e' r' => ?_, fun _ _ _ _ _ q => q.elim, fun _ _ _ _ _ q => q.elim⟩⟩
    · have e2 := e'.cut
      rw [lB, lr] at e2
      exact kk .non .non _ _ H' q.2 (Wd.cutL w' q.1) e2 .non
    · obtain ⟨⟨x, rfl⟩, q1, q2⟩ := q
      have e2 := e'.cut
      rw [lB, lr] at e2
      exact kk v (.d x) _ _ H' q2 (Wd.cutL w' q1) e2 r'
def fDefC (m : FD) : FA := fun ts M Q => ∃ n, n ≤ M.D.length ∧ clo n M.D ∧ (∀ t ∈ ts, noL t = true ∧ T.lo n t = true) ∧ m ts (M.D.take n) fun t D' => D'.length = n ∧ Q t { M with D := D' ++ M.D.drop n }
theorem paired_deckL {K : PySem.W.Frag} {B : Bk} {n : Nat} : ∀ {vs : List V} {ts : List T}, Paired (Rt K B) vs ts → (∀ t ∈ ts, noL t = true ∧ T.lo n t = true) → Paired (Rt K { B with r := B.r.take n, l := [] }) vs ts
  | _, _, .nil, _ => .nil
  | _, _, .cons p q, h => .cons (Rt.cutL (h _ (List.mem_cons_self ..)).2 (p.deck (h _ (List.mem_cons_self ..)).1)) (paired_deckL q fun t z => h t (List.mem_cons_of_mem _ z))
theorem sp_ofC {K : PySem.W.Frag} {m : FD} {vs : List V} {ts : List T} {M : Mem} {B : Bk} {H : Hp} {Q : Kt} {Q' : VK} {E : XK} (h : fDefC m ts M Q) (w : Wd K B M H) (r : Paired (Rt K B) vs ts)
    (k : ∀ v t' M' B' H', Q t' M' → Wd K B' M' H' → Ext B H B' H' → Rt K B' v t' → Q' v H') : spM K m vs H Q' E := by
  obtain ⟨n, hn, hc, hts, h⟩ := h
  refine ⟨ts, M.D.take n, { B with r := B.r.take n, l := [] }, _, h, w.cutL hc, paired_deckL r hts, fun v t D' B1 H1 q w1 e1 r1 => ?_⟩
  obtain ⟨hl, q⟩ := q
  have l1 : B1.l = [] := List.length_eq_zero_iff.mp w1.llen
  have rl1 : B1.r.length = n := by rw [w1.rlen]; exact hl
  have er : B1.r = B.r.take n := by
    have hp : B.r.take n <+: B1.r := e1.r
    exact (hp.eq_of_length (by rw [rl1, List.length_take, w.rlen]; omega)).symm
  have pre : B1.r <+: B.r := by rw [er]; exact List.take_prefix _ _
  have own : ∀ a ∈ B.r ++ B.l, H a ≠ none := fun a z => w.tr a z
  have nG : ∀ a, H a ≠ none → B.G a = none → B1.G a = none := fun a ha hb => by
    cases z : B1.G a with
    | none => rfl
    | some o =>
      rcases e1.gf a o z with y | y | y
      · rw [show B.G a = none from hb] at y; cases y
      · exact absurd y ha
      · cases y
  have e' : Ext B H { B1 with r := B.r, l := B.l } H1 :=
    ⟨e1.g, List.prefix_refl _, List.prefix_refl _, fun a o e n1 n2 => e1.fr a o e (fun y => n1 (List.mem_of_mem_take y)) (by intro y; cases y), e1.tr, fun a z => .inl z, fun a z => .inl z, fun a o e => (e1.gf a o e).elim .inl fun z => z.elim (fun z => .inr (.inl z)) (by intro z; cases z)⟩
  have ndr : B.r.Nodup := (List.nodup_append.mp w.nd).1
  refine k v t { M with D := D' ++ M.D.drop n } { B1 with r := B.r, l := B.l } H1 q ⟨w1.le, ?_, w.llen, w.nd, fun i a c h1 h2 => ?_, fun i a ds h1 h2 => ?_, fun a ha => fun y => own a ha (e1.tr a y)⟩ e' ?_
  · show B.r.length = (D' ++ M.D.drop n).length
    rw [List.length_append, List.length_drop, hl, w.rlen]
    omega
  · have h1' : B.r[i]? = some a := h1
    have h2' : (D' ++ M.D.drop n)[i]? = some c := h2
    rcases Nat.lt_or_ge i n with z | z
    · rw [List.getElem?_append_left (by omega)] at h2'
      have h3 : B1.r[i]? = some a := by
        rw [er, List.getElem?_take, if_pos z]
        exact h1'
      obtain ⟨q1, q2⟩ := w1.dc i a c h3 h2'
      exact ⟨q1, CellAt.mono (B := B1) (fun _ _ e => e) pre rfl q2⟩
    · rw [List.getElem?_append_right (by omega), List.getElem?_drop, hl, show n + (i - n) = i by omega] at h2'
      obtain ⟨q1, q2⟩ := w.dc i a c h1' h2'
      have ha : H a ≠ none := own a (List.mem_append_left _ (mem_of_get h1'))
      have nt : a ∉ B.r.take n := fun y => by
        obtain ⟨j, hj, e⟩ := List.getElem_of_mem y
        rw [List.getElem_take] at e
        have hj2 : j < n := by rw [List.length_take] at hj; omega
        have hj3 : j < B.r.length := by rw [List.length_take] at hj; omega
        obtain ⟨hi, e2⟩ := List.getElem?_eq_some_iff.mp h1'
        have := (List.getElem_inj (h₀ := hj3) (h₁ := hi) ndr).mp (e.trans e2.symm)
        omega
      refine ⟨nG a ha q1, CellAt.mono (B := B) e1.g (List.prefix_refl _) ?_ q2⟩
      cases z : H a with
      | none => exact absurd z ha
      | some o => exact e1.fr a o z nt (by intro y; cases y)
  · obtain ⟨q1, xs, q2, q3⟩ := w.lc i a ds h1 h2
    have ml : a ∈ B.l := mem_of_get h1
    exact ⟨nG a (own a (List.mem_append_right _ ml)) q1, xs, e1.fr a _ q2 (fun y => w.rl (List.mem_of_mem_take y) ml) (by intro y; cases y), RpA.mono e1.g q3⟩
  · cases t with
    | d x => exact r1
    | mr i =>
      obtain ⟨a, e, z⟩ := r1
      refine ⟨a, e, ?_⟩
      obtain ⟨c, hc⟩ := pre
      show B.r[i]? = some a
      rw [← hc]
      rw [List.getElem?_append_left (List.getElem?_eq_some_iff.mp z).1]
      exact z
    | lr i =>
      obtain ⟨a, _, z⟩ := r1
      rw [l1] at z
      simp at z
    | scr ns => exact r1
    | wt xs => exact r1
    | exo a c d e => exact r1
    | q x => exact r1
section
variable {X : Cx} {j k : Nat} {f : Addr} {fd : FuncData} {ps ks : List Str} {m : FD} {st : Stmt} {x : Str} {p pos : Pos} {e : Expr} {es : List Expr} {mr mk : Ma} {kws : List Keyword}
theorem me_callC (F : FnG X.prog X.w X.K X.mg X.base k f fd ps (spM X.K m)) (gd : Gd X.A) (rm : Room k X.A) (hg : Gl X x) (hm : X.mg x = some (.ref f)) (hk : PySem.W.keepIn X.K (.ref f) = true) (hb : Binds X.K fd ps [])
    (ha : MA X (e :: es) mr) (hdb : (x == ("__debug__" : Str)) = false := by decide) (he : starEach (e :: es) X.env = (false, eval e X.env) :: starEach es X.env := by rfl) (hpl : (backTo pos (starEach es X.env)).any (·.1) = false := by rfl) :
    ME X (.Call (.Name x p) (e :: es) [] pos) (mCall (fDefC m) mr) := by
  refine ⟨fun pn sh sg hp Q' iv ⟨τ, M, B, Q, h, w, s, kk⟩ => wpAny_Call_Name_kw (ld_glob iv hg hm ?_ hdb)⟩
  let P := fun (vs : List V) (H1 : Hp) => spM X.K m vs H1 Q' E0
  refine PySem.W.callWith_K (h₀ := X.base) iv.ok.mod.kin hk (thn (ha.run pos pn sh sg hp P iv ⟨τ, M, B, _, h, w, s, fun vs ts M1 B1 H1 h1 w1 e1 r1 => ?_⟩) fun us s1 ⟨vs, H1, i1, r, q⟩ => ⟨i1.kIn, ?_⟩) he hpl
  · exact sp_ofC h1 w1 r1 fun v t M2 B2 H2 h2 w2 e2 r2 => kk v t M2 B2 H2 h2 w2 (e1.trans e2) r2
  · have hl : (us ++ []).length = ps.length := by
      rw [List.append_nil, ← r.length]
      exact F.len _ _ _ _ q
    have hbb := hb s1 us i1.kIn hl
    rw [List.append_nil] at hbb
    exact run_g (args := ⟨us, []⟩) F gd rm hbb i1 r q
theorem me_fnC (h : Kn X.prog X.w X.K X.mg X.base j x st ps m) (gd : Gd X.A) (rm : Room k X.A) (hj : j ≤ k) (hg : Gl X x) (ha : MA X (e :: es) mr) (hdb : (x == ("__debug__" : Str)) = false := by decide)
    (he : starEach (e :: es) X.env = (false, eval e X.env) :: starEach es X.env := by rfl) (hpl : (backTo pos (starEach es X.env)).any (·.1) = false := by rfl) : ME X (.Call (.Name x p) (e :: es) [] pos) (mCall (fDefC m) mr) :=
  let ⟨_, _, F, hm, U, hb⟩ := h
  me_callC F gd (rm.mono hj) hg hm U.kp hb ha hdb he hpl
end
end L3
set_option Elab.async false
set_option linter.all false
set_option maxRecDepth 100000
namespace Wm
open PySem PySem.Spec L2 L3 Sh
theorem two_ok : 2 ≤ sizeLine := sz64' (show 2 ≤ 100000 by decide)
theorem sz3 : 3 ≤ sizeLine := sz64' (show 3 ≤ 100000 by decide)
theorem sz1 : 1 ≤ sizeLine := sz64' (show 1 ≤ 100000 by decide)
theorem sz4' : 4 ≤ sizeLine := sz64' (show 4 ≤ 100000 by decide)
theorem w_test {m : Me} {τ : En} {M : Mem} {R : Bool → Mem → Prop} (h : m τ M fun x M1 => ∃ k, x = .d (.bool k) ∧ R k M1) : mTest m τ M R := h
theorem w_bor {c d : Mb} {τ : En} {M : Mem} {R : Bool → Mem → Prop} (h : c τ M fun k M1 => if k = true then R true M1 else d τ M1 R) : bOr c d τ M R := h
theorem w_bnot {c : Mb} {τ : En} {M : Mem} {R : Bool → Mem → Prop} (h : c τ M fun k M1 => R (!k) M1) : bNot c τ M R := h
theorem w_par {i j : Nat} {r : Ma} {E : Es} {τ : En} {M : Mem} (h : r τ M fun ts M1 => match ts with
  | [t, u] => E.nx ((τ.set i (some t)).set j (some u)) M1
  | _ => False) : mPar i j r E τ M := h
theorem w_and {a b : Me} {τ : En} {M : Mem} {Q : Kt} (h : a τ M fun t M1 => match t with
  | .d (.bool true) => b τ M1 Q
  | .d (.bool false) => Q (.bl false) M1
  | _ => False) : mAnd a b τ M Q := h
theorem w_asg {m : Me} {g : Mg} {E : Es} {τ : En} {M : Mem} (h : m τ M fun t M1 => g t τ M1 E.nx) : mAsg m g E τ M := h
theorem w_lc {i : Mi} {g : Mg} {c : Mb} {m : Me} {vs : List Nat} {τ : En} {M : Mem} {Q : Kt} (h : i τ M fun ts M1 => goLc g c m (wipeT τ vs) (fun acc M2 => Q (.lst acc) M2) ts [] M1) : mLc i g c m vs τ M Q := h
theorem w_yes {τ : En} {M : Mem} {R : Bool → Mem → Prop} (h : R true M) : bYes τ M R := h
theorem w_eqS {a : Str} {M : Mem} {Q : Kt} (q : Q (.bl true) M) : oEq false (.d (.str a)) (.d (.str a)) M Q := by
  rw [x_eqs]
  simpa using q
end Wm
set_option Elab.async false
set_option linter.all false
set_option maxRecDepth 100000
set_option maxHeartbeats 2000000
namespace L3
open PySem PySem.Spec L2
theorem keepD {B2 B4 : Bk} {H2 H4 : Hp} {D : Addr} {vs : List V} (d2 : H2 D = some (.lst vs)) (g2 : B2.G D = none) (n2 : D ∉ B2.r) (l2 : D ∉ B2.l) (e4 : Ext B2 H2 B4 H4) : H4 D = some (.lst vs) ∧ B4.G D = none ∧ D ∉ B4.r ∧ D ∉ B4.l := by
  refine ⟨e4.fr D _ d2 n2 l2, ?_, fun z => ?_, fun z => ?_⟩
  · cases q : B4.G D with
    | none => rfl
    | some o =>
      rcases e4.gf D o q with z | z | z
      · rw [g2] at z; cases z
      · rw [d2] at z; cases z
      · exact absurd z l2
  · rcases e4.rn D z with q | q
    · exact n2 q
    · rw [d2] at q; cases q
  · rcases e4.ln D z with q | q
    · exact l2 q
    · rw [d2] at q; cases q
structure BkLe (B B' : Bk) : Prop where
  g : ∀ a o, B.G a = some o → B'.G a = some o
  r : B.r <+: B'.r
  l : B.l <+: B'.l
theorem BkLe.of {B B' : Bk} {H H' : Hp} (x : Ext B H B' H') : BkLe B B' := ⟨x.g, x.r, x.l⟩
theorem BkLe.refl (B : Bk) : BkLe B B := ⟨fun _ _ e => e, List.prefix_refl _, List.prefix_refl _⟩
theorem BkLe.trans {B B1 B2 : Bk} (x : BkLe B B1) (y : BkLe B1 B2) : BkLe B B2 := ⟨fun a o e => y.g a o (x.g a o e), x.r.trans y.r, x.l.trans y.l⟩
theorem Sl.le {K : PySem.W.Frag} {B B' : Bk} (x : BkLe B B') {σ : L2.St} {τ : En} (s : Sl K B σ τ) : Sl K B' σ τ :=
  ⟨s.len, fun i t e => let ⟨v, h, q⟩ := s.at_ i t e; ⟨v, h, Rt.mono' x.g x.r x.l q⟩⟩
section
variable {X : Cx} {elt tg tg1 e e1 : Expr} {ifs ifs1 : List Expr} {scope : Scope} {own : List (Str × Nat)} {i i1 : Mi} {g g1 : Mg} {os os1 : List Nat} {mc mc1 : Mb} {m : Me} {vs1 : List Nat} {pos : Pos}
variable {n : Nat} {y : Str} {py spos : Pos}
end
end L3
set_option Elab.async false
set_option linter.all false
set_option maxRecDepth 100000
set_option maxHeartbeats 2000000
namespace L3
open PySem PySem.Spec L2 PySem.W PyProof.Rows
end L3
set_option Elab.async false
set_option linter.all false
set_option maxRecDepth 100000
set_option maxHeartbeats 2000000
namespace Itp
open PySem PySem.Spec
open Sem (wp)
open AutoSeq1 (wpAny_loadPart')
theorem sub_self : isSubtype (.type "itertools.permutations") (.type "itertools.permutations") = pure true := by rw [isSubtype_type]; kernel_rfl
def cyc (n : Nat) : List Nat := (List.range n).map fun i => n - i
end Itp
set_option Elab.async false
set_option linter.all false
set_option maxRecDepth 100000
set_option maxHeartbeats 2000000
namespace Itp
open PySem PySem.Spec
open Sem (wp)
open AutoSeq1 (wpAny_loadPart')
end Itp
set_option Elab.async false
set_option linter.all false
set_option maxRecDepth 100000
set_option maxHeartbeats 2000000
namespace Itp
open PySem PySem.Spec
open Sem (wp)
open AutoSeq1 (wpAny_loadPart')
section
variable {prog : Program} {w : World} {A : Around} {E : Value → Shared → Prop} {s : Shared}
/-- the next order of the places -/
def perNext (n : Nat) : Nat → List Nat → List Nat → Option (List Nat × List Nat)
  | 0, _, _ => none
  | i + 1, ix, cy =>
    if (cy.getD i 0 - 1 == 0) = true then perNext n i (ix.take i ++ ix.drop (i + 1) ++ [ix.getD i 0]) (cy.set i (n - i))
    else some ((ix.set i (ix.getD (n - (cy.getD i 0 - 1)) 0)).set (n - (cy.getD i 0 - 1)) (ix.getD i 0), cy.set i (cy.getD i 0 - 1))
end
end Itp
set_option Elab.async false
set_option linter.all false
set_option maxRecDepth 100000
set_option maxHeartbeats 2000000
namespace Itp
open PySem PySem.Spec
open Sem (wp)
def prun (n : Nat) : Nat → List Nat × List Nat → List (List Nat × List Nat)
  | 0, _ => []
  | f + 1, st => st :: match perNext n n st.1 st.2 with
    | some st2 => prun n f st2
    | none => []
def psts (n : Nat) : List (List Nat × List Nat) := prun n 721 (List.range n, cyc n)
end Itp
set_option Elab.async false
set_option linter.all false
set_option maxRecDepth 100000
set_option maxHeartbeats 2000000
namespace L3
open PySem PySem.Spec L2
/-- the items by the places of turn i -/
def pick (n : Nat) (xs : List V) (i : Nat) : List V := ((Itp.psts n).getD i ([], [])).1.map fun j => xs.getD j .non
/-- all orders of the items -/
def permT (xs : List PyData) : List T := (Itp.psts xs.length).map fun s => T.d (.tuple (s.1.map fun j => xs.getD j .none))
section
open PyProof.Rows HT
variable {X : Cx} {pn : List (Addr × Obj)} {sg : L2.St} {hp : Hp} {sh : Shared} {tg : Expr}
end
end L3
set_option Elab.async false
set_option linter.all false
set_option maxRecDepth 100000
set_option maxHeartbeats 2000000
namespace L3
open PySem PySem.Spec L2
def iPerm (r : Ma) : Mi := fun τ M Q => r τ M fun ts M1 => match ts with
  | [t] => (match seqOf t with
    | some xs => xs.length ≤ 6 ∧ Q (permT xs) M1
    | none => False)
  | _ => False
def iPermR (m : Me) : Mi := fun τ M Q => m τ M fun t M1 => match t with
  | .d (.int n) => (0 ≤ n ∧ n ≤ 6) ∧ Q (permT (rgD n)) M1
  | _ => False
section
open PyProof.Rows HT
variable {X : Cx} {tg e a : Expr} {mr : Ma} {ma : Me} {p p2 pos pos2 : Pos}
end
@[simp] theorem x_iperm {a : Ma} {τ : En} {M : Mem} {R : List T → Mem → Prop} : iPerm a τ M R = a τ M fun ts M1 => match ts with
  | [t] => (match seqOf t with
    | some xs => xs.length ≤ 6 ∧ R (permT xs) M1
    | none => False)
  | _ => False := rfl
@[simp] theorem x_ipermR {m : Me} {τ : En} {M : Mem} {R : List T → Mem → Prop} : iPermR m τ M R = m τ M fun t M1 => match t with
  | .d (.int n) => (0 ≤ n ∧ n ≤ 6) ∧ R (permT (rgD n)) M1
  | _ => False := rfl
end L3
set_option Elab.async false
set_option linter.all false
set_option maxRecDepth 100000
set_option maxHeartbeats 2000000
namespace L3
open PySem PySem.Spec L2
section
open PyProof.Rows HT
variable {X : Cx} {e : Expr} {mr : Ma} {p pos kpos cpos : Pos} {j : Nat}
end
end L3
set_option Elab.async false
set_option linter.all false
set_option maxRecDepth 100000
namespace L3
open PySem PySem.Spec L2
section
variable {X : Cx} {a b : Expr} {ma mb : Me} {pos : Pos}
end
end L3
set_option Elab.async false
set_option linter.all false
set_option maxRecDepth 100000
set_option maxHeartbeats 1000000
namespace SrtV
open PySem PySem.Spec PyProof.Rows TS
def Ok (b : Int) (l : List Int) : Prop := Bd (2 * b + 1) (l.map fun x => x + b)
section
variable {P : Program} {w : World} {A : Around} {E : Value → Shared → Prop} {s : Shared} {Q : Bool → Shared → Prop}
end
section
variable {P : Program} {w : World} {A : Around} {E : Value → Shared → Prop} {s : Shared}
end
section
open PyProof.Rows
variable {P : Program} {w : World} {A : Around} {E : Value → Shared → Prop} {s : Shared}
end
end SrtV
namespace L3
open PySem PySem.Spec L2 PyProof.Rows
end L3
set_option Elab.async false
set_option linter.all false
set_option maxRecDepth 100000
namespace L3
open PySem PySem.Spec L2
section
variable {X : Cx}
end
end L3
set_option Elab.async false
set_option linter.all false
set_option maxRecDepth 100000
set_option maxHeartbeats 2000000
namespace SrtS
open PySem PyProof.Rows Srt SrtO
section
variable {prog : Program} {w : World} {A : Around} {E : Value → Shared → Prop} {s : Shared}
end
end SrtS
namespace L3
open PySem PySem.Spec L2 PyProof.Rows
end L3
set_option Elab.async false
set_option linter.all false
set_option maxRecDepth 100000
set_option maxHeartbeats 2000000
namespace L2
open PySem PySem.Spec PyProof.Rows PySem.Calls
end L2
namespace L3
open PySem PySem.Spec L2
section
variable {X : Cx} {e : Expr} {m : Me} {x f : Str} {p pos pos2 : Pos} {k : Nat}
end
end L3
namespace L3
open PySem PySem.Spec L2 PyProof.Rows PySem.Calls
end L3
set_option Elab.async false
set_option linter.all false
set_option maxRecDepth 100000
set_option maxHeartbeats 2000000
namespace L3
open PySem PySem.Spec L2
end L3
set_option Elab.async false
set_option linter.all false
set_option maxRecDepth 100000
set_option maxHeartbeats 2000000
namespace L3
open PySem PySem.Spec L2
open PyProof.Rows (AllBare)
/-- an exception that has come to the frame of its try, the heap as it is now -/
structure Ld (X : Cx) (pins : List (Addr × Obj)) (a : Addr) (cls : Value) (d : Option Addr) (B : Heap) (s0 : Shared) (σ : St) (H : Hp) (s : Shared) : Prop where
  ok : X.Ok
  inv : Inv X pins σ H s0
  nb : ∀ b o, s0.heap.get? b = some o → b ∉ frs X.stack → B.get? b = some o
  up : s0.heap.UpToSlots s.heap
  fl : HandSPX.FlyingZ B (X.env :: X.outer) a (Zc cls d) s.heap
  na : H a = none
  os : s.os = s0.os
  bare : AllBare s.gens
section
variable {X : Cx} {pins : List (Addr × Obj)} {a : Addr} {cls : Value} {d : Option Addr} {B : Heap} {s0 s : Shared} {σ : St} {H : Hp}
theorem Ld.now (l : Ld X pins a cls d B s0 σ H s) : Inv X pins σ H s := l.inv.landed l.nb l.fl.1 l.up l.os l.bare
theorem Ld.on {h' : Heap} (l : Ld X pins a cls d B s0 σ H s) (f : HandSPX.FlyingZ B (X.env :: X.outer) a (Zc cls d) h') (u : s.heap.UpToSlots h') : Ld X pins a cls d B s0 σ H { s with heap := h' } :=
  ⟨l.ok, l.inv, l.nb, l.up.trans u, f, l.na, l.os, l.bare⟩
theorem Ld.in_ (l : Ld X pins a cls d B s0 σ H s) (hf : X.env.frame = some X.env.locals) : ∃ oe : Obj, s.heap.get? a = some oe ∧ Zc cls d oe ∧ (∃ vs, oe.data = .fields vs) ∧ Inv (X.suite a ((a, oe) :: (X.pn ++ pins))) [] σ H s := by
  obtain ⟨oe, vs, h1, h2, h3⟩ := l.fl.there
  have out : a ∉ frs (X.env :: X.outer) := fun z => by
    obtain ⟨_, o2, g1, g2⟩ := l.fl.2.2.1.mem z
    rw [h1] at g1
    injection g1 with g1
    exact g2 vs (g1 ▸ h3)
  refine ⟨oe, h1, h2, ⟨vs, h3⟩, l.now.suite h1 h3 l.na (fun z => out ?_) fun z => out ?_⟩
  · rw [z]
    exact List.mem_filterMap.mpr ⟨_, .head _, hf⟩
  · obtain ⟨e, i, j⟩ := List.mem_filterMap.mp z
    exact List.mem_filterMap.mpr ⟨e, .tail _ i, j⟩
/-- clauses with names, and what they wish together -/
inductive HsN (X : Cx) : List ExceptHandler → (Ends → WX) → Prop
  | nil : HsN X [] fun _ _ _ _ _ => False
  | cons {x n : Str} {c : Value} {i : Nat} {ts : Addr → Value → Option Addr → TS} {b : Stmt} {su : List Stmt} {p1 p2 : Pos} {hds : List ExceptHandler} {u : Ends → WX}
      (hi : X.N[i]? = some n) (hl : X.env.kindOf n = some .local) (hc : Names X x c)
      (hs : ∀ (a : Addr) (oe : Obj) (cls : Value) (d : Option Addr) (pn : List (Addr × Obj)), Zc cls d oe → (∃ vs, oe.data = .fields vs) → PSs (X.suite a ((a, oe) :: pn)) (b :: su) (ts a cls d))
      (r : HsN X hds u) : HsN X (.ExceptHandler (some (.Name x p1)) (some n) (b :: su) p2 :: hds) fun D => wAs X.K c i ts (u D) D
theorem HsN.run {D : Ends} (hf : X.env.frame = some X.env.locals) (hN : X.N.Nodup) {hds : List ExceptHandler} {u : Ends → WX} (k : HsN X hds u) (l : Ld X pins a cls d B s0 σ H s) :
    u D cls d σ H → wpAny (model X.prog X.w) X.A (handleBy (.ref a) X.env hds) (SP X pins D) X.xe s := by
  induction k with
  | nil => exact fun z => z.elim
  | @cons x n c i ts b su p1 p2 hds u hi hl hc hs r ih =>
    rintro ⟨t, ht, yes, no⟩
    obtain ⟨oe, h1, h2, _, S⟩ := l.in_ hf
    refine wpAny_handleBy_cons (codeAny_handlers_test ?_) (fun z => nomatch z)
    have ty : PySem.W.Looks (model X.prog X.w) s.heap (typeOf (.ref a)) cls := fun _ _ _ _ g q => wpAny_typeOf_ref (g a oe h1) (h2.1.symm ▸ q)
    have mt := PySem.W.exm_one (M := model X.prog X.w) l.now.kIn ty ht
    have nm : ∀ {Q F : Value → Shared → Prop}, Q c s → wpAny (model X.prog X.w) (X.A.mark (some (.ref a))) (eval (.Name x p1) X.env) Q F s := fun {Q F} q => by
      rcases hc with ⟨g, nd, g1 | ⟨g1, g2, g3⟩⟩
      · exact ld_glob (X := X.suite a ((a, oe) :: (X.pn ++ pins))) S g g1 q nd
      · exact ld_blt (X := X.suite a ((a, oe) :: (X.pn ++ pins))) S g g1 g2 q g3 nd
    refine nm (mt.here ?_)
    cases t with
    | false => exact ih (no rfl)
    | true =>
      refine codeAny_handlers_suite_as (HandSPX.lands_againZ l.fl fun h' f' u' => ?_)
      have l2 := l.on f' u'
      obtain ⟨oe2, _, z2, dt2, S2⟩ := l2.in_ hf
      refine store_ok (X := X.suite a ((a, oe2) :: (X.pn ++ pins))) (v := .ref a) S2 hN hi (.inl hl) rfl (fun s5 S5 => ?_) (.inr hl)
      have go := (hs a oe2 cls d (X.pn ++ pins) z2 dt2).run [] s5 _ H _ S5 (yes rfl a l.na)
      refine wpAny_mono go (fun f s6 hsp => ?_) fun _ _ z => z.elim
      have leave : ∀ {τ : St} {G : Hp} {Q : Shared → Prop}, Inv (X.suite a ((a, oe2) :: (X.pn ++ pins))) [] τ G s6 → (∀ s7, Inv X pins (τ.set i none) G s7 → Q s7) →
          wpAny (model X.prog X.w) X.A (do bindName X.env n .none; unbindBehindTheSuite X.env n p2) (fun _ s7 => Q s7) X.xe s6 := fun {τ G Q} iv q => gone_ok (iv.unsuite l.ok) hN hi hl q
      cases f with
      | ret v =>
        obtain ⟨w, τ, G, iv, rv, q⟩ := hsp
        exact leave iv fun s7 j => ⟨w, _, G, j, rv, q⟩
      | next =>
        obtain ⟨τ, G, iv, q⟩ := hsp
        exact leave iv fun s7 j => ⟨_, G, j, q⟩
      | brk =>
        obtain ⟨τ, G, iv, q⟩ := hsp
        exact leave iv fun s7 j => ⟨_, G, j, q⟩
      | cont =>
        obtain ⟨τ, G, iv, q⟩ := hsp
        exact leave iv fun s7 j => ⟨_, G, j, q⟩
end
section
variable {X : Cx} {x1 x2 n1 n2 : Str} {c1 c2 : List Str} {i1 i2 : Nat} {body u1 u2 : List Stmt} {b1 b2 : Stmt} {p1 p2 q1 q2 pos : Pos} {mb : MsX} {m1 m2 : Addr → Value → Option Addr → Exn → Ms}
end
end L3
namespace L3
open PySem PySem.Spec L2
def CVast (i j : Int) : Prop := i.natAbs < 2 ^ 2000 ∧ j.natAbs < 2 ^ 2000
def oMulV : F2 := oI CVast fun i j => .int (i * j)
theorem opr_mulV {X : Cx} : OpR X (binaryOp .Mult) (L2.rI CVast fun i j => .int (i * j)) := by
  intro pn sh sg hp x y v u Q iv rx ry ⟨i, j, e1, e2, c, q⟩
  exact op_mulW pn sh sg hp x y v u Q iv rx ry ⟨i, j, e1, e2, wide_mul c.1 c.2 (by omega) (by omega) (by omega), q⟩
theorem me_mulV {X : Cx} {a b : Expr} {ma mb : Me} {pos : Pos} (ha : ME X a ma) (hb : ME X b mb) : ME X (.BinOp a .Mult b pos) (mOp oMulV ma mb) := me_op opr_mulV (opl_I fun _ _ _ => .int _) ha hb
theorem w_mulV {a b : Int} {M : Mem} {Q : Kt} (z : CVast a b) (h : Q (.int (a * b)) M) : oMulV (.d (.int a)) (.d (.int b)) M Q := ⟨z, h⟩
end L3
set_option Elab.async false
set_option linter.all false
set_option maxRecDepth 100000
set_option maxHeartbeats 2000000
namespace L3
open PySem PySem.Spec L2
abbrev Ents := List (NestedKey × Addr × V)
section
variable {X : Cx}
end
section
variable {P : Program} {w : World} {K : PySem.W.Frag} {tg : Expr} {d : Addr} {o : Obj} {es : Ents} {ds : Array DictEntry} {ep : Nat}
end
end L3
set_option Elab.async false
set_option linter.all false
set_option maxRecDepth 100000
set_option maxHeartbeats 2000000
namespace Itc
open PySem PySem.Spec
open Sem (wp)
open AutoSeq1 (wpAny_loadPart')
theorem sub_self : isSubtype (.type "itertools.combinations") (.type "itertools.combinations") = pure true := by rw [isSubtype_type]; kernel_rfl
end Itc
set_option Elab.async false
set_option linter.all false
set_option maxRecDepth 100000
set_option maxHeartbeats 2000000
namespace Itc
open PySem PySem.Spec
open Sem (wp)
open AutoSeq1 (wpAny_loadPart')
end Itc
set_option Elab.async false
set_option linter.all false
set_option maxRecDepth 100000
set_option maxHeartbeats 2000000
namespace Itc
open PySem PySem.Spec
open Sem (wp)
open AutoSeq1 (wpAny_loadPart')
section
variable {prog : Program} {w : World} {A : Around} {E : Value → Shared → Prop} {s : Shared}
end
end Itc
set_option Elab.async false
set_option linter.all false
set_option maxRecDepth 100000
set_option maxHeartbeats 2000000
namespace Itc
open PySem PySem.Spec
open Sem (wp)
open AutoSeq1 (wpAny_loadPart')
section
variable {prog : Program} {w : World} {A : Around} {E : Value → Shared → Prop} {s : Shared}
end
end Itc
set_option Elab.async false
set_option linter.all false
set_option maxRecDepth 100000
set_option maxHeartbeats 2000000
namespace L3
open PySem PySem.Spec L2
section
open PyProof.Rows HT
variable {X : Cx} {pn : List (Addr × Obj)} {sg : L2.St} {hp : Hp} {sh : Shared} {tg : Expr}
end
end L3
set_option Elab.async false
set_option linter.all false
set_option maxRecDepth 100000
set_option maxHeartbeats 2000000
namespace L3
open PySem PySem.Spec L2
section
open PyProof.Rows HT
variable {X : Cx} {tg e e2 : Expr} {mr : Ma} {p pos : Pos}
end
end L3
set_option Elab.async false
set_option linter.all false
set_option maxRecDepth 100000
set_option maxHeartbeats 2000000
namespace L3
open PySem PySem.Spec L2 PySem.W PyProof.Rows
section
variable {X : Cx} {e : Expr} {mr : Ma} {p pos kpos cpos : Pos} {j k : Nat}
end
end L3
set_option Elab.async false
set_option linter.all false
set_option maxRecDepth 100000
set_option maxHeartbeats 2000000
namespace L3
open PySem PySem.Spec L2
section
open PyProof.Rows HT
variable {X : Cx} {e : Expr} {te : L2.St → Hp → (Int → Int → Hp → Prop) → Prop}
end
end L3
set_option Elab.async false
set_option linter.all false
set_option maxRecDepth 100000
set_option maxHeartbeats 2000000
namespace L3
open PySem PySem.Spec L2
section
open PyProof.Rows
variable {prog : Program} {w : World} {A : Around} {E : Value → Shared → Prop} {s : Shared} {l : Addr}
end
section
variable {X : Cx} {e : Expr} {es : List Expr} {mr : Ma} {p pos : Pos}
end
end L3
set_option Elab.async false
set_option linter.all false
set_option maxRecDepth 100000
set_option maxHeartbeats 2000000
namespace L3
open PySem PySem.Spec L2 PyProof.Rows
section
variable {X : Cx} {pins : List (Addr × Obj)} {σ : L2.St} {H : Hp} {s : Shared} {a : Addr} {oe : Obj} {vs : Array Value} {cls : Value} {d : Option Addr}
theorem exh_ok {P : Program} {w : World} {h : Heap} (e : h.get? a = some oe) (z : Zc cls d oe) (hd : oe.data = .fields vs) : ObjOk P w H h a (exh a cls d) :=
  ⟨⟨oe, vs, e, z, hd⟩, ⟨oe, e⟩, fun _ _ ⟨o, v, q, r⟩ k => ⟨o, v, k o q, r⟩⟩
end
section
variable {X : Cx} {x n : Str} {c : Value} {i : Nat} {body : List Stmt} {np np2 rp pos pos' : Pos} {tb : WX → TS} {Wout : WX}
end
end L3
set_option Elab.async false
set_option linter.all false
set_option maxRecDepth 100000
set_option maxHeartbeats 2000000
namespace L3
open PySem PySem.Spec L2
def goLcR (n : Nat) (ds : List T) (g : Mg) (c : Mb) (m : Me) (τ0 : En) (Q : List PyData → Mem → Prop) : List T → List PyData → Mem → Prop
  | [], acc, M => Q acc M
  | t :: ts, acc, M => g t τ0 M fun τ1 M1 => c τ1 M1 fun k M2 => if k = true then m τ1 M2 fun y M3 => (match y with
      | .d z => acc.length < sizeLine ∧ M3.D[n]? = some (.lst ds) ∧ goLcR n ds g c m τ0 Q ts (acc ++ [z]) M3
      | _ => False) else M2.D[n]? = some (.lst ds) ∧ goLcR n ds g c m τ0 Q ts acc M2
def mLcR (o : Me) (g : Mg) (c : Mb) (m : Me) (vs : List Nat) : Me := fun τ M Q => o τ M fun t M1 => ∃ n ds, t = .mr n ∧ M1.D[n]? = some (.lst ds) ∧ goLcR n ds g c m (wipeT τ vs) (fun acc M2 => Q (.lst acc) M2) ds [] M1
def rIr (K : PySem.W.Frag) (m : Me) : TI := fun σ H R => ∃ τ M B Q, m τ M Q ∧ Wd K B M H ∧ Sl K B σ τ ∧ ∀ t M' B' H', Q t M' → Wd K B' M' H' → Ext B H B' H' → ∃ n ds, t = .mr n ∧ M'.D[n]? = some (.lst ds) ∧ ∀ a, B'.r[n]? = some a → R (Itl K a) H'
theorem mi_deckR {X : Cx} {e tg : Expr} {m : Me} (he : ME X e m) : PI X tg e (rIr X.K m) := by
  refine ⟨fun pn sh sg hp R iv ⟨τ, M, B, Q, h, w, s, k⟩ => ?_⟩
  let P := fun (x : V) (H1 : Hp) => ∃ t M1 B1, Q t M1 ∧ Wd X.K B1 M1 H1 ∧ Ext B hp B1 H1 ∧ Rt X.K B1 x t
  refine thn (he.run pn sh sg hp P iv ⟨τ, M, B, _, h, w, s, fun v t M1 B1 H1 h1 w1 e1 r1 => ⟨t, M1, B1, h1, w1, e1, r1⟩⟩) fun v s1 ⟨x, H1, i1, rx, t, M1, B1, h1, w1, e1, r1⟩ => ?_
  obtain ⟨n, ds, rfl, hL, k2⟩ := k t M1 B1 H1 h1 w1 e1
  obtain ⟨a', rfl, ha'⟩ := r1
  cases rx
  obtain ⟨_, xs, e, _⟩ := w1.dc _ _ _ ha' hL
  exact pie_l i1 (.of e) (k2 a' ha')
theorem paired_rt {F : V → T → Prop} {xs : List V} {ts : List T} (h : Paired F xs ts) {i : Nat} (hi : i < ts.length) : ∃ u, xs[i]? = some u ∧ F u ts[i] := by
  induction h generalizing i with
  | nil => cases hi
  | cons f _ ih =>
    cases i with
    | zero => exact ⟨_, rfl, f⟩
    | succ i => exact ih (by simpa using hi)
theorem lc_genR {K : PySem.W.Frag} {o m : Me} {g : Mg} {os : List Nat} {mc : Mb} {vs0 : List Nat} {σ : L2.St} {H : Hp} {Q' : VK} (sub : ∀ j ∈ os, j ∈ vs0) (h : rE K (mLcR o g mc m vs0) σ H Q') :
    tLc (rIr K o) (rG K os g) (rB K mc) (rE K m) vs0 σ H Q' := by
  obtain ⟨τ, M, B, Q, h, w, sl, k⟩ := h
  refine ⟨τ, M, B, _, h, w, sl, fun t M1 B1 H1 h1 w1 e1 => ?_⟩
  obtain ⟨n, ds, rfl, hL, h1⟩ := h1
  refine ⟨n, ds, rfl, hL, fun a ha D hD => ?_⟩
  obtain ⟨dG, dr, dl⟩ := w1.fresh hD
  have sw := (sl.mono e1).wipe vs0
  refine lc_it (walk_own ds.length) (fun i H2 => ∃ acc vs M2 B2, M2.D[n]? = some (.lst ds) ∧ goLcR n ds g mc m (wipeT τ vs0) (fun acc M2 => Q (.lst acc) M2) (ds.drop i) acc M2 ∧ Wd K B2 M2 H2 ∧ Ext B1 H1 B2 H2 ∧ H2 D = some (.lst vs) ∧ RpA K B2.G vs acc ∧ B2.G D = none ∧ D ∉ B2.r ∧ D ∉ B2.l) ?_ ?_ ?_ ?_
  · exact ⟨[], [], M1, B1, hL, h1, w1.side hD _, .side hD _, upd_same, .nil, dG, dr, dl⟩
  · rintro i H2 _ ⟨acc, vs, M2, B2, hL2, _, w2, e2, _⟩
    obtain ⟨_, us, eu, qu⟩ := w2.dc n a _ (get_prefix e2.r ha) hL2
    exact ⟨us, eu, Paired.length qu⟩
  · rintro i x H2 H3 hlt ⟨acc, vs, M2, B2, hL2, h2, w2, e2, d2, r2, g2, n2, l2⟩ y
    obtain ⟨hh, y⟩ := y
    rw [hh]
    obtain ⟨_, us, eu, qu⟩ := w2.dc n a _ (get_prefix e2.r ha) hL2
    obtain ⟨u, y1, y2⟩ := paired_rt qu hlt
    have y3 := y us (.of eu)
    rw [y1] at y3
    cases y3
    have e3 : Ext B2 H2 B2 H2 := .refl _ _
    rw [drop_at hlt, goLcR] at h2
    have keepD : ∀ {B4 : Bk} {H4 : Hp}, Ext B2 H2 B4 H4 → H4 D = some (.lst vs) ∧ B4.G D = none ∧ D ∉ B4.r ∧ D ∉ B4.l := fun {B4 H4} e4 => by
      refine ⟨e4.fr D _ d2 n2 l2, ?_, fun z => ?_, fun z => ?_⟩
      · cases q : B4.G D with
        | none => rfl
        | some o =>
          rcases e4.gf D o q with z | z | z
          · rw [g2] at z; cases z
          · rw [d2] at z; cases z
          · exact absurd z l2
      · rcases e4.rn D z with q | q
        · exact n2 q
        · rw [d2] at q; cases q
      · rcases e4.ln D z with q | q
        · exact l2 q
        · rw [d2] at q; cases q
    refine ⟨ds[i], wipeT τ vs0, M2, B2, _, h2, w2, sw.mono e2, Rt.mono' (B := { B2 with l := [] }) (B' := B2) (fun _ _ e => e) (List.prefix_refl _) (List.nil_prefix) y2, fun τ4 M4 B4 σ4 H4 h4 w4 e4 s4 a4 => ⟨a4.wipe sub, ?_⟩⟩
    refine ⟨τ4, M4, B4, _, h4, w4, s4, fun k5 M5 B5 H5 h5 w5 e5 => ?_⟩
    have e25 := e3.trans (e4.trans e5)
    cases k5 with
    | false =>
      obtain ⟨q1, q2, q3, q4⟩ := keepD e25
      exact ⟨acc, vs, M5, B5, h5.1, h5.2, w5, e2.trans e25, q1, RpA.mono e25.g r2, q2, q3, q4⟩
    | true =>
      refine ⟨τ4, M5, B5, _, h5, w5, s4.mono e5, fun v t M6 B6 H6 h6 w6 e6 r6 => ?_⟩
      split at h6
      · have e26 := e25.trans e6
        obtain ⟨q1, q2, q3, q4⟩ := keepD e26
        refine ⟨vs, q1, by rw [RpA.length r2]; exact h6.1, acc ++ [_], vs ++ [v], M6, B6, h6.2.1, h6.2.2, ?_, ?_, upd_same, RpA.append (RpA.mono e26.g r2) (.cons r6 .nil), q2, q3, q4⟩
        · -- the world does not know D
          refine ⟨fun a u z => ?_, w6.rlen, w6.llen, w6.nd, fun j a c z1 z2 => ?_, fun j a ds z1 z2 => ?_, fun a ha => ?_⟩
          · rw [upd_ne (ne_of_none z q2)]
            exact w6.le a u z
          · obtain ⟨p1, p2⟩ := w6.dc j a c z1 z2
            exact ⟨p1, CellAt.mono (fun _ _ e => e) (List.prefix_refl _) (upd_ne fun z => q3 (by rw [← z]; exact mem_of_get z1)) p2⟩
          · obtain ⟨p1, xs, p2, p3⟩ := w6.lc j a ds z1 z2
            exact ⟨p1, xs, (upd_ne fun z => q4 (by rw [← z]; exact mem_of_get z1)).trans p2, p3⟩
          · rw [upd_ne fun z => ?_]
            · exact w6.tr a ha
            · rw [z] at ha
              exact (List.mem_append.mp ha).elim q3 q4
        · have x6 := e2.trans e26
          refine ⟨x6.g, x6.r, x6.l, fun a u z n1 n2 => ?_, fun a z => ?_, x6.rn, x6.ln, x6.gf⟩
          · rw [upd_ne (ne_of_none z hD)]
            exact x6.fr a u z n1 n2
          · by_cases q : a = D
            · rw [q]
              exact hD
            · rw [upd_ne q] at z
              exact x6.tr a z
      · exact h6.elim
  · rintro H2 ⟨acc, vs, M2, B2, hL2, h2, w2, e2, d2, r2, g2, n2, l2⟩
    rw [List.drop_length] at h2
    rcases Ext.adoptG (o := .lst vs) (e1.tr D hD) (e1.trans e2) with x | x
    · exact k _ _ M2 _ H2 h2 (w2.adoptG g2 n2 l2 d2) x (.lst upd_same (RpA.mono (upd_keep g2) r2))
    · exact absurd g2 x
section
variable {X : Cx} {e tg : Expr} {m o : Me} {elt : Expr} {ifs : List Expr} {scope : Scope} {own : List (Str × Nat)} {g : Mg} {os : List Nat} {mc : Mb} {pos : Pos}
theorem me_lcR (hc : X.calm = true) (hN : X.N.Nodup) (hi : ME X e o) (ok : BlkOk X.N X.env.scope scope own)
    (hg : ∀ (s : Shared) (H : Hp) (C : Addr) (cl : List (Str × Addr)) (fp : List Addr), MG (X.blk s H scope (compEnvC scope cl C X.env) fp) tg os g) (ht : ∀ (s : Shared) (H : Hp) (C : Addr) (cl : List (Str × Addr)) (fp : List Addr), MTs (X.blk s H scope (compEnvC scope cl C X.env) fp) ifs mc)
    (he : ∀ (s : Shared) (H : Hp) (C : Addr) (cl : List (Str × Addr)) (fp : List Addr), ME (X.blk s H scope (compEnvC scope cl C X.env) fp) elt m) (sub : ∀ j ∈ os, j ∈ own.map (·.2)) (hs : ∀ x, foldedSetIterable e X.env x = pure x := by intro _; rfl) :
    ME X (.ListComp elt [⟨tg, e, ifs, 0⟩] scope pos) (mLcR o g mc m (own.map (·.2))) := PE.of (pe_lc (te := rE X.K m) (tt := rB X.K mc) (g := rG X.K os g) hc hN (mi_deckR hi) ok hg ht he hs) fun _ _ _ h => lc_genR sub h
end
section
variable {X : Cx} {x n : Str} {cs : List Str} {f : Str} {i : Nat} {body : List Stmt} {np np2 rp pos pos' : Pos} {mb : MsX}
end
section
open PyProof.Rows
end
end L3
set_option Elab.async false
set_option linter.all false
set_option maxRecDepth 100000
set_option maxHeartbeats 2000000
namespace L3
open PySem PySem.Spec L2
end L3
set_option Elab.async false
set_option linter.all false
set_option maxRecDepth 100000
namespace L3
open PySem PySem.Spec L2
mutual
/-- data as a value of all kinds -/
def up : PyData → Dt
  | .none => .non
  | .bool b => .bl b
  | .int i => .int i
  | .str x => .str x
  | .list xs => .lst (ups xs)
  | .tuple xs => .tup (ups xs)
  | .dict _ => .non
def ups : List PyData → List Dt
  | [] => []
  | x :: xs => up x :: ups xs
end
section
variable {K : PySem.W.Frag} {B : Bk} {M : Mem} {H : Hp}
mutual
theorem Rp.up {G : Hp} : ∀ {v : V} {x : PyData}, Rp K G v x → Rq K G v (up x)
  | _, _, .non => .non
  | _, _, .bl b => .bl b
  | _, _, .int i => .int i
  | _, _, .str x => .str x
  | _, _, .lst e q => .lst e (RpA.up q)
  | _, _, .tup e q => .tup e (RpA.up q)
theorem RpA.up {G : Hp} : ∀ {v : List V} {x : List PyData}, RpA K G v x → RqA K G v (ups x)
  | _, _, .nil => .nil
  | _, _, .cons p q => .cons (Rp.up p) (RpA.up q)
end
theorem RqA.length {G : Hp} : ∀ {v : List V} {x : List Dt}, RqA K G v x → v.length = x.length
  | _, _, .nil => rfl
  | _, _, .cons _ q => by rw [List.length_cons, List.length_cons, RqA.length q]
theorem RqA.append {G : Hp} : ∀ {v w : List V} {x y : List Dt}, RqA K G v x → RqA K G w y → RqA K G (v ++ w) (x ++ y)
  | _, _, _, _, .nil, q => q
  | _, _, _, _, .cons p q, r => .cons p (RqA.append q r)
theorem RqA.get {G : Hp} : ∀ {v : List V} {x : List Dt} {i : Nat} {d : Dt}, RqA K G v x → x[i]? = some d → ∃ u, v[i]? = some u ∧ Rq K G u d
  | _, _, _, _, .nil, e => by simp at e
  | _, _, 0, _, .cons p _, e => by simp at e; subst e; exact ⟨_, rfl, p⟩
  | _, _, i + 1, _, .cons _ q, e => by
    obtain ⟨u, h1, h2⟩ := RqA.get (i := i) q (by simpa using e)
    exact ⟨u, by simpa using h1, h2⟩
theorem RqA.take {G : Hp} : ∀ {v : List V} {x : List Dt} (n : Nat), RqA K G v x → RqA K G (v.take n) (x.take n)
  | _, _, 0, _ => .nil
  | _, _, _ + 1, .nil => .nil
  | _, _, n + 1, .cons p q => .cons p (RqA.take n q)
theorem RqA.drop {G : Hp} : ∀ {v : List V} {x : List Dt} (n : Nat), RqA K G v x → RqA K G (v.drop n) (x.drop n)
  | _, _, 0, r => r
  | _, _, _ + 1, .nil => .nil
  | _, _, n + 1, .cons _ q => RqA.drop n q
theorem RqA.atI {G : Hp} {v : List V} {x : List Dt} {i : Int} {d : Dt} (r : RqA K G v x) (e : L2.atI x i = some d) : ∃ u, L2.atI v i = some u ∧ Rq K G u d := by
  obtain ⟨j, h1, _, h3⟩ := atI_of (RqA.length r) e
  obtain ⟨u, h4, h5⟩ := RqA.get r h3
  exact ⟨u, by unfold L2.atI; rw [h1]; exact h4, h5⟩
theorem RqA.cut {G : Hp} {xs : List V} {ds : List Dt} {lo hi : Option Int} (r : RqA K G xs ds) : RqA K G (cutV xs lo hi) (cutT ds lo hi) := by
  unfold cutV cutT
  rw [RqA.length r]
  exact RqA.take _ (RqA.drop _ r)
/-- a tree as a value of all kinds -/
def tq : T → Option Dt
  | .d x => some (up x)
  | .q x => some x
  | _ => none
def tqs : List T → Option (List Dt)
  | [] => some []
  | t :: ts => match tq t, tqs ts with
    | some x, some xs => some (x :: xs)
    | _, _ => none
theorem tq_rt {v : V} {t : T} {x : Dt} (r : Rt K B v t) (e : tq t = some x) : Rq K B.G v x := by
  cases t with
  | d y => cases e; exact Rp.up r
  | q y => cases e; exact r
  | mr i => cases e
  | lr i => cases e
  | scr ns => cases e
  | wt xs => cases e
  | exo a c d e' => cases e
theorem tqs_rt : ∀ {vs : List V} {ts : List T} {xs : List Dt}, Paired (Rt K B) vs ts → tqs ts = some xs → RqA K B.G vs xs
  | _, _, _, .nil, e => by
    cases e
    exact .nil
  | _, _, _, .cons (b := t) p q, e => by
    unfold tqs at e
    cases h : tq t with
    | none => rw [h] at e; cases e
    | some x =>
      rw [h] at e
      cases h2 : tqs _ with
      | none => rw [h2] at e; cases e
      | some r =>
        rw [h2] at e
        cases e
        exact .cons (tq_rt p h) (tqs_rt q h2)
/-- a value of all kinds as a tree: what is no list, tuple, dict, object is data -/
def inj : Dt → T
  | .non => .d .none
  | .bl b => .d (.bool b)
  | .int i => .d (.int i)
  | .str x => .d (.str x)
  | x => .q x
theorem inj_rt {v : V} {x : Dt} (r : Rq K B.G v x) : Rt K B v (inj x) := by
  cases r with
  | non => exact Rp.non
  | bl b => exact Rp.bl b
  | int i => exact Rp.int i
  | str s => exact Rp.str s
  | lst e q => exact Rq.lst e q
  | tup e q => exact Rq.tup e q
  | dic e k v q => exact Rq.dic e k v q
  | obj c e => exact Rq.obj c e
  | obj1 c e e2 q => exact Rq.obj1 c e e2 q
  | ins c e => exact Rq.ins c e
@[simp] theorem tq_inj (x : Dt) : tq (inj x) = some x := by cases x <;> rfl
end
def mQTup (r : Ma) : Me := fun τ M Q => r τ M fun ts M1 => ∃ ds, tqs ts = some ds ∧ ds.length ≤ sizeLine ∧ Q (.q (.tup ds)) M1
def mQLst (r : Ma) : Me := fun τ M Q => r τ M fun ts M1 => ∃ ds, tqs ts = some ds ∧ ds.length ≤ sizeLine ∧ Q (.q (.lst ds)) M1
section
variable {X : Cx} {a b c e : Expr} {es : List Expr} {ma mb mc m : Me} {pos : Pos} {mr : Ma}
theorem me_qtup {x1 : Nat} (h : MA X es mr) : ME X (.Tuple es x1 pos) (mQTup mr) := PE.of (pe_tupC h) fun σ H Q' ⟨τ, M, B, Q, h, w, s, k⟩ => by
  refine ⟨τ, M, B, _, h, w, s, fun v t M1 B1 H1 h1 w1 e1 r1 => ?_⟩
  obtain ⟨ds, hd, hl, hq⟩ := h1
  have q := tqs_rt r1 hd
  refine ⟨by rw [RqA.length q]; exact hl, fun p o hp ho => ?_⟩
  obtain ⟨w2, e2⟩ := w1.alloc hp (.frz o (.tup v))
  exact k _ _ M1 _ _ hq w2 (e1.trans e2) (Rq.tup (.inl ⟨o, upd_same, ho⟩) (RqA.mono e2.g q))
theorem me_qlst (h : MA X es mr) : ME X (.List es pos) (mQLst mr) := PE.of (pe_lst h) fun σ H Q' ⟨τ, M, B, Q, h, w, s, k⟩ => by
  refine ⟨τ, M, B, _, h, w, s, fun v t M1 B1 H1 h1 w1 e1 r1 => ?_⟩
  obtain ⟨ds, hd, hl, hq⟩ := h1
  have q := tqs_rt r1 hd
  refine ⟨by rw [RqA.length q]; exact hl, fun p hp => ?_⟩
  obtain ⟨w2, e2⟩ := w1.alloc hp (.lst v)
  exact k _ _ M1 _ _ hq w2 (e1.trans e2) (Rq.lst upd_same (RqA.mono e2.g q))
def oQAdd : F2 := fun x y M Q => match tq x, tq y with
  | some (.lst a), some (.lst b) => a.length + b.length ≤ sizeLine ∧ Q (.q (.lst (a ++ b))) M
  | some (.tup a), some (.tup b) => a.length + b.length ≤ sizeLine ∧ Q (.q (.tup (a ++ b))) M
  | some (.int i), some (.int j) => Q (.d (.int (i + j))) M
  | _, _ => False
theorem opl_qadd {K : PySem.W.Frag} : OpL K (rAdd K) oQAdd := by
  intro x y t u M B H Q Q' h w rx ry k
  unfold oQAdd at h
  split at h
  · rename_i e1 e2
    cases tq_rt rx e1 with
    | lst e1 q1 =>
      cases tq_rt ry e2 with
      | lst e2 q2 =>
        refine .inr (.inr (.inl ⟨_, _, _, _, rfl, rfl, w.le _ _ e1, w.le _ _ e2, ?_, fun p hp => ?_⟩))
        · rw [RqA.length q1, RqA.length q2]
          exact h.1
        · obtain ⟨w', x'⟩ := w.alloc hp (.lst (_ ++ _))
          exact k _ _ M _ _ h.2 w' x' (Rq.lst upd_same (RqA.mono x'.g (RqA.append q1 q2)))
  · rename_i e1 e2
    cases tq_rt rx e1 with
    | tup e1 q1 =>
      cases tq_rt ry e2 with
      | tup e2 q2 =>
        obtain ⟨hl, q⟩ := h
        refine .inr (.inr (.inr ⟨_, _, _, _, rfl, rfl, SqT.mono w.le e1, SqT.mono w.le e2, ?_, fun z => ?_, fun _ z => ?_, fun _ z p o hp ho => ?_⟩))
        · rw [RqA.length q1, RqA.length q2]
          exact hl
        · subst z
          cases q1
          exact k _ _ M B H q w (.refl _ _) (Rq.tup e2 q2)
        · subst z
          cases q2
          rw [List.append_nil] at q
          exact k _ _ M B H q w (.refl _ _) (Rq.tup e1 q1)
        · obtain ⟨w', x'⟩ := w.alloc hp (.frz o (.tup (_ ++ _)))
          exact k _ _ M _ _ q w' x' (Rq.tup (.inl ⟨o, upd_same, ho⟩) (RqA.mono x'.g (RqA.append q1 q2)))
  · rename_i e1 e2
    cases tq_rt rx e1
    cases tq_rt ry e2
    exact .inl ⟨_, _, rfl, rfl, k _ _ M B H h w (.refl _ _) (Rp.int _)⟩
  · exact h.elim
theorem me_qadd (ha : ME X a ma) (hb : ME X b mb) : ME X (.BinOp a .Add b pos) (mOp oQAdd ma mb) := me_op opr_add opl_qadd ha hb
def oQIx : F2 := fun x y M Q => match tq x, y with
  | some (.lst xs), .d (.int j) => ∃ t, atI xs j = some t ∧ Q (inj t) M
  | some (.tup xs), .d (.int j) => ∃ t, atI xs j = some t ∧ Q (inj t) M
  | _, _ => False
theorem opl_qix {K : PySem.W.Frag} : OpL K (rIx2 K) oQIx := by
  intro x y t u M B H Q Q' h w rx ry k
  unfold oQIx at h
  split at h
  · rename_i hx
    cases ry
    cases tq_rt rx hx with
    | lst e q =>
      obtain ⟨d, h1, h2⟩ := h
      obtain ⟨v, h3, h4⟩ := RqA.atI q h1
      exact .inl ⟨_, _, _, v, rfl, rfl, .of (w.le _ _ e), h3, k _ _ M B H h2 w (.refl _ _) (inj_rt h4)⟩
  · rename_i hx
    cases ry
    cases tq_rt rx hx with
    | tup e q =>
      obtain ⟨d, h1, h2⟩ := h
      obtain ⟨v, h3, h4⟩ := RqA.atI q h1
      exact .inr ⟨_, _, _, v, rfl, rfl, SqT.mono w.le e, h3, k _ _ M B H h2 w (.refl _ _) (inj_rt h4)⟩
  · exact h.elim
theorem me_qix (ha : ME X a ma) (hb : ME X b mb) (hs : PlainIx b) : ME X (.Subscript a b pos) (mOp oQIx ma mb) := PE.of (pe_ix ixr ha hb hs) fun _ _ _ h => two opl_qix h
end
def fQLen : FA := fun ts M Q => match ts with
  | [t] => (match tq t with
    | some (.lst xs) => Q (.int xs.length) M
    | some (.tup xs) => Q (.int xs.length) M
    | _ => False)
  | _ => False
theorem cal_qlen {K : PySem.W.Frag} : CaL K (rLen K) fQLen := by
  intro xs ts M B H Q Q' h w r k
  unfold fQLen at h
  split at h
  · obtain ⟨v, rfl, r1⟩ := paired_one r
    split at h
    · rename_i e
      cases tq_rt r1 e with
      | lst e q =>
        refine .inl ⟨_, _, rfl, .inl (.of (w.le _ _ e)), ?_⟩
        rw [RqA.length q]
        exact k _ _ M B H h w (.refl _ _) (Rp.int _)
    · rename_i e
      cases tq_rt r1 e with
      | tup e q =>
        refine .inl ⟨_, _, rfl, .inr (SqT.mono w.le e), ?_⟩
        rw [RqA.length q]
        exact k _ _ M B H h w (.refl _ _) (Rp.int _)
    · exact h.elim
  · exact h.elim
def fQList : FA := fun ts M Q => match ts with
  | [t] => (match tq t with
    | some (.lst xs) => Q (.q (.lst xs)) M
    | some (.tup xs) => Q (.q (.lst xs)) M
    | _ => False)
  | _ => False
theorem cal_qlist {K : PySem.W.Frag} : CaL K (rList K) fQList := by
  intro xs ts M B H Q Q' h w r k
  unfold fQList at h
  split at h
  · obtain ⟨v, rfl, r1⟩ := paired_one r
    split at h
    · rename_i e
      cases tq_rt r1 e with
      | @lst _ ys _ e q =>
        refine ⟨_, _, rfl, .inl (.of (w.le _ _ e)), fun l hl => ?_⟩
        obtain ⟨w4, e4⟩ := w.alloc hl (.lst ys)
        exact k _ _ M _ _ h w4 e4 (Rq.lst upd_same (RqA.mono e4.g q))
    · rename_i e
      cases tq_rt r1 e with
      | @tup _ ys _ e q =>
        refine ⟨_, _, rfl, .inr (SqT.mono w.le e), fun l hl => ?_⟩
        obtain ⟨w4, e4⟩ := w.alloc hl (.lst ys)
        exact k _ _ M _ _ h w4 e4 (Rq.lst upd_same (RqA.mono e4.g q))
    · exact h.elim
  · exact h.elim
section
variable {X : Cx} {e : Expr} {es : List Expr} {mr : Ma} {p pos : Pos}
theorem me_qlen (hg : Gl X "len") (hm : X.mg "len" = none) (ha : MA X (e :: es) mr) (he : starEach (e :: es) X.env = (false, eval e X.env) :: starEach es X.env := by rfl) (hpl : (backTo pos (starEach es X.env)).any (·.1) = false := by rfl) : ME X (.Call (.Name "len" p) (e :: es) [] pos) (mCall fQLen mr) := me_callB cr_len cal_qlen hg hm (by decide +kernel) ha (by decide) (by decide) he hpl
theorem me_qlist (hg : Gl X "list") (hm : X.mg "list" = none) (ha : MA X (e :: es) mr) (he : starEach (e :: es) X.env = (false, eval e X.env) :: starEach es X.env := by rfl) (hpl : (backTo pos (starEach es X.env)).any (·.1) = false := by rfl) : ME X (.Call (.Name "list" p) (e :: es) [] pos) (mCall fQList mr) := me_callTy call_list_of cal_qlist hg hm (by decide +kernel) ha (by decide) (by decide) he hpl
end
abbrev Mqs := List Dt → En → Mem → (En → Mem → Prop) → Prop
def qsNil : Mqs := fun xs τ M Q => xs = [] ∧ Q τ M
def qsCons (g : Mg) (r : Mqs) : Mqs := fun xs τ M Q => match xs with
  | x :: ys => g (inj x) τ M fun τ1 M1 => r ys τ1 M1 Q
  | [] => False
def gQTu (n : Nat) (r : Mqs) : Mg := fun t τ M Q => match tq t with
  | some (.tup xs) => xs.length = n ∧ r xs τ M Q
  | _ => False
def rQs (K : PySem.W.Frag) (os : List Nat) (m : Mqs) : TGs := fun vs σ H Q' => ∃ ds τ M B Q, m ds τ M Q ∧ Wd K B M H ∧ Sl K B σ τ ∧ RqA K B.G vs ds ∧ ∀ τ' M' B' σ' H', Q τ' M' → Wd K B' M' H' → Ext B H B' H' → Sl K B' σ' τ' → Ag os σ σ' → Q' σ' H'
abbrev MQs (X : Cx) (es : List Expr) (os : List Nat) (m : Mqs) : Prop := PGs X es (rQs X.K os m)
section
variable {X : Cx} {e : Expr} {es : List Expr} {g : Mg} {gr : Mqs} {pos : Pos}
theorem mqs_nil : MQs X [] [] qsNil := PGs.of pgs_nil fun v σ H Q' ⟨ds, τ, M, B, Q, h, w, s, r, k⟩ => by
  obtain ⟨rfl, q⟩ := h
  cases r
  exact ⟨rfl, k _ M B _ H q w (.refl _ _) s ⟨rfl, fun _ _ => rfl⟩⟩
theorem mqs_cons {o1 o2 : List Nat} (h1 : MG X e o1 g) (h2 : MQs X es o2 gr) (hs : (assignEach (e :: es) X.env).map (·.2) = assign e X.env :: (assignEach es X.env).map (·.2) := by rfl) : MQs X (e :: es) (o1 ++ o2) (qsCons g gr) :=
  PGs.of (pgs_cons h1 h2 hs) fun v σ H Q' ⟨ds, τ, M, B, Q, h, w, s, r, k⟩ => by
  unfold qsCons at h
  split at h
  · cases r with
    | cons p q =>
      refine ⟨_, _, rfl, _, τ, M, B, _, h, w, s, inj_rt p, fun τ1 M1 B1 σ1 H1 h1 w1 e1 s1 a1 => ?_⟩
      exact ⟨_, τ1, M1, B1, Q, h1, w1, s1, RqA.mono e1.g q, fun τ2 M2 B2 σ2 H2 h2 w2 e2 s2 a2 => k τ2 M2 B2 σ2 H2 h2 w2 (e1.trans e2) s2 (a1.trans a2)⟩
  · exact h.elim
theorem mg_qtup {os : List Nat} {k : Nat} {n : Nat} (hc : X.calm = true) (h : MQs X es os gr) (hn : (assignEach es X.env).length = n := by rfl) (hst : (assignEach es X.env).findIdx? (·.1) = none := by rfl) : MG X (.Tuple es k pos) os (gQTu n gr) :=
  PG.of (pg_tup hc h hn hst) fun v σ H Q' ⟨t, τ, M, B, Q, h, w, s, r, k⟩ => by
  unfold gQTu at h
  split at h
  · rename_i he
    cases tq_rt r he with
    | tup e q => exact ⟨_, _, rfl, SqT.mono w.le e, (RqA.length q).trans h.1, _, τ, M, B, Q, h.2, w, s, q, k⟩
  · exact h.elim
end
def iQSeq (m : Me) : Mi := fun τ M Q => m τ M fun t M1 => match tq t with
  | some (.lst xs) => Q (xs.map inj) M1
  | some (.tup xs) => Q (xs.map inj) M1
  | _ => False
section
variable {X : Cx} {e c tg : Expr} {m : Me} {mr : Ma} {pos : Pos}
theorem walkQ_l {K : PySem.W.Frag} {B : Bk} {a : Addr} {vs : List V} {ds : List Dt} (e : SqL K B.G a vs) (q : RqA K B.G vs ds) : WalkT K B (Itl K a) (ds.map inj) := by
  unfold WalkT
  rw [List.length_map, ← RqA.length q]
  refine walk_list.mono (fun H g => SqL.mono g e) fun i H x H' hi g y => .inl ⟨y.1, ?_⟩
  have hd : i < ds.length := by rw [← RqA.length q]; exact hi
  obtain ⟨u, h1, h2⟩ := RqA.get q (List.getElem?_eq_getElem hd)
  refine ⟨_, by rw [List.getElem?_map, List.getElem?_eq_getElem hd]; rfl, ?_⟩
  rw [y.2] at h1
  cases h1
  exact inj_rt h2
theorem walkQ_t {K : PySem.W.Frag} {B : Bk} {a : Addr} {vs : List V} {ds : List Dt} (e : SqT K B.G a vs) (q : RqA K B.G vs ds) : WalkT K B (Itt K a) (ds.map inj) := by
  unfold WalkT
  rw [List.length_map, ← RqA.length q]
  refine walk_tup.mono (fun H g => SqT.mono0 g e) fun i H x H' hi g y => .inl ⟨y.1, ?_⟩
  have hd : i < ds.length := by rw [← RqA.length q]; exact hi
  obtain ⟨u, h1, h2⟩ := RqA.get q (List.getElem?_eq_getElem hd)
  refine ⟨_, by rw [List.getElem?_map, List.getElem?_eq_getElem hd]; rfl, ?_⟩
  rw [y.2] at h1
  cases h1
  exact inj_rt h2
theorem mi_qseq (he : ME X e m) : MI X tg e (iQSeq m) := by
  refine ⟨fun pn sh sg hp R iv ⟨τ, M, B, Q, h, w, s, k⟩ => ?_⟩
  let P := fun (x : V) (H1 : Hp) => ∃ t M1 B1, (match tq t with | some (.lst xs) => Q (xs.map inj) M1 | some (.tup xs) => Q (xs.map inj) M1 | _ => False) ∧ Wd X.K B1 M1 H1 ∧ Ext B hp B1 H1 ∧ Rt X.K B1 x t
  refine thn (he.run pn sh sg hp P iv ⟨τ, M, B, _, h, w, s, fun v t M1 B1 H1 h1 w1 e1 r1 => ⟨t, M1, B1, h1, w1, e1, r1⟩⟩) fun v s1 ⟨x, H1, i1, rx, t, M1, B1, h1, w1, e1, r1⟩ => ?_
  split at h1
  · rename_i ht
    cases tq_rt r1 ht with
    | lst e q =>
      cases rx
      exact pie_l i1 (.of (w1.le _ _ e)) (k _ M1 B1 H1 _ h1 w1 e1 (walkQ_l (.of e) q))
  · rename_i ht
    cases tq_rt r1 ht with
    | tup e q =>
      cases rx
      exact pie_t i1 (SqT.mono w1.le e) (k _ M1 B1 H1 _ h1 w1 e1 (walkQ_t e.t q))
  · exact h1.elim
end
end L3
set_option Elab.async false
set_option linter.all false
set_option maxRecDepth 100000
set_option maxHeartbeats 1000000
namespace L3
open PySem PySem.Spec L2
mutual
/-- what stands in the heap, dicts too -/
inductive Sw (h : Heap) : Value → PyData → Prop
  | non : Sw h .none .none
  | bl (b : Bool) : Sw h (.bool b) (.bool b)
  | int (i : Int) (t : Tok) : Sw h (.int i t) (.int i)
  | str (x : Str) (t : Tok) : Sw h (.str x t) (.str x)
  | lst {a : Addr} {o : Obj} {us : List Value} {n : Nat} {ds : List PyData} : h.get? a = some o → o.cls = .type "list" → o.data = .seq us.toArray n → SwA h us ds → Sw h (.ref a) (.list ds)
  | tup {a : Addr} {o : Obj} {us : List Value} {n : Nat} {ds : List PyData} : h.get? a = some o → o.cls = .type "tuple" → o.data = .seq us.toArray n → SwA h us ds → Sw h (.ref a) (.tuple ds)
  | dic {a : Addr} {o : Obj} {es : Array DictEntry} {n : Nat} {kvs : List (PyData × PyData)} : h.get? a = some o → o.cls = .type "dict" → o.data = .dict es n → (a == sysModules) = false →
      SwA h (es.toList.map DictEntry.key) (kvs.map Prod.fst) → SwA h (es.toList.map DictEntry.val) (kvs.map Prod.snd) → Sw h (.ref a) (.dict kvs)
inductive SwA (h : Heap) : List Value → List PyData → Prop
  | nil : SwA h [] []
  | cons {u : Value} {us : List Value} {d : PyData} {ds : List PyData} : Sw h u d → SwA h us ds → SwA h (u :: us) (d :: ds)
end
/-- read, and shown within what stands -/
def Shows (P : Program) (w : World) (h : Heap) (u : Value) (d : PyData) : Prop := (∃ as, Reads h u d as) ∧ ∃ bs, ReadAtMost h d.depth bs ∧ ReprK P w bs h d.depth u d.shown
def ShowsA (P : Program) (w : World) (h : Heap) (us : List Value) (ds : List PyData) : Prop := (∃ as, ReadsAll h us ds as) ∧ ∃ bs, ReadAtMost h (PyData.depthAll ds) bs ∧ ReprAllK P w bs h (PyData.depthAll ds) us (PyData.shownAll ds)
section
variable {P : Program} {w : World} {h : Heap}
theorem shows_lst {a : Addr} {o : Obj} {us : List Value} {n : Nat} {ds : List PyData} (g : h.get? a = some o) (c : o.cls = .type "list") (e : o.data = .seq us.toArray n) (k : ShowsA P w h us ds) : Shows P w h (.ref a) (.list ds) := by
  obtain ⟨⟨as, r⟩, bs, hb, q⟩ := k
  have R : Reads h (.ref a) (.list ds) (a :: as) := .list g c e r
  have far : a ∉ bs := not_mem_of_deeper R (by simp only [PyData.depth]; omega) hb
  refine ⟨⟨_, R⟩, a :: bs, .cons R (by simp only [PyData.depth]; omega) hb, ?_⟩
  simp only [PyData.depth, PyData.shown]
  cases us with
  | nil =>
    cases ds with
    | nil =>
      simp only [PyData.shownAll, listText_nil]
      exact .listEmpty g c e
    | cons x l => cases (show ReadsAll h [] (x :: l) as from r)
  | cons x l => exact .list g c e far (by rw [q.length_eq, List.size_toArray]) fun i y z => q.item i y (by rwa [List.getElem?_toArray] at z)
theorem shows_tup {a : Addr} {o : Obj} {us : List Value} {n : Nat} {ds : List PyData} (g : h.get? a = some o) (c : o.cls = .type "tuple") (e : o.data = .seq us.toArray n) (k : ShowsA P w h us ds) : Shows P w h (.ref a) (.tuple ds) := by
  obtain ⟨⟨as, r⟩, bs, hb, q⟩ := k
  have R : Reads h (.ref a) (.tuple ds) as := .tuple g c e r
  have far : a ∉ bs := not_mem_of_deeper R (by simp only [PyData.depth]; omega) hb
  refine ⟨⟨_, R⟩, a :: bs, .cons R (by simp only [PyData.depth]; omega) hb, ?_⟩
  simp only [PyData.depth, PyData.shown]
  exact .tuple g c e far q
theorem shows_dic {a : Addr} {o : Obj} {es : Array DictEntry} {n : Nat} {kvs : List (PyData × PyData)} (g : h.get? a = some o) (c : o.cls = .type "dict") (e : o.data = .dict es n) (ns : (a == sysModules) = false)
    (k1 : ShowsA P w h (es.toList.map DictEntry.key) (kvs.map Prod.fst)) (k2 : ShowsA P w h (es.toList.map DictEntry.val) (kvs.map Prod.snd)) : Shows P w h (.ref a) (.dict kvs) := by
  obtain ⟨⟨as, r⟩, bs, hb, q⟩ := k1
  obtain ⟨⟨as2, r2⟩, cs, hc, q2⟩ := k2
  have R : Reads h (.ref a) (.dict kvs) _ := .dict g c e r r2
  have all : ReadAtMost h (PyData.depthKv kvs) (bs ++ cs) := .append (.mono hb (PyData.depthAll_keys_le kvs)) (.mono hc (PyData.depthAll_vals_le kvs))
  have far : a ∉ bs ++ cs := not_mem_of_deeper R (by simp only [PyData.depth]; omega) all
  refine ⟨⟨_, R⟩, a :: (bs ++ cs), .cons R (by simp only [PyData.depth]; omega) all, ?_⟩
  simp only [PyData.depth, PyData.shown, PyData.shownKv_eq]
  exact .dict g c e ns far (.of_two _ _ _ (q.more_le (fun b hm => List.mem_append_left _ hm) (PyData.depthAll_keys_le kvs)) (q2.more_le (fun b hm => List.mem_append_right _ hm) (PyData.depthAll_vals_le kvs)))
mutual
theorem Sw.shows : ∀ {u : Value} {d : PyData}, Sw h u d → d.showable = true → d.shown.length ≤ sizeLine → Shows P w h u d
  | _, _, .non, _, _ => ⟨⟨_, .none⟩, [], (fun _ z => nomatch z), by simp only [PyData.shown]; exact .of_is .none _ _ _⟩
  | _, _, .bl b, _, _ => ⟨⟨_, .bool b⟩, [], (fun _ z => nomatch z), by simp only [PyData.shown]; exact .of_is (.bool b) _ _ _⟩
  | _, _, .int i t, s, _ => ⟨⟨_, .int i t⟩, [], (fun _ z => nomatch z), by simp only [PyData.shown]; exact .of_is (.int t (of_decide_eq_true s)) _ _ _⟩
  | _, _, .str x t, _, z => ⟨⟨_, .str x t⟩, [], (fun _ z => nomatch z), by simp only [PyData.shown]; exact .of_is (.str x t z) _ _ _⟩
  | _, _, .lst g c e k, s, z => shows_lst g c e (SwA.shows k s fun t m => Nat.le_trans (listText_mem_le m) z)
  | _, _, .tup g c e k, s, z => shows_tup g c e (SwA.shows k s fun t m => Nat.le_trans (tupleText_mem_le m) z)
  | _, _, .dic (kvs := kvs) g c e n k1 k2, s, z => by
    obtain ⟨s1, s2⟩ := PyData.showableKv_split _ s
    refine shows_dic g c e n (SwA.shows k1 s1 fun t m => ?_) (SwA.shows k2 s2 fun t m => ?_)
    · obtain ⟨p, m1, m2⟩ := PyData.shownKv_key_le kvs t m
      exact Nat.le_trans m2 (Nat.le_trans (dictText_mem_le m1) z)
    · obtain ⟨p, m1, m2⟩ := PyData.shownKv_val_le kvs t m
      exact Nat.le_trans m2 (Nat.le_trans (dictText_mem_le m1) z)
theorem SwA.shows : ∀ {us : List Value} {ds : List PyData}, SwA h us ds → PyData.showableAll ds = true → (∀ t ∈ PyData.shownAll ds, t.length ≤ sizeLine) → ShowsA P w h us ds
  | _, _, .nil, _, _ => ⟨⟨_, .nil⟩, [], (fun _ z => nomatch z), .nil⟩
  | _, _, .cons (d := d) (ds := ds) k r, s, z => by
    have s' : d.showable = true ∧ PyData.showableAll ds = true := by simpa [PyData.showableAll] using s
    obtain ⟨⟨as, r1⟩, bs, hb, q1⟩ := Sw.shows k s'.1 (z _ (by simp only [PyData.shownAll]; exact List.mem_cons_self))
    obtain ⟨⟨as2, r2⟩, cs, hc, q2⟩ := SwA.shows r s'.2 fun t m => z t (by simp only [PyData.shownAll]; exact List.mem_cons_of_mem _ m)
    have l1 : d.depth ≤ PyData.depthAll (d :: ds) := by simp only [PyData.depthAll]; exact Nat.le_max_left _ _
    have l2 : PyData.depthAll ds ≤ PyData.depthAll (d :: ds) := by simp only [PyData.depthAll]; exact Nat.le_max_right _ _
    refine ⟨⟨_, .cons r1 r2⟩, bs ++ cs, .append (.mono hb l1) (.mono hc l2), ?_⟩
    have e : PyData.shownAll (d :: ds) = d.shown :: PyData.shownAll ds := by simp only [PyData.shownAll]
    rw [e]
    exact .cons ((q1.more fun b hm => List.mem_append_left _ hm).level_le l1) (q2.more_le (fun b hm => List.mem_append_right _ hm) l2)
end
/-- repr of a value that stands in the heap -/
theorem Sw.repr {s : Shared} {A : Around} {E : Value → Shared → Prop} {Q : Value → Shared → Prop} {a : Addr} {d : PyData} (k : Sw s.heap (.ref a) d) (sh : d.showable = true) (sz : d.shown.length ≤ sizeLine) (hg : A.guards = some []) (hu : A.units + (d.depth + 1) < cLine)
    (hQ : ∀ h' u tk, (∀ b o, s.heap.get? b = some o → h'.get? b = some o) → Q (.str d.shown u) { s with heap := h', toks := tk }) : wpAny (model P w) A (call (.builtin "repr") [.ref a]) Q E s := by
  have st : ∀ b o, s.heap.get? b = some o → s.heap.get? b = some o := fun _ _ z => z
  have room : A.in1.units + d.depth < cLine := by show A.units + 1 + d.depth < cLine; omega
  have hq : ∀ h' u tk, (∀ b o, s.heap.get? b = some o → h'.get? b = some o) → ∃ x t, Value.str d.shown u = .str x t ∧ Q (.str x t) { s with heap := h', toks := tk } := fun h' u tk z => ⟨_, _, rfl, hQ h' u tk z⟩
  cases k with
  | @lst _ o us n ds g c e k =>
    obtain ⟨⟨as, r⟩, bs, hb, q⟩ := SwA.shows (P := P) (w := w) k sh fun t m => Nat.le_trans (listText_mem_le m) sz
    have far : a ∉ bs := not_mem_of_deeper (.list g c e r) (by simp only [PyData.depth]; omega) hb
    simp only [PyData.depth] at room
    simp only [PyData.shown] at hQ
    refine call_repr_slot (by omega) ⟨o, g, c⟩ F.slot_list_repr.toG ?_
    cases us with
    | nil =>
      cases (show ReadsAll s.heap [] ds as from r)
      simp only [PyData.shownAll, listText_nil] at hQ
      exact call_list_repr_empty ⟨o, g, c⟩ g e ⟨_, _, rfl, hQ s.heap _ _ fun _ _ z => z⟩
    | cons x l => exact call_list_reprK g c e far (by rw [q.length_eq, List.size_toArray]) (fun i y z => q.item i y (by rwa [List.getElem?_toArray] at z)) hg (fun b _ => .nil b) room st (fun h' u tk z => ⟨_, _, rfl, hQ h' u tk z⟩) sz
  | @tup _ o us n ds g c e k =>
    obtain ⟨⟨as, r⟩, bs, hb, q⟩ := SwA.shows (P := P) (w := w) k sh fun t m => Nat.le_trans (tupleText_mem_le m) sz
    have far : a ∉ bs := not_mem_of_deeper (.tuple g c e r) (by simp only [PyData.depth]; omega) hb
    simp only [PyData.depth] at room
    simp only [PyData.shown] at hQ
    refine call_repr_slot (by omega) ⟨o, g, c⟩ F.slot_tuple_repr ?_
    exact call_tuple_reprK g c e far q hg (fun b _ => .nil b) room st (fun h' u tk z => ⟨_, _, rfl, hQ h' u tk z⟩) sz
  | @dic _ o es n kvs g c e ns k1 k2 =>
    obtain ⟨s1, s2⟩ := PyData.showableKv_split _ sh
    obtain ⟨⟨as, r1⟩, bs, hb, q1⟩ := SwA.shows (P := P) (w := w) k1 s1 fun t m => by
      obtain ⟨p, m1, m2⟩ := PyData.shownKv_key_le kvs t m
      exact Nat.le_trans m2 (Nat.le_trans (dictText_mem_le m1) sz)
    obtain ⟨⟨as2, r2⟩, cs, hc, q2⟩ := SwA.shows (P := P) (w := w) k2 s2 fun t m => by
      obtain ⟨p, m1, m2⟩ := PyData.shownKv_val_le kvs t m
      exact Nat.le_trans m2 (Nat.le_trans (dictText_mem_le m1) sz)
    have all : ReadAtMost s.heap (PyData.depthKv kvs) (bs ++ cs) := .append (.mono hb (PyData.depthAll_keys_le kvs)) (.mono hc (PyData.depthAll_vals_le kvs))
    have far : a ∉ bs ++ cs := not_mem_of_deeper (.dict g c e r1 r2) (by simp only [PyData.depth]; omega) all
    simp only [PyData.depth] at room
    have sz' := sz
    simp only [PyData.shown, PyData.shownKv_eq] at hQ sz'
    refine call_repr_slot (by omega) ⟨o, g, c⟩ F.slot_dict_repr ?_
    exact call_dict_reprK g c e ns far (.of_two _ _ _ (q1.more_le (fun b hm => List.mem_append_left _ hm) (PyData.depthAll_keys_le kvs)) (q2.more_le (fun b hm => List.mem_append_right _ hm) (PyData.depthAll_vals_le kvs)))
      hg (fun b _ => .nil b) room st (fun h' u tk z => ⟨_, _, rfl, hQ h' u tk z⟩) sz'
end
/-- a key as data -/
def keyP : Key → PyData
  | .inl i => .int i
  | .inr x => .str x
mutual
/-- a value of all kinds as data, where no object stands in it -/
def pd : Dt → Option PyData
  | .non => some .none
  | .bl b => some (.bool b)
  | .int i => some (.int i)
  | .str x => some (.str x)
  | .lst xs => (pds xs).map .list
  | .tup xs => (pds xs).map .tuple
  | .dic ks xs => (pds xs).map fun ys => .dict ((ks.map keyP).zip ys)
  | .obj _ _ _ => none
def pds : List Dt → Option (List PyData)
  | [] => some []
  | x :: xs => match pd x, pds xs with
    | some y, some ys => some (y :: ys)
    | _, _ => none
end
theorem pds_len : ∀ {xs : List Dt} {ys : List PyData}, pds xs = some ys → xs.length = ys.length
  | [], ys, e => by cases e; rfl
  | x :: xs, ys, e => by
    unfold pds at e
    split at e
    · rename_i h1 h2
      cases e
      rw [List.length_cons, List.length_cons, pds_len h2]
    · cases e
section
variable {X : Cx} {pins : List (Addr × Obj)} {σ : L2.St} {H : Hp} {s : Shared}
theorem swa_keys {P : Program} {w : World} {h : Heap} : ∀ {es : List DictEntry} {vs : List (Key × Value)}, Pairs (mixKind P w) es vs → SwA h (es.map DictEntry.key) ((vs.map (·.1)).map keyP) ∧ es.map DictEntry.val = vs.map (·.2)
  | _, _, .nil => ⟨.nil, rfl⟩
  | _, _, .cons (e := e) (kv := kv) k v r => by
    obtain ⟨r1, r2⟩ := swa_keys (h := h) r
    refine ⟨.cons ?_ r1, by rw [List.map_cons, List.map_cons, r2, v]⟩
    rcases keyIs_shape (show keyIs kv.1 e.key = true from k) with ⟨i, t, h1, h2⟩ | ⟨x, t, h1, h2⟩
    · show Sw h e.key (keyP kv.1)
      rw [h1, h2]; exact .int i t
    · show Sw h e.key (keyP kv.1)
      rw [h1, h2]; exact .str x t
theorem kv_vals {kvs : List (Key × V)} {vs : List (Key × Value)} (h : KV kvs vs) : vs.map (·.1) = kvs.map (·.1) ∧ Vals (kvs.map (·.2)) (vs.map (·.2)) := by
  induction h with
  | nil => exact ⟨rfl, .nil⟩
  | cons f _ ih => exact ⟨by rw [List.map_cons, List.map_cons, ih.1, f.1], .cons f.2 ih.2⟩
mutual
theorem Rq.sw (I : Inv X pins σ H s) : ∀ (x : Dt) (v : V) (u : Value) (y : PyData), Rq X.K H v x → RelV v u → pd x = some y → Sw s.heap u y
  | .non, _, _, _, h, r, e => by cases h; cases r; cases e; exact .non
  | .bl b, _, _, _, h, r, e => by cases h; cases r; cases e; exact .bl b
  | .int i, _, _, _, h, r, e => by cases h; obtain ⟨t, rfl⟩ := r; cases e; exact .int i t
  | .str x, _, _, _, h, r, e => by cases h; obtain ⟨t, rfl⟩ := r; cases e; exact .str x t
  | .lst xs, _, _, _, h, r, e => by
    cases h with
    | lst hs ha =>
      cases r
      obtain ⟨its, rv, ⟨o, n, ho, hc, _, hd⟩, _⟩ := I.list (.of hs)
      unfold pd at e
      obtain ⟨ys, e1, e2⟩ := Option.map_eq_some_iff.mp e
      subst e2
      exact .lst ho hc hd (RqA.sw I xs _ _ _ ha rv e1)
  | .tup xs, _, _, _, h, r, e => by
    cases h with
    | tup hs ha =>
      cases r
      obtain ⟨its, rv, ⟨o, ho, hc, n, hd⟩, _⟩ := I.tuple hs.t
      unfold pd at e
      obtain ⟨ys, e1, e2⟩ := Option.map_eq_some_iff.mp e
      subst e2
      exact .tup ho hc hd (RqA.sw I xs _ _ _ ha rv e1)
  | .dic ks xs, _, _, _, h, r, e => by
    cases h with
    | @dic a kvs _ vs _ hs hk hv ha =>
      cases r
      obtain ⟨_, ns, us, ku, o, es, ep, ho, ⟨hc, _, _⟩, hd, _, hp, _⟩ := (I.hok a _ hs : ObjOk X.prog X.w H s.heap a (.dK kvs))
      unfold pd at e
      obtain ⟨ys, e1, e2⟩ := Option.map_eq_some_iff.mp e
      subst e2
      obtain ⟨k1, k2⟩ := swa_keys (h := s.heap) hp
      obtain ⟨v1, v2⟩ := kv_vals ku
      have l : (ks.map keyP).length = ys.length := by
        rw [List.length_map, ← pds_len e1, ← RqA.length ha, ← hv, ← hk, List.length_map, List.length_map]
      refine .dic ho hc hd ns ?_ ?_
      · rw [List.map_fst_zip (Nat.le_of_eq l), ← hk, ← v1]
        exact k1
      · rw [List.map_snd_zip (Nat.le_of_eq l.symm), k2]
        subst hv
        exact RqA.sw I xs _ _ _ ha v2 e1
  | .obj _ _ _, _, _, _, _, _, e => by cases e
theorem RqA.sw (I : Inv X pins σ H s) : ∀ (xs : List Dt) (vs : List V) (us : List Value) (ys : List PyData), RqA X.K H vs xs → Vals vs us → pds xs = some ys → SwA s.heap us ys
  | [], _, _, _, h, r, e => by cases h; cases r; cases e; exact .nil
  | x :: xs, _, _, _, h, r, e => by
    cases h with
    | cons h1 h2 =>
      cases r with
      | cons r1 r2 =>
        unfold pds at e
        split at e
        · rename_i p1 p2
          cases e
          exact .cons (Rq.sw I x _ _ _ h1 r1 p1) (RqA.sw I xs _ _ _ h2 r2 p2)
        · cases e
end
end
structure OkShowQ (x : PyData) : Prop where
  sh : x.showable = true
  dp : x.depth ≤ 100
  ln : x.shown.length ≤ sizeLine
/-- .. a list of the deck too, as it stands now -/
def tqM (t : T) (M : Mem) : Option Dt := match t with
  | .mr n => (match M.D[n]? with
    | some (.lst ts) => (tqs ts).map .lst
    | _ => none)
  | t => tq t
theorem tqM_rt {K : PySem.W.Frag} {B : Bk} {M : Mem} {H : Hp} (w : Wd K B M H) {v : V} {t : T} {x : Dt} (r : Rt K B v t) (e : tqM t M = some x) : Rq K H v x := by
  unfold tqM at e
  split at e
  · split at e
    · rename_i n _ ts hD
      obtain ⟨a, rfl, ha⟩ := r
      obtain ⟨xs, e1, e2⟩ := Option.map_eq_some_iff.mp e
      subst e2
      obtain ⟨_, vs, h1, h2⟩ := w.dc _ _ _ ha hD
      exact .lst h1 (RqA.mono w.le (tqs_rt (B := { B with l := [] }) h2 e1))
    · cases e
  · exact Rq.mono w.le (tq_rt r e)
def fQRepr : FA := fun ts M Q => match ts with
  | [t] => ∃ x y, tqM t M = some x ∧ pd x = some y ∧ OkShowQ y ∧ Q (.str y.shown) M
  | _ => False
def rReprQ (K : PySem.W.Frag) : List V → Hp → VK → Prop := fun xs H Q => ∃ v x y, xs = [v] ∧ Rq K H v x ∧ pd x = some y ∧ OkShowQ y ∧ Q (.str y.shown) H
theorem cal_qrepr {K : PySem.W.Frag} : CaL K (rReprQ K) fQRepr := by
  intro xs ts M B H Q Q' h w r k
  unfold fQRepr at h
  split at h
  · obtain ⟨v, rfl, r1⟩ := paired_one r
    obtain ⟨x, y, e, e2, o, q⟩ := h
    exact ⟨v, x, y, rfl, tqM_rt w r1 e, e2, o, k _ _ M B H q w (.refl _ _) (Rp.str _)⟩
  · exact h.elim
theorem cr_qrepr {X : Cx} {k : Nat} (gd : Gd X.A) (rm : Room k X.A) : CallR X (.builtin "repr") (rReprQ X.K) := by
  intro pn sh sg hp xs us Q iv rv h
  obtain ⟨v, x, y, rfl, hd, e, ok, q⟩ := h
  cases rv with
  | cons r1 rr =>
    cases rr
    have un := rm.un
    have dp := ok.dp
    have fin : ∀ (h' : Heap) (u : Tok) (tk : Nat), (∀ b o, sh.heap.get? b = some o → h'.get? b = some o) → EP X pn sg Q (.str y.shown u) { sh with heap := h', toks := tk } := fun h' u tk z => ⟨.str y.shown, hp, iv.kept z, ⟨_, rfl⟩, q⟩
    have sw := Rq.sw iv x v _ y hd r1 e
    cases sw with
    | non => exact PySem.P.repr_of_none (fin _ _ _ fun _ _ z => z)
    | bl b => exact PySem.P.repr_of_bool (fin _ _ _ fun _ _ z => z)
    | int i t => exact PySem.P.repr_of_int (of_decide_eq_true ok.sh) (fin _ _ _ fun _ _ z => z)
    | str z t => exact PySem.P.repr_of_str (fin _ _ _ fun _ _ z => z) ok.ln
    | lst g c d r => exact Sw.repr (.lst g c d r) ok.sh ok.ln gd (by omega) fin
    | tup g c d r => exact Sw.repr (.tup g c d r) ok.sh ok.ln gd (by omega) fin
    | dic g c d n k1 k2 => exact Sw.repr (.dic g c d n k1 k2) ok.sh ok.ln gd (by omega) fin
theorem me_qrepr {X : Cx} {e : Expr} {es : List Expr} {mr : Ma} {p pos : Pos} {k : Nat} (gd : Gd X.A) (rm : Room k X.A) (hg : Gl X "repr") (hm : X.mg "repr" = none) (ha : MA X (e :: es) mr) (he : starEach (e :: es) X.env = (false, eval e X.env) :: starEach es X.env := by rfl) (hpl : (backTo pos (starEach es X.env)).any (·.1) = false := by rfl) : ME X (.Call (.Name "repr" p) (e :: es) [] pos) (mCall fQRepr mr) := me_callB (cr_qrepr gd rm) cal_qrepr hg hm (by decide +kernel) ha (by decide) (by decide) he hpl
end L3
set_option Elab.async false
set_option linter.all false
set_option maxRecDepth 100000
set_option maxHeartbeats 2000000
namespace PySem.YK
open PySem PySem.Spec PySem.HandSPX
section
variable {prog : Program} {w : World} {A : Around} {E : Value → Shared → Prop} {R : Result → Shared → Prop} {h : Heap} {g : Array GenState} {d : Drawn} {t : Nat} {os : OsState} {M : Model}
variable {nm q : Str} {C N : Addr} {bs bm bmB : List Value} {hdct : Bool} {sn : List Str} {sub : List Value} {ab : Bool} {col : Option Bool} {dd : Option Addr} {k0 k1 k2 k3 k5 : Option Value} {B newId initId : String}
end
end PySem.YK
set_option Elab.async false
set_option linter.all false
set_option maxRecDepth 100000
set_option maxHeartbeats 2000000
namespace L2
open PySem PySem.Spec PyProof.Rows
section
variable {X : Cx} {pins : List (Addr × Obj)} {σ : St} {H : Hp} {s : Shared}
end
section
variable {X : Cx} {e : Expr} {es : List Expr} {kws : List Keyword} {ta : TA} {p pos : Pos} {x : Str} {C fI : Addr} {k : Nat} {fd : FuncData} {ps : List Str} {f arg : Str}
/-- C(): a new exception of a class without an __init__ of its own -/
theorem pe_mk0 {bmB : List Value} {B newId initId : String} (F : ExcBaseFacts B newId initId bmB) (q : PySem.W.excIn X.K C bmB newId = true) (gC : X.mg x = some (.ref C)) (kC : PySem.W.keepIn X.K (.ref C) = true) (hg : Gl X x) (hdb : (x == ("__debug__" : Str)) = false := by decide) :
    PE X (.Call (.Name x p) [] [] pos) (fun σ H Q => ∀ a, H a = none → Q (.ref a) (upd H a (L3.exh a (.ref C) none))) := by
  refine ⟨fun pins s σ H Q I h => ?_⟩
  refine wpAny_Call_Name_kw (ld_glob I hg gC ?_ hdb)
  refine PySem.W.callWith_K0 I.kIn kC ?_
  show wpAny _ _ (call (.ref C) []) _ _ _
  obtain ⟨bm, N, nm, qn, bs, hdct, sn, sub, ab, col, dd, k0, k1, k2, k3, k5, mN, hC, hN, hni, T⟩ := exc_obj I.kIn q
  refine wpAny_call_exc_subT F T hC hN hni (fun h' a hm => ?_) (by show 0 ≤ sizeLine; exact Nat.zero_le _)
  have hn : H a = none := I.hok.gone hm.new
  obtain ⟨t, ht, _, _⟩ := hm.there
  exact ⟨.ref a, upd H a (L3.exh a (.ref C) none), I.laidN hm.keeps hm.new hn (L3.exh_ok ht ⟨rfl, rfl⟩ rfl), rfl, h a hn⟩
end
/-- isinstance(x, c), x an exception of a class of ours that stands as a value -/
def rIsQ (K : PySem.W.Frag) : List V → Hp → VK → Prop := fun xs H Q => ∃ (a C : Addr) (d : Option Addr) (c : V) (cv : Value) (b : Bool), L3.ExF K C ∧ xs = [.ref a, c] ∧ (∀ u, RelV c u → u = cv) ∧ PySem.W.kitOne K (.ref C) cv = some b ∧
  H a = some (L3.exh a (.ref C) d) ∧ (d = none ∨ ∃ dd fs, d = some dd ∧ H dd = some (.xd fs)) ∧ Q (.bl b) H
theorem call_isQ {X : Cx} : CallR X (.builtin "isinstance") (rIsQ X.K) := by
  intro pins s σ H xs us Q iv r h
  obtain ⟨a, C, d, c, cv, b, F, rfl, hcv, e, ha, hd, q⟩ := h
  cases r with
  | cons rx rr =>
    cases rr with
    | cons rt rr =>
      cases rr
      cases rx
      have ec := hcv _ rt
      subst ec
      obtain ⟨⟨oe, vs, hget, hz, hv⟩, _⟩ := (iv.hok a _ ha : ObjOk X.prog X.w H s.heap a (L3.exh a (.ref C) d))
      have J : ∃ od, PySem.W.InstAt s.heap a oe C od := by
        rcases hd with hd | ⟨dd, fs, hd, hx⟩
        · exact ⟨none, hget, hz.1, by unfold PySem.W.notCls; rw [hv] <;> rfl, by rw [hz.2, hd]; trivial⟩
        · obtain ⟨mA, hns, _⟩ := (iv.hok dd _ hx : ObjOk X.prog X.w H s.heap dd (.xd fs))
          obtain ⟨od, ho, _⟩ := lookIn_ns hns
          exact ⟨some od, hget, hz.1, by unfold PySem.W.notCls; rw [hv] <;> rfl, by rw [hz.2, hd]; exact ho⟩
      obtain ⟨od, J⟩ := J
      exact PySem.W.kia_one (PySem.W.kitx_exc F.cl F.ga F.gt F.su F.ha F.hn F.tk F.mo) iv.kIn J e (fun z => nomatch z) fun tk => ⟨.bl b, H, iv.kept (t' := tk) fun _ _ z => z, rfl, q⟩
end L2
namespace L3
open PySem PySem.Spec L2
end L3
set_option Elab.async false
set_option linter.all false
set_option maxRecDepth 100000
set_option maxHeartbeats 2000000
namespace L3
open PySem PySem.Spec L2
/-- the class c without an __init__ -/
def Kx0 (K : PySem.W.Frag) (mg : Str → Option Value) (c : Str) : Prop := ∃ C, mg c = some (.ref C) ∧ CA K c = some C ∧ PySem.W.keepIn K (.ref C) = true ∧ PySem.W.excIn K C tailVE "ValueError.__new__" = true
section
variable {K : PySem.W.Frag} {B : Bk} {M : Mem} {H : Hp}
theorem Wd.obj0 (w : Wd K B M H) {a C : Addr} (ha : H a = none) : ∃ B', Wd K B' M (upd H a (exh a (.ref C) none)) ∧ Ext B H B' (upd H a (exh a (.ref C) none)) ∧ B'.G a = some (exh a (.ref C) none) := by
  obtain ⟨w2, e2⟩ := w.alloc ha (exh a (.ref C) none)
  exact ⟨_, w2, e2, upd_same⟩
theorem Wd.obj1 (w : Wd K B M H) {a dx C : Addr} {f : Str} {v : V} {x : Dt} (ha : H a = none) (hd : H dx = none) (ne : dx ≠ a) (r : Rq K B.G v x) :
    ∃ B', Wd K B' M (upd (upd H dx (.xd [(f, v)])) a (exh a (.ref C) (some dx))) ∧ Ext B H B' (upd (upd H dx (.xd [(f, v)])) a (exh a (.ref C) (some dx))) ∧
      B'.G a = some (exh a (.ref C) (some dx)) ∧ B'.G dx = some (.xd [(f, v)]) ∧ Rq K B'.G v x := by
  obtain ⟨w2, e2⟩ := w.alloc hd (.xd [(f, v)])
  have ha2 : (upd H dx (.xd [(f, v)])) a = none := by rw [upd_ne (Ne.symm ne)]; exact ha
  obtain ⟨w3, e3⟩ := w2.alloc ha2 (exh a (.ref C) (some dx))
  refine ⟨_, w3, e2.trans e3, upd_same, ?_, Rq.mono (e2.trans e3).g r⟩
  exact e3.g dx _ upd_same
end
def mMk0 (c : Str) : Me := fun _ M Q => Q (.q (.obj c [] [])) M
section
variable {X : Cx} {e : Expr} {es : List Expr} {kws : List Keyword} {mr : Ma} {p pos : Pos} {x f arg : Str} {k : Nat}
theorem me_mk0 (T : Kx0 X.K X.mg x) (hg : Gl X x) (hdb : (x == ("__debug__" : Str)) = false := by decide) : ME X (.Call (.Name x p) [] [] pos) (mMk0 x) := by
  obtain ⟨C, gC, hC, kC, q⟩ := T
  refine PE.of (pe_mk0 PySem.F.excBase_ValueError q gC kC hg hdb) fun σ H Q' ⟨τ, M, B, Q, h, w, s, kk⟩ => ?_
  intro a ha
  obtain ⟨B2, w2, e2, g1⟩ := w.obj0 (C := C) ha
  exact kk _ _ M B2 _ h w2 e2 (Rq.obj hC g1)
end
/-- what isinstance says of the objects of the classes in tab, asked for D -/
def IsqT (K : PySem.W.Frag) (D : V) (tab : List (Str × Bool)) : Prop := (∃ cv, ∀ u, RelV D u → u = cv) ∧ ∀ r ∈ tab, ∀ C, CA K r.1 = some C → ExF K C ∧ ∀ cv, RelV D cv → PySem.W.kitOne K (.ref C) cv = some r.2
def tyQ : Dt → Option String
  | .non => some "NoneType"
  | .bl _ => some "bool"
  | .int _ => some "int"
  | .str _ => some "str"
  | .lst _ => some "list"
  | .tup _ => some "tuple"
  | .dic _ _ => some "dict"
  | .obj _ _ _ => none
theorem tyQ_of {K : PySem.W.Frag} {G H : Hp} (le : ∀ a o, G a = some o → H a = some o) {v : V} {x : Dt} {a : String} (r : Rq K G v x) (e : tyQ x = some a) : TyX K H v (.type a) := by
  cases r with
  | non => cases e; exact .base .non
  | bl b => cases e; exact .base (.bl b)
  | int i => cases e; exact .base (.int i)
  | str s => cases e; exact .base (.str s)
  | lst g _ => cases e; exact .base (.lst (le _ _ g))
  | tup g _ =>
    cases e
    rcases g with ⟨o, g, _⟩ | ⟨o, its, n, g1, g2, _⟩
    · exact .fTuple (le _ _ g)
    · exact .kTuple g1 g2
  | dic g _ _ _ => cases e; exact .base (.dK (le _ _ g))
  | obj _ _ => cases e
  | obj1 _ _ _ _ => cases e
  | ins _ _ => cases e
section
variable {X : Cx} {e : Expr} {m : Me} {ty : Str} {T0 : String} {p p2 pos : Pos} {tab : List (Str × Bool)}
theorem cv_of {D : V} {cv : Value} (hcv : ∀ u, RelV D u → u = cv) : RelV D cv := by
  cases D with
  | non => exact (hcv .none rfl) ▸ rfl
  | bl b => exact (hcv (.bool b) rfl) ▸ rfl
  | int z => exact (hcv (.int z 0) ⟨0, rfl⟩) ▸ ⟨0, rfl⟩
  | str z => exact (hcv (.str z 0) ⟨0, rfl⟩) ▸ ⟨0, rfl⟩
  | byt z => exact (hcv (.bytes z 0) ⟨0, rfl⟩) ▸ ⟨0, rfl⟩
  | flt z => exact (hcv (.float z 0) ⟨0, rfl⟩) ▸ ⟨0, rfl⟩
  | ref z => exact (hcv (.ref z) rfl) ▸ rfl
  | ty z => exact (hcv (.type z) rfl) ▸ rfl
theorem isq_obj {K : PySem.W.Frag} {B : Bk} {M : Mem} {H : Hp} {D v : V} {c : Str} {fs : List Str} {xs : List Dt} {b : Bool} {Q : VK} (w : Wd K B M H) (T : IsqT K D tab) (hr : (c, b) ∈ tab) (r : Rq K B.G v (.obj c fs xs)) (ni : fs.length = xs.length) (q : Q (.bl b) H) : rIsQ K [v, D] H Q := by
  obtain ⟨⟨cv, hcv⟩, hT⟩ := T
  cases r with
  | obj hC g =>
    obtain ⟨F, hk⟩ := hT _ hr _ hC
    exact ⟨_, _, _, D, cv, b, F, rfl, hcv, hk cv (cv_of hcv), w.le _ _ g, .inl rfl, q⟩
  | obj1 hC g g2 _ =>
    obtain ⟨F, hk⟩ := hT _ hr _ hC
    exact ⟨_, _, _, D, cv, b, F, rfl, hcv, hk cv (cv_of hcv), w.le _ _ g, .inr ⟨_, _, rfl, w.le _ _ g2⟩, q⟩
  | ins hC g => simp at ni
end
end L3
namespace L3
open PySem PySem.Spec L2 PyProof.Rows PySem.Calls
def exqB (K : PySem.W.Frag) (c : Str) : Bool := match CA K c with
  | some C => decide (PySem.W.keepIn K (.ref C) = true) && (decide (PySem.W.subIn K (.ref C) (.type "BaseException") = some true) && (decide (PySem.W.typeIn K (.ref C) = some (.type "type")) && (decide (PySem.W.isClsIn K C = true) &&
      (decide (PySem.W.findIn K (.ref C) "__getattribute__" = some (some (.builtin "BaseException.__getattribute__"))) && (decide (PySem.W.findIn K (.ref C) "__getattr__" = some none) && (decide (PySem.W.findIn K (.ref C) "__class__" = some (some (.builtin "object.__class__"))) &&
      (decide (PySem.W.specialIn K (.builtin "object.__class__") "__get__" = some (some (.builtin "getset_descriptor.__get__"))) && (decide (PySem.W.takesIn K (.builtin "object.__class__") = some true) && decide (PySem.W.mroIn K C (.type "object") = some true)))))))))
  | none => false
theorem exqB_ok {K : PySem.W.Frag} {c : Str} {C : Addr} (h : exqB K c = true) (e : CA K c = some C) : ExF K C := by
  unfold exqB at h
  rw [e] at h
  simp only [Bool.and_eq_true, decide_eq_true_eq] at h
  obtain ⟨h1, h2, h3, h4, h5, h6, h7, h8, h9, h10⟩ := h
  exact exf_of h1 h2 h3 h4 h5 h6 h7 h8 h9 h10
def isqB (K : PySem.W.Frag) (v : Value) (tab : List (Str × Bool)) : Bool := tab.all fun r => match CA K r.1 with
  | some C => decide (PySem.W.kitOne K (.ref C) v = some r.2)
  | none => false
theorem isqT_of {K : PySem.W.Frag} {D : V} {v : Value} {tab : List (Str × Bool)} (hD : ∀ u, RelV D u → u = v) (h1 : (tab.map (·.1)).all (exqB K) = true) (h2 : isqB K v tab = true) : IsqT K D tab := by
  refine ⟨⟨v, hD⟩, fun r hr C hC => ⟨?_, fun cv rv => ?_⟩⟩
  · rw [List.all_eq_true] at h1
    exact exqB_ok (h1 _ (List.mem_map_of_mem hr)) hC
  · unfold isqB at h2
    rw [List.all_eq_true] at h2
    have := h2 r hr
    rw [hC] at this
    rw [hD _ rv]
    exact of_decide_eq_true this
end L3
set_option Elab.async false
set_option linter.all false
set_option maxRecDepth 100000
set_option maxHeartbeats 1000000
namespace L3
open PySem PySem.Spec L2
def goLcQ (g : Mg) (c : Mb) (m : Me) (τ0 : En) (Q : List Dt → Mem → Prop) : List T → List Dt → Mem → Prop
  | [], acc, M => Q acc M
  | t :: ts, acc, M => g t τ0 M fun τ1 M1 => c τ1 M1 fun k M2 => if k = true then m τ1 M2 fun y M3 => ∃ z, tq y = some z ∧ acc.length < sizeLine ∧ goLcQ g c m τ0 Q ts (acc ++ [z]) M3 else goLcQ g c m τ0 Q ts acc M2
def mQLc (i : Mi) (g : Mg) (c : Mb) (m : Me) (vs : List Nat) : Me := fun τ M Q => i τ M fun ts M1 => goLcQ g c m (wipeT τ vs) (fun acc M2 => Q (.q (.lst acc)) M2) ts [] M1
section
variable {X : Cx} {e c tg : Expr} {m : Me} {mr : Ma} {pos : Pos}
theorem lc_genQ {K : PySem.W.Frag} {i : Mi} {g : Mg} {os : List Nat} {mc : Mb} {vs0 : List Nat} {σ : L2.St} {H : Hp} {Q' : VK} {τ : En} {M : Mem} {B : Bk} {Qf : List Dt → Mem → Prop} (sub : ∀ j ∈ os, j ∈ vs0)
    (h : i τ M fun ts M1 => goLcQ g mc m (wipeT τ vs0) Qf ts [] M1) (w : Wd K B M H) (sl : Sl K B σ τ)
    (k : ∀ (D : Addr) (acc : List Dt) (vs : List V) (M2 : Mem) (B2 : Bk) (H2 : Hp), Qf acc M2 → H D = none → Wd K B2 M2 H2 → Ext B H B2 H2 → H2 D = some (.lst vs) → RqA K B2.G vs acc → B2.G D = none → D ∉ B2.r → D ∉ B2.l → Q' (.ref D) H2) :
    tLc (rI K i) (rG K os g) (rB K mc) (rE K m) vs0 σ H Q' := by
  refine ⟨τ, M, B, _, h, w, sl, fun ts M1 B1 H1 J h1 w1 e1 W D hD => ?_⟩
  obtain ⟨dG, dr, dl⟩ := w1.fresh hD
  have sw := (sl.mono e1).wipe vs0
  refine lc_it W (fun i H2 => ∃ acc vs M2 B2, goLcQ g mc m (wipeT τ vs0) Qf (ts.drop i) acc M2 ∧ Wd K B2 M2 H2 ∧ Ext B1 H1 B2 H2 ∧ H2 D = some (.lst vs) ∧ RqA K B2.G vs acc ∧ B2.G D = none ∧ D ∉ B2.r ∧ D ∉ B2.l) ?_ ?_ ?_ ?_
  · exact ⟨[], [], M1, B1, h1, w1.side hD _, .side hD _, upd_same, .nil, dG, dr, dl⟩
  · rintro i H2 _ ⟨acc, vs, M2, B2, _, w2, e2, _⟩ a o z
    exact w2.le a o (e2.g a o z)
  · rintro i x H2 H3 hlt ⟨acc, vs, M2, B2, h2, w2, e2, d2, r2, g2, n2, l2⟩ y
    obtain ⟨B3, w3, e3, r3⟩ := WalkT.step hlt w2 e2 y
    rw [drop_at hlt, goLcQ] at h2
    have keepD : ∀ {B4 : Bk} {H4 : Hp}, Ext B2 H2 B4 H4 → H4 D = some (.lst vs) ∧ B4.G D = none ∧ D ∉ B4.r ∧ D ∉ B4.l := fun {B4 H4} e4 => by
      refine ⟨e4.fr D _ d2 n2 l2, ?_, fun z => ?_, fun z => ?_⟩
      · cases q : B4.G D with
        | none => rfl
        | some o =>
          rcases e4.gf D o q with z | z | z
          · rw [g2] at z; cases z
          · rw [d2] at z; cases z
          · exact absurd z l2
      · rcases e4.rn D z with q | q
        · exact n2 q
        · rw [d2] at q; cases q
      · rcases e4.ln D z with q | q
        · exact l2 q
        · rw [d2] at q; cases q
    refine ⟨ts[i], wipeT τ vs0, M2, B3, _, h2, w3, (sw.mono e2).mono e3, r3, fun τ4 M4 B4 σ4 H4 h4 w4 e4 s4 a4 => ⟨a4.wipe sub, ?_⟩⟩
    refine ⟨τ4, M4, B4, _, h4, w4, s4, fun k5 M5 B5 H5 h5 w5 e5 => ?_⟩
    have e25 := e3.trans (e4.trans e5)
    cases k5 with
    | false =>
      obtain ⟨q1, q2, q3, q4⟩ := keepD e25
      exact ⟨acc, vs, M5, B5, h5, w5, e2.trans e25, q1, RqA.mono e25.g r2, q2, q3, q4⟩
    | true =>
      refine ⟨τ4, M5, B5, _, h5, w5, s4.mono e5, fun v t M6 B6 H6 h6 w6 e6 r6 => ?_⟩
      obtain ⟨z, hz, h6⟩ := h6
      · have e26 := e25.trans e6
        obtain ⟨q1, q2, q3, q4⟩ := keepD e26
        refine ⟨vs, q1, by rw [RqA.length r2]; exact h6.1, acc ++ [z], vs ++ [v], M6, B6, h6.2, ?_, ?_, upd_same, RqA.append (RqA.mono e26.g r2) (.cons (tq_rt r6 hz) .nil), q2, q3, q4⟩
        · -- the world does not know D
          refine ⟨fun a u z => ?_, w6.rlen, w6.llen, w6.nd, fun j a c z1 z2 => ?_, fun j a ds z1 z2 => ?_, fun a ha => ?_⟩
          · rw [upd_ne (ne_of_none z q2)]
            exact w6.le a u z
          · obtain ⟨p1, p2⟩ := w6.dc j a c z1 z2
            exact ⟨p1, CellAt.mono (fun _ _ e => e) (List.prefix_refl _) (upd_ne fun z => q3 (by rw [← z]; exact mem_of_get z1)) p2⟩
          · obtain ⟨p1, xs, p2, p3⟩ := w6.lc j a ds z1 z2
            exact ⟨p1, xs, (upd_ne fun z => q4 (by rw [← z]; exact mem_of_get z1)).trans p2, p3⟩
          · rw [upd_ne fun z => ?_]
            · exact w6.tr a ha
            · rw [z] at ha
              exact (List.mem_append.mp ha).elim q3 q4
        · have x6 := e2.trans e26
          refine ⟨x6.g, x6.r, x6.l, fun a u z n1 n2 => ?_, fun a z => ?_, x6.rn, x6.ln, x6.gf⟩
          · rw [upd_ne (ne_of_none z hD)]
            exact x6.fr a u z n1 n2
          · by_cases q : a = D
            · rw [q]
              exact hD
            · rw [upd_ne q] at z
              exact x6.tr a z
  · rintro H2 ⟨acc, vs, M2, B2, h2, w2, e2, d2, r2, g2, n2, l2⟩
    rw [List.drop_length] at h2
    exact k D acc vs M2 B2 H2 h2 (e1.tr D hD) w2 (e1.trans e2) d2 r2 g2 n2 l2
theorem lc_ofQ {K : PySem.W.Frag} {i : Mi} {g : Mg} {os : List Nat} {mc : Mb} {vs0 : List Nat} {σ : L2.St} {H : Hp} {Q' : VK} (sub : ∀ j ∈ os, j ∈ vs0) (h : rE K (mQLc i g mc m vs0) σ H Q') : tLc (rI K i) (rG K os g) (rB K mc) (rE K m) vs0 σ H Q' := by
  obtain ⟨τ, M, B, Q, h, w, sl, k⟩ := h
  refine lc_genQ sub h w sl fun D acc vs M2 B2 H2 h2 hD w2 e2 d2 r2 g2 n2 l2 => ?_
  rcases Ext.adoptG (o := .lst vs) hD e2 with x | x
  · exact k _ _ M2 _ H2 h2 (w2.adoptG g2 n2 l2 d2) x (Rq.lst upd_same (RqA.mono (upd_keep g2) r2))
  · exact absurd g2 x
section
variable {elt : Expr} {ifs : List Expr} {scope : Scope} {own : List (Str × Nat)} {i : Mi} {g : Mg} {os : List Nat} {mc : Mb}
theorem me_lcQ (hc : X.calm = true) (hN : X.N.Nodup) (hi : MI X tg e i) (ok : BlkOk X.N X.env.scope scope own)
    (hg : ∀ (s : Shared) (H : Hp) (C : Addr) (cl : List (Str × Addr)) (fp : List Addr), MG (X.blk s H scope (compEnvC scope cl C X.env) fp) tg os g) (ht : ∀ (s : Shared) (H : Hp) (C : Addr) (cl : List (Str × Addr)) (fp : List Addr), MTs (X.blk s H scope (compEnvC scope cl C X.env) fp) ifs mc)
    (he : ∀ (s : Shared) (H : Hp) (C : Addr) (cl : List (Str × Addr)) (fp : List Addr), ME (X.blk s H scope (compEnvC scope cl C X.env) fp) elt m) (sub : ∀ j ∈ os, j ∈ own.map (·.2)) (hs : ∀ x, foldedSetIterable e X.env x = pure x := by intro _; rfl) :
    ME X (.ListComp elt [⟨tg, e, ifs, 0⟩] scope pos) (mQLc i g mc m (own.map (·.2))) := PE.of (pe_lc (te := rE X.K m) (tt := rB X.K mc) (g := rG X.K os g) hc hN hi ok hg ht he hs) fun _ _ _ h => lc_ofQ sub h
variable {n : Nat} {y : Str} {py spos : Pos}
theorem ms_setLcQ (hc : X.calm = true) (hN : X.N.Nodup) (hy : X.N[n]? = some y) (hyl : X.env.scope.names.lookup y = some .local)
    (hsw : swapsWith (.ListComp elt [⟨tg, e, ifs, 0⟩] scope pos) (some (.Name y py)) spos.line X.env = pure true) (hi : MI X tg e i) (ok : BlkOk X.N X.env.scope scope own)
    (hg : ∀ (s : Shared) (H : Hp) (C : Addr) (cl : List (Str × Addr)) (fp : List Addr), MG (X.blk s H scope (compEnvC scope cl C X.env) fp) tg os g) (ht : ∀ (s : Shared) (H : Hp) (C : Addr) (cl : List (Str × Addr)) (fp : List Addr), MTs (X.blk s H scope (compEnvC scope cl C X.env) fp) ifs mc)
    (he : ∀ (s : Shared) (H : Hp) (C : Addr) (cl : List (Str × Addr)) (fp : List Addr), ME (X.blk s H scope (compEnvC scope cl C X.env) fp) elt m) (sub : ∀ j ∈ os, j ∈ own.map (·.2)) (hs : ∀ x, foldedSetIterable e X.env x = pure x := by intro _; rfl) :
    MS X (.Assign [.Name y py] (.ListComp elt [⟨tg, e, ifs, 0⟩] scope pos) spos) (mSet n (mQLc i g mc m (own.map (·.2)))) := PS.of (L2.ps_setLc (te := rE X.K m) (tt := rB X.K mc) (g := rG X.K os g) hc hN hy hyl hsw hi ok hg ht he hs) fun D σ H ⟨E, τ, M, B, h, w, sl, go⟩ =>
  lc_ofQ sub ⟨τ, M, B, _, h, w, sl, fun v t M1 B1 H1 h1 w1 e1 r1 => go.nx _ M1 B1 _ H1 h1 w1 e1 ((sl.mono e1).set n r1)⟩
end
end
def keyQ : T → Option Key
  | .d (.int i) => some (.inl i)
  | .d (.str x) => some (.inr x)
  | _ => none
def goQD : List (Me × Me) → En → Mem → (List (Key × Dt) → Mem → Prop) → Prop
  | [], _, M, Q => Q [] M
  | (a, b) :: r, τ, M, Q => a τ M fun kt M1 => ∃ k, keyQ kt = some k ∧ b τ M1 fun t M2 => ∃ x, tq t = some x ∧ goQD r τ M2 fun kts M3 => Q ((k, x) :: kts) M3
def mQDic (ps : List (Me × Me)) : Me := fun τ M Q => goQD ps τ M fun kts M1 => ((kts.map (·.1)).Nodup ∧ kts.length ≤ 15) ∧ Q (.q (.dic (kts.map (·.1)) (kts.map (·.2)))) M1
theorem me_qdic0 {X : Cx} {pos : Pos} : ME X (.Dict [] [] pos) (mQDic []) := PE.of pe_dnewK fun σ H Q' ⟨τ, M, B, Q, h, w, s, k⟩ => by
  intro p hp
  obtain ⟨w2, e2⟩ := w.alloc hp (.dK [])
  exact k _ _ M _ _ h.2 w2 e2 (Rq.dic (kvs := []) upd_same rfl rfl .nil)
end L3
set_option Elab.async false
set_option linter.all false
set_option maxRecDepth 100000
namespace L3
open PySem PySem.Spec L2
end L3
set_option Elab.async false
set_option linter.all false
set_option maxRecDepth 100000
set_option maxHeartbeats 2000000
namespace L3
open PySem PySem.Spec L2 PySem.W
section
variable {X : Cx} {e : Expr} {body : List Stmt} {elts : List Expr} {kk : Nat} {tpos apos cpos pos : Pos} {os : List Nat} {g : Mg} {b : Ms} {s : Nat}
end
end L3
set_option Elab.async false
set_option linter.all false
set_option maxRecDepth 100000
set_option maxHeartbeats 2000000
namespace L3
open PySem PySem.Spec L2 PySem.W
def lookK (kvs : List (PyData × T)) (k : NestedKey) : Option T := (kvs.find? fun kv => decide (nk kv.1 = some k)).map (·.2)
def putK (kvs : List (PyData × T)) (d : PyData) (k : NestedKey) (t : T) : List (PyData × T) :=
  if (lookK kvs k).isSome then kvs.map fun kv => if nk kv.1 = some k then (kv.1, t) else kv else kvs ++ [(d, t)]
abbrev KdT (K : PySem.W.Frag) (B : Bk) (es : List (NestedKey × Addr × V)) (kvs : List (PyData × T)) : Prop := Paired (fun (p : NestedKey × Addr × V) (q : PyData × T) => nk q.1 = some p.1 ∧ okKey 8 p.1 = true ∧ Rp K B.G (.ref p.2.1) q.1 ∧ Rt K { B with l := [] } p.2.2 q.2) es kvs
theorem nk_iff {d : PyData} {p k : NestedKey} (f : nk d = some p) : nk d = some k ↔ p = k := by
  rw [f]
  exact ⟨fun h => Option.some.inj h, fun h => by rw [h]⟩
theorem KdT.look {K : PySem.W.Frag} {B : Bk} {es : List (NestedKey × Addr × V)} {kvs : List (PyData × T)} (r : KdT K B es kvs) (k : NestedKey) : (lookE es k).isSome = (lookK kvs k).isSome ∧ ∀ t, lookK kvs k = some t → ∃ v, lookE es k = some v ∧ Rt K { B with l := [] } v t := by
  unfold KdT at r
  induction r with
  | nil => exact ⟨rfl, fun t e => (nomatch e)⟩
  | @cons p q ps qs f _ ih =>
    by_cases z : p.1 = k
    · have e1 : lookE (p :: ps) k = some p.2.2 := by simp [lookE, List.find?_cons, z]
      have e2 : lookK (q :: qs) k = some q.2 := by simp [lookK, List.find?_cons, (nk_iff f.1).mpr z]
      rw [e1, e2]
      exact ⟨rfl, fun t e => by cases e; exact ⟨_, rfl, f.2.2.2⟩⟩
    · have z2 : ¬ nk q.1 = some k := fun y => z ((nk_iff f.1).mp y)
      have e1 : lookE (p :: ps) k = lookE ps k := by simp [lookE, List.find?_cons, z]
      have e2 : lookK (q :: qs) k = lookK qs k := by simp [lookK, List.find?_cons, z2]
      rw [e1, e2]
      exact ih
theorem KdT.repl {K : PySem.W.Frag} {B : Bk} {es : List (NestedKey × Addr × V)} {kvs : List (PyData × T)} (r : KdT K B es kvs) (k : NestedKey) {v : V} {t : T} (rv : Rt K { B with l := [] } v t) :
    KdT K B (es.map fun e => if e.1 = k then (e.1, e.2.1, v) else e) (kvs.map fun kv => if nk kv.1 = some k then (kv.1, t) else kv) := by
  unfold KdT at r
  induction r with
  | nil => exact .nil
  | @cons p q ps qs f _ ih =>
    refine .cons ?_ ih
    by_cases z : p.1 = k
    · have e1 : (fun e : NestedKey × Addr × V => if e.1 = k then (e.1, e.2.1, v) else e) p = (p.1, p.2.1, v) := if_pos z
      have e2 : (fun kv : PyData × T => if nk kv.1 = some k then (kv.1, t) else kv) q = (q.1, t) := if_pos ((nk_iff f.1).mpr z)
      rw [e1, e2]
      exact ⟨f.1, f.2.1, f.2.2.1, rv⟩
    · have e1 : (fun e : NestedKey × Addr × V => if e.1 = k then (e.1, e.2.1, v) else e) p = p := if_neg z
      have e2 : (fun kv : PyData × T => if nk kv.1 = some k then (kv.1, t) else kv) q = q := if_neg fun y => z ((nk_iff f.1).mp y)
      rw [e1, e2]
      exact f
theorem KdT.put {K : PySem.W.Frag} {B : Bk} {es : List (NestedKey × Addr × V)} {kvs : List (PyData × T)} (r : KdT K B es kvs) {d : PyData} {k : NestedKey} {b : Addr} (hd : nk d = some k) (hk : okKey 8 k = true) (hb : Rp K B.G (.ref b) d) {v : V} {t : T} (rv : Rt K { B with l := [] } v t) :
    KdT K B (putE es k b v) (putK kvs d k t) := by
  unfold putE putK
  rw [(r.look k).1]
  split
  · exact r.repl k rv
  · exact Paired.snoc r ⟨hd, hk, hb, rv⟩
theorem KdT.at {K : PySem.W.Frag} {B : Bk} {M : Mem} {H : Hp} {es : List (NestedKey × Addr × V)} {kvs : List (PyData × T)} (w : Wd K B M H) (r : KdT K B es kvs) : ∀ e ∈ es, KeyAt K H e.2.1 e.1 := by
  unfold KdT at r
  induction r with
  | nil => intro e he; cases he
  | @cons p q ps qs f _ ih =>
    intro e he
    rcases List.mem_cons.mp he with z | he
    · subst z
      exact ⟨f.2.1, _, f.1, w.rp f.2.2.1⟩
    · exact ih e he
section
variable {X : Cx} {o i e f value : Expr} {mo mi mv mz : Me} {pos pos' apos cpos : Pos} {kk : Nat}
end
end L3
set_option Elab.async false
set_option linter.all false
set_option maxRecDepth 100000
set_option maxHeartbeats 2000000
namespace L3
open PySem PySem.Spec L2 PySem.W
section
variable {P : Program} {w : World} {K : PySem.W.Frag} {elts : List Expr} {kk : Nat} {tpos : Pos} {d : Addr} {o : Obj} {es : Ents} {ds : Array DictEntry} {ep : Nat}
end
section
variable {X : Cx} {e : Expr} {body : List Stmt} {elts : List Expr} {kk : Nat} {tpos apos cpos pos : Pos} {os : List Nat} {g : Mg} {b : Ms} {s : Nat}
end
end L3
set_option Elab.async false
set_option linter.all false
set_option maxRecDepth 100000
set_option maxHeartbeats 2000000
namespace L3
open PySem PySem.Spec L2 PySem.W
section
variable {X : Cx} {o e f : Expr} {mo mi mz : Me} {apos cpos pos : Pos}
end
end L3
set_option Elab.async false
set_option linter.all false
set_option maxRecDepth 100000
set_option maxHeartbeats 2000000
namespace L3
open PySem PySem.Spec L2 PySem.W
section
variable {X : Cx} {elt e : Expr} {elts : List Expr} {kk : Nat} {tpos apos cpos pos : Pos} {ifs : List Expr} {scope : Scope} {own : List (Str × Nat)} {os : List Nat} {g : Mg} {mc : Mb} {m : Me} {s : Nat}
end
end L3
set_option Elab.async false
set_option linter.all false
set_option maxRecDepth 100000
set_option maxHeartbeats 1000000
namespace L3
open PySem PySem.Spec L2 PySem.W
end L3
set_option Elab.async false
set_option linter.all false
set_option maxRecDepth 100000
set_option maxHeartbeats 2000000
namespace L3
open PySem PySem.Spec L2 PySem.W PyProof.Rows
section
variable {X : Cx}
end
end L3
set_option Elab.async false
set_option linter.all false
set_option maxRecDepth 100000
set_option maxHeartbeats 2000000
namespace L3
open PySem PySem.Spec L2 PySem.W
end L3
set_option Elab.async false
set_option linter.all false
set_option maxRecDepth 100000
set_option maxHeartbeats 2000000
namespace L3
open PySem PySem.Spec L2 PySem.W
section
variable {K : Type} [DecidableEq K] {prog : Program} {w : World} {A : Around} {E : Value → Shared → Prop} {s : Shared} {knd : HeapKind prog w K}
end
end L3
set_option Elab.async false
set_option linter.all false
set_option maxRecDepth 100000
namespace L3
open PySem PySem.Spec L2 Sh
end L3
set_option Elab.async false
set_option linter.all false
set_option maxRecDepth 100000
set_option maxHeartbeats 4000000
namespace L3
open PySem PySem.Spec L2 PySem.W PyProof.Rows
section
variable {P : Program} {w : World} {A : Around} {E : Value → Shared → Prop} {s : Shared}
end
end L3
set_option Elab.async false
set_option linter.all false
set_option maxRecDepth 100000
namespace L3
open PySem PySem.Spec L2 PySem.W
section
variable {P : Program} {w : World} {K : PySem.W.Frag} {mg : Str → Option Value} {base : Heap} {k : Nat} {f : Addr} {fd : FuncData} {ps : List Str} {m : FX}
end
end L3
set_option Elab.async false
set_option linter.all false
set_option maxRecDepth 100000
namespace L3
open PySem PySem.Spec L2 PySem.W
section
variable {X : Cx}
end
end L3
set_option Elab.async false
set_option linter.all false
set_option maxRecDepth 100000
set_option maxHeartbeats 2000000
namespace SrtV
open PySem PySem.Spec PyProof.Rows TS Srt SrtO
section
variable {P : Program} {w : World} {A : Around} {E : Value → Shared → Prop} {s : Shared}
end
end SrtV
namespace L3
open PySem PySem.Spec L2 PyProof.Rows
end L3
set_option Elab.async false
set_option linter.all false
set_option maxRecDepth 100000
set_option maxHeartbeats 2000000
namespace L3
open PySem PySem.Spec L2 PySem.W
section
open PyProof.Rows HT
variable {X : Cx} {e : Expr} {te : TE} {p pos tpos p1 p2 : Pos} {elts : List Expr} {kk : Nat}
end
end L3
set_option Elab.async false
set_option linter.all false
set_option maxRecDepth 100000
set_option maxHeartbeats 2000000
namespace L3
open PySem PySem.Spec L2 PySem.W
def goEnQ (i j : Nat) (b : Ms) (E : Es) : Nat → List Dt → En → Mem → Prop
  | _, [], τ, M => E.nx τ M
  | k, x :: xs, τ, M => b { E with nx := goEnQ i j b E (k + 1) xs, ct := goEnQ i j b E (k + 1) xs, bk := E.nx } ((τ.set i (some (.int (k : Int)))).set j (some (inj x))) M
def mForEnQ (m : Me) (i j : Nat) (b : Ms) : Ms := fun E τ M => m τ M fun t M1 => match tq t with
  | some (.lst xs) => goEnQ i j b E 0 xs τ M1
  | some (.tup xs) => goEnQ i j b E 0 xs τ M1
  | _ => False
def iEnQ (K : PySem.W.Frag) (te : TE) : TI := fun σ H R => te σ H fun x H1 => ∃ k a xs, [x] = [V.ref a] ∧ srcS K k H1 a xs ∧ ∀ e it, e ≠ a → it ≠ a → R (ItN xs.length (fun H => srcS K k H a xs ∧ a ≠ e ∧ a ≠ it) fun i => [.int (i : Int), xs.getD i .non]) H1
section
open PyProof.Rows HT
variable {X : Cx} {e : Expr} {te : TE} {p pos tpos p1 p2 : Pos} {elts : List Expr} {kk : Nat}
theorem pi_enQ (hg : Gl X "enumerate") (hm : X.mg "enumerate" = none) (he : PE X e te) (hs : starEach [e] X.env = [(false, eval e X.env)] := by rfl) :
    PI X (.Tuple elts kk tpos) (.Call (.Name "enumerate" p) [e] [] pos) (iEnQ X.K te) := by
  refine ⟨fun pn sh sg hp R iv h => ?_⟩
  let P := fun (vs : List V) (H1 : Hp) => ∃ k a xs, vs = [V.ref a] ∧ srcS X.K k H1 a xs ∧ ∀ e it, e ≠ a → it ≠ a → R (ItN xs.length (fun H => srcS X.K k H a xs ∧ a ≠ e ∧ a ≠ it) fun i => [.int (i : Int), xs.getD i .non]) H1
  have hx : PA X [e] (tCons te tNil) := pa_cons he pa_nil hs
  refine Call_ (ld_blt iv hg hm boot_enumerate (PyProof.Rows.callWith_type1 (thn (hx.run pos pn sh sg hp P iv h) fun us s1 ⟨vs, H1, I1, r1, kd, a, xs, e0, hxa, k⟩ => ?_) hs rfl))
  subst e0
  cases r1 with
  | cons r rr =>
    cases rr
    cases r
    exact pie_enumS I1 (k := kd) hxa k
theorem rqa_nth {K : PySem.W.Frag} {G : Hp} : ∀ {vs : List V} {xs : List Dt}, RqA K G vs xs → ∀ {i : Nat} (hi : i < xs.length), Rq K G (vs.getD i .non) xs[i]
  | _, _, .nil, _, h => by cases h
  | _, _, .cons p _, 0, _ => p
  | _, _, .cons _ q, i + 1, h => rqa_nth q (by simpa using h)
theorem ms_forEnQ {cpos : Pos} {m : Me} {b : Ms} {body : List Stmt} {i j : Nat} {x1 x2 : Str} (hp : PassesOwn (model X.prog X.w) X.A X.env X.xe) (hc : X.calm = true) (hN : X.N.Nodup) (hg : Gl X "enumerate") (hm : X.mg "enumerate" = none) (he : ME X e m)
    (h1 : PG X (.Name x1 p1) (gName i)) (h2 : PG X (.Name x2 p2) (gName j)) (hb : MSs X body b)
    (hs1 : (assignEach [.Name x1 p1, .Name x2 p2] X.env).map (·.2) = assign (.Name x1 p1) X.env :: (assignEach [.Name x2 p2] X.env).map (·.2) := by rfl)
    (hs2 : (assignEach [.Name x2 p2] X.env).map (·.2) = assign (.Name x2 p2) X.env :: (assignEach [] X.env).map (·.2) := by rfl)
    (hn : (assignEach [.Name x1 p1, .Name x2 p2] X.env).length = 2 := by rfl) (hst : (assignEach [.Name x1 p1, .Name x2 p2] X.env).findIdx? (·.1) = none := by rfl)
    (hse : starEach [e] X.env = [(false, eval e X.env)] := by rfl) (hs : ∀ x, foldedSetIterable (.Call (.Name "enumerate" p) [e] [] cpos) X.env x = pure x := by intro _; rfl) :
    MS X (.For (.Tuple [.Name x1 p1, .Name x2 p2] kk tpos) (.Call (.Name "enumerate" p) [e] [] cpos) body [] pos) (mForEnQ m i j b) :=
  PS.of (ps_for hp hc (pi_enQ hg hm he hse) (pg_tup hc (pgs_cons h1 (pgs_cons h2 pgs_nil hs2) hs1) hn hst) hb hs) fun D σ H ⟨E, τ, M, B, h, w, sl, go⟩ => by
  refine ⟨τ, M, B, _, h, w, sl, fun v t M1 B1 H1 h1 w1 e1 r1 => ?_⟩
  obtain ⟨xs, kd, a, vs, rfl, hsrc, hq, q⟩ : ∃ xs kd a vs, v = .ref a ∧ srcS X.K kd B1.G a vs ∧ RqA X.K B1.G vs xs ∧ goEnQ i j b E 0 xs τ M1 := by
    split at h1
    · rename_i ht
      cases tq_rt r1 ht with
      | lst e q => exact ⟨_, .l, _, _, rfl, .inl (.inl e), q, h1⟩
    · rename_i ht
      cases tq_rt r1 ht with
      | tup e q => exact ⟨_, .t, _, _, rfl, e.t, q, h1⟩
    · exact h1.elim
  refine ⟨kd, a, vs, rfl, srcS_mono w1.le hsrc, fun en it n1 n2 => ?_⟩
  have lx : vs.length = xs.length := RqA.length hq
  have W : Walk (ItN vs.length (fun H => srcS X.K kd H a vs ∧ a ≠ en ∧ a ≠ it) fun i => [.int (i : Int), vs.getD i .non]) vs.length (fun H2 => ∀ c o, B1.G c = some o → H2 c = some o) fun k H2 x H3 => ∃ T, x = .ref T ∧ H2 T = none ∧ H3 = upd H2 T (.tup [.int (k : Int), vs.getD k .non]) :=
    ⟨fun k H2 hk g2 => ⟨hk, srcS_mono g2 hsrc, n1.symm, n2.symm⟩, fun H2 g2 => ⟨rfl, srcS_mono g2 hsrc, n1.symm, n2.symm⟩, fun k H2 x H3 hk g2 y => y⟩
  refine for_it W (fun k σ2 H2 => ∃ τ2 M2 B2, goEnQ i j b E k (xs.drop k) τ2 M2 ∧ Wd X.K B2 M2 H2 ∧ Sl X.K B2 σ2 τ2 ∧ Ext B1 H1 B2 H2) ⟨τ, M1, B1, q, w1, sl.mono e1, .refl _ _⟩ ?_ ?_ ?_
  · rintro k σ2 H2 _ ⟨τ2, M2, B2, _, w2, _, e2⟩ c o z
    exact w2.le c o (e2.g c o z)
  · rintro k x σ2 H2 H3 hk ⟨τ2, M2, B2, h2, w2, s2, e2⟩ ⟨p, rfl, hpn, rfl⟩
    have hk2 : k < xs.length := by omega
    obtain ⟨w3, e3⟩ := w2.alloc hpn (.tup [.int (k : Int), vs.getD k .non])
    rw [drop_at hk2] at h2
    have e23 := e2.trans e3
    have rk3 : Rt X.K { B2 with G := upd B2.G p (.tup [.int (k : Int), vs.getD k .non]) } (vs.getD k .non) (inj xs[k]) := inj_rt (B := { B2 with G := upd B2.G p (.tup [.int (k : Int), vs.getD k .non]) }) (Rq.mono e23.g (rqa_nth hq hk2))
    have s3 := (s2.mono e3).set i (show Rt X.K _ (.int (k : Int)) (.int (k : Int)) from .int _)
    have s4 := s3.set j rk3
    refine ⟨p, _, rfl, .inl (.inl upd_same), rfl, _, _, rfl, _, _, rfl, rfl, ?_⟩
    refine ⟨_, _, M2, _, h2, w3, s4, ⟨?_, ?_, ?_, ?_⟩⟩
    · exact fun τ5 M5 B5 σ5 H5 q w5 e5 s5 => ⟨τ5, M5, B5, q, w5, s5, e23.trans e5⟩
    · exact fun v t M5 B5 H5 q w5 e5 r5 => go.rt v t M5 B5 H5 q w5 (e1.trans (e23.trans e5)) r5
    · exact fun τ5 M5 B5 σ5 H5 q w5 e5 s5 => go.nx τ5 M5 B5 σ5 H5 q w5 (e1.trans (e23.trans e5)) s5
    · exact fun τ5 M5 B5 σ5 H5 q w5 e5 s5 => ⟨τ5, M5, B5, q, w5, s5, e23.trans e5⟩
  · rintro σ2 H2 ⟨τ2, M2, B2, h2, w2, s2, e2⟩
    rw [lx, List.drop_length] at h2
    exact go.nx τ2 M2 B2 σ2 H2 h2 w2 (e1.trans e2) s2
end
end L3
set_option Elab.async false
set_option linter.all false
set_option maxRecDepth 100000
set_option maxHeartbeats 1000000
namespace L3
open PySem PySem.Spec L2
/-- a field put, told by trees -/
def putI (f : Str) (t : T) : List (Str × T) → List (Str × T)
  | [] => [(f, t)]
  | (g, x) :: r => if g = f then (g, t) :: r else (g, x) :: putI f t r
abbrev PI1 (K : PySem.W.Frag) (B : Bk) : List (Str × V) → List (Str × T) → Prop := Paired fun (p : Str × V) (q : Str × T) => p.1 = q.1 ∧ Rt K { B with l := [] } p.2 q.2
theorem pi_put {K : PySem.W.Frag} {B : Bk} {f : Str} {v : V} {t : T} (r : Rt K { B with l := [] } v t) : ∀ {vs : List (Str × V)} {fs : List (Str × T)}, PI1 K B vs fs → PI1 K B (putF f v vs) (putI f t fs)
  | _, _, .nil => .cons ⟨rfl, r⟩ .nil
  | _, _, .cons (a := a) (b := b) p q => by
    obtain ⟨g, x⟩ := a
    obtain ⟨g2, y⟩ := b
    obtain ⟨e, ry⟩ := p
    cases (show g = g2 from e)
    unfold putF putI
    by_cases h : g = f
    · rw [if_pos h, if_pos h]
      exact .cons ⟨rfl, r⟩ q
    · rw [if_neg h, if_neg h]
      exact .cons ⟨rfl, ry⟩ (pi_put r q)
theorem pi_len {K : PySem.W.Frag} {B : Bk} {vs : List (Str × V)} {fs : List (Str × T)} (h : PI1 K B vs fs) : vs.length = fs.length := Paired.length h
/-- what the written part says of the class c; c has no f of its own -/
def KIc (K : PySem.W.Frag) (c : Str) : Prop := ∀ C, CA K c = some C → Cls K C
def KIf (K : PySem.W.Frag) (c f : Str) : Prop := ∀ C, CA K c = some C → NoAttr K C f
/-- o.f = v -/
def mSetI (c f : Str) (o v : Me) : Ms := fun E τ M => v τ M fun y M1 => o τ M1 fun t M2 => ∃ n fs, t = .mr n ∧ M2.D[n]? = some (.ins c fs) ∧ noL y = true ∧ fs.length < 1000 ∧ E.nx τ { M2 with D := M2.D.set n (.ins c (putI f y fs)) }
theorem ms_setI {X : Cx} {o value : Expr} {mo mv : Me} {c f : Str} {pos pos' : Pos} (T : KIc X.K c) (N : KIf X.K c f) (ho : ME X o mo) (hv : ME X value mv) (hs : swapsWith value (some (.Attribute o f pos')) pos.line X.env = pure false := by rfl) : MS X (.Assign [.Attribute o f pos'] value pos) (mSetI c f mo mv) := by
  refine PS.of (ps_fld ho hv hs) fun D σ H ⟨E, τ, M, B, h, w, sl, g⟩ => ?_
  refine ⟨τ, M, B, _, h, w, sl, fun y t M1 B1 H1 h1 w1 e1 r1 => ⟨τ, M1, B1, _, h1, w1, sl.mono e1, fun x u M2 B2 H2 ⟨n, fs, eu, hD, hn, hl, q⟩ w2 e2 r2 => ?_⟩⟩
  subst eu
  obtain ⟨a, rfl, ha⟩ := r2
  obtain ⟨_, C, dx, vs, hC, hH, hp⟩ := w2.dc n a _ ha hD
  have ry := Rt.deck hn (Rt.mono e2 r1)
  obtain ⟨w3, e3⟩ := w2.setD ha hD (o := .ins C dx (putF f y vs)) (c := .ins c (putI f t fs)) fun H' eH => ⟨C, dx, _, hC, eH, pi_put ry hp⟩
  exact ⟨a, C, dx, vs, rfl, hH, T C hC, N C hC, by rw [pi_len hp]; exact hl, g.nx τ _ B2 σ _ q w3 (e1.trans (e2.trans e3)) (sl.mono (e1.trans (e2.trans e3)))⟩
/-- the class c, its __init__: a def that is known -/
def KnI (P : Program) (w : World) (K : PySem.W.Frag) (mg : Str → Option Value) (base : Heap) (k : Nat) (c : Str) (ps : List Str) (m : FD) : Prop :=
  ∃ C f fd, mg c = some (.ref C) ∧ CA K c = some C ∧ Mk K C f ∧ FnG P w K mg base k f fd ps (spM K m) ∧ Binds K fd ps []
theorem gd_make {A : Around} (g : Gd A) (C : Addr) (us : List Value) : Gd (A.under (.builtin "type.__call__" ⟨.ref C :: us, []⟩)) := by
  unfold Gd at g ⊢
  unfold Around.under
  dsimp only
  rw [g]
  rfl
theorem run_makeG {X : Cx} {k : Nat} {C f : Addr} {fd : FuncData} {ps : List Str} {sp : Sp} {pins : List (Addr × Obj)} {σ : St} {H : Hp} {s : Shared} {Q : VK} {us : List Value} {vs : List V} (M : Mk X.K C f) (F : FnG X.prog X.w X.K X.mg X.base k f fd ps sp) (gd : Gd X.A) (hr : Room (k + 1) X.A) (hb : Binds X.K fd ps [])
    (I : Inv X pins σ H s) (r : Vals vs us) (h : ∀ x dx, H x = none → H dx = none → dx ≠ x → sp (.ref x :: vs) (upd (upd H dx (.own x)) x (.ins C dx [])) (fun v H2 => v = .non ∧ Q (.ref x) H2) E0) :
    wpAny (model X.prog X.w) X.A (call (.ref C) us) (EP X pins σ Q) X.xe s := by
  have hq := h (s.heap.objs.size + 1) s.heap.objs.size (I.hok.fresh (Nat.le_succ _)) (I.hok.fresh (Nat.le_refl _)) (Nat.ne_of_lt (Nat.lt_succ_self _))
  have I2 := Inv.made (C := C) I
  have r2 : Vals (V.ref (s.heap.objs.size + 1) :: vs) (Value.ref (s.heap.objs.size + 1) :: us) := .cons rfl r
  have hl : ((Value.ref (s.heap.objs.size + 1) :: us) ++ []).length = ps.length := by
    rw [List.append_nil, ← r2.length]
    exact F.len _ _ _ _ hq
  have hbb := hb _ (Value.ref (s.heap.objs.size + 1) :: us) I2.kIn hl
  rw [List.append_nil] at hbb
  refine wpAny_call (make_map (f := f) I.kIn M.makes M.init (beq_iff_eq.mp M.fn) (codeAny_mono (F.run _ X.stack _ _ ⟨Value.ref (s.heap.objs.size + 1) :: us, []⟩ (Value.ref (s.heap.objs.size + 1) :: us) _ _ E0 (gd_make gd C us) (hr.make C us []) (I2.env0.make C us []) hbb r2 hq) fun r s' hq' => ?_))
  cases r with
  | error e => exact False.elim hq'
  | ok fl =>
    cases fl with
    | ret u =>
      obtain ⟨v, H', I3, rv, ev, q3⟩ := I2.after hq'
      subst ev
      exact ⟨rv, ⟨V.ref (s.heap.objs.size + 1), H', I3, rfl, q3⟩⟩
    | next => exact False.elim hq'
    | brk => exact False.elim hq'
    | cont => exact False.elim hq'
/-- .. that is only handed about from now on -/
def mNewQ (c : Str) (d : FD) (r : Ma) : Me := fun τ M Q => r τ M fun ts M1 => (∀ t ∈ ts, noL t = true) ∧ d (.mr M1.D.length :: ts) (M1.D ++ [.ins c []]) fun t D2 => t = .non ∧ D2.take M1.D.length = M1.D ∧ clo M1.D.length D2 ∧ (∃ fs, D2[M1.D.length]? = some (.ins c fs)) ∧ Q (.q (.obj c ["!"] [])) M1
section
variable {X : Cx} {e : Expr} {es : List Expr} {mr : Ma} {p pos : Pos} {x : Str} {j k : Nat} {ps : List Str} {d : FD}
theorem Wd.newI {K : PySem.W.Frag} {B : Bk} {M : Mem} {H : Hp} (w : Wd K B M H) {x dx C : Addr} {c : Str} (hC : CA K c = some C) (hx : H x = none) (hd : H dx = none) (ne : dx ≠ x) :
    ∃ B', Wd K B' { M with D := M.D ++ [.ins c []] } (upd (upd H dx (.own x)) x (.ins C dx [])) ∧ Ext B H B' (upd (upd H dx (.own x)) x (.ins C dx [])) ∧ B'.r = B.r ++ [x] := by
  obtain ⟨w2, e2⟩ := w.alloc hd (.own x)
  have hx2 : (upd H dx (.own x)) x = none := by rw [upd_ne (Ne.symm ne)]; exact hx
  obtain ⟨w3, e3⟩ := w2.newD hx2 (o := .ins C dx []) (c := .ins c []) fun H' eH => ⟨C, dx, [], hC, eH, .nil⟩
  exact ⟨_, w3, e2.trans e3, rfl⟩
theorem paired_noL {K : PySem.W.Frag} {B : Bk} : ∀ {vs : List V} {ts : List T}, Paired (Rt K B) vs ts → (∀ t ∈ ts, noL t = true) → Paired (Rt K { B with l := [] }) vs ts
  | _, _, .nil, _ => .nil
  | _, _, .cons p q, h => .cons (p.deck (h _ List.mem_cons_self)) (paired_noL q fun t z => h t (List.mem_cons_of_mem _ z))
theorem me_newQ (T : KnI X.prog X.w X.K X.mg X.base j x ps d) (gd : Gd X.A) (rm : Room k X.A) (hj : j + 1 ≤ k) (hg : Gl X x) (ha : MA X (e :: es) mr) (hdb : (x == ("__debug__" : Str)) = false := by decide)
    (he : starEach (e :: es) X.env = (false, eval e X.env) :: starEach es X.env := by rfl) (hpl : (backTo pos (starEach es X.env)).any (·.1) = false := by rfl) : ME X (.Call (.Name x p) (e :: es) [] pos) (mNewQ x d mr) := by
  obtain ⟨C, f, fd, gC, hC, M0, F, hb⟩ := T
  refine ⟨fun pn sh sg hp Q' iv ⟨τ, M, B, Q, h, w, s, kk⟩ => wpAny_Call_Name_kw (ld_glob iv hg gC ?_ hdb)⟩
  let P := fun (vs : List V) (H1 : Hp) => ∀ x dx, H1 x = none → H1 dx = none → dx ≠ x → spM X.K d (.ref x :: vs) (upd (upd H1 dx (.own x)) x (.ins C dx [])) (fun v H2 => v = .non ∧ Q' (.ref x) H2) E0
  refine PySem.W.callWith_K (h₀ := X.base) iv.ok.mod.kin M0.kp (thn (ha.run pos pn sh sg hp P iv ⟨τ, M, B, _, h, w, s, fun vs ts M1 B1 H1 h1 w1 e1 r1 => ?_⟩) fun us s1 ⟨vs, H1, i1, r, q⟩ => ⟨i1.kIn, run_makeG M0 F gd (rm.mono hj) hb i1 r q⟩) he hpl
  intro y dx hy hd ne
  obtain ⟨hts, h1⟩ := h1
  obtain ⟨B2, w2, e2, er⟩ := w1.leave.newI hC hy hd ne
  have er : B2.r = B1.r ++ [y] := er
  have ry : Rt X.K B2 (.ref y) (.mr M1.D.length) := ⟨y, rfl, by rw [er, ← w1.rlen]; exact get_snoc⟩
  refine ⟨_, _, B2, _, h1, w2, .cons ry (Rts.mono e2 (paired_noL r1 hts)), fun v t D2 B3 H3 ⟨et, hk, hc, ⟨fs, hi⟩, q⟩ w3 e3 r3 => ?_⟩
  subst et
  cases (show Rp X.K B3.G v .none from r3)
  refine ⟨rfl, ?_⟩
  have hy3 := get_prefix e3.r (show B2.r[M1.D.length]? = some y by rw [er, ← w1.rlen]; exact get_snoc)
  obtain ⟨hG, C2, dx2, vs, hC2, hH, _⟩ := w3.dc _ _ _ hy3 hi
  have wc := w3.cutL hc
  rw [show (⟨D2, []⟩ : Mem).D.take M1.D.length = M1.D from hk] at wc
  have ec := (e2.trans e3).cut
  have l3 : B3.l = [] := List.length_eq_zero_iff.mp w3.llen
  have nr : y ∉ B3.r.take M1.D.length := fun z => by
    obtain ⟨i, hi2, e⟩ := List.getElem_of_mem z
    rw [List.getElem_take] at e
    have n3 : B3.r.Nodup := (List.nodup_append.mp w3.nd).1
    obtain ⟨hlt, e4⟩ := List.getElem?_eq_some_iff.mp hy3
    have hi3 : i < B3.r.length := by rw [List.length_take] at hi2; omega
    have hi4 : i < M1.D.length := by rw [List.length_take] at hi2; omega
    have := (List.getElem_inj (h₀ := hi3) (h₁ := hlt) n3).mp (e.trans e4.symm)
    omega
  have wa := wc.adoptG hG nr (by simp) hH
  have rl : B1.r.length = M1.D.length := w1.rlen
  have ec2 : Ext { B1 with l := [] } H1 { B3 with r := B3.r.take M1.D.length, l := [] } H3 := by
    have : ({ B1 with l := [] } : Bk).r.length = M1.D.length := rl
    rw [this] at ec
    exact ec
  rcases Ext.adoptG (o := .ins C2 dx2 vs) hy ec2 with z | z
  · obtain ⟨w5, e5⟩ := back_wd w1 wa z
    exact kk _ _ _ _ H3 q w5 (e1.trans e5) (Rq.ins hC2 upd_same)
  · exact absurd hG z
end
end L3
namespace L3
open PySem
/-- the statement at j of a class's body -/
def clsS (s : Stmt) (j : Nat) : Stmt := match s with
  | .ClassDef _ _ _ body _ _ _ _ _ _ _ => body.getD j (.Pass ⟨0, 0, 0, 0⟩)
  | s => s
end L3
set_option Elab.async false
set_option linter.all false
set_option maxRecDepth 100000
set_option maxHeartbeats 1000000
namespace L3
open PySem PySem.Spec L2
mutual
def down : Dt → Option PyData
  | .non => some .none
  | .bl b => some (.bool b)
  | .int i => some (.int i)
  | .str x => some (.str x)
  | .lst xs => (downs xs).map .list
  | .tup xs => (downs xs).map .tuple
  | .dic _ _ => none
  | .obj _ _ _ => none
def downs : List Dt → Option (List PyData)
  | [] => some []
  | x :: xs => match down x, downs xs with
    | some y, some ys => some (y :: ys)
    | _, _ => none
end
section
variable {K : PySem.W.Frag} {G : Hp}
mutual
theorem Rq.down : ∀ (x : Dt) (v : V) (d : PyData), Rq K G v x → down x = some d → Rp K G v d
  | .non, _, _, h, e => by cases h; cases e; exact .non
  | .bl b, _, _, h, e => by cases h; cases e; exact .bl b
  | .int i, _, _, h, e => by cases h; cases e; exact .int i
  | .str x, _, _, h, e => by cases h; cases e; exact .str x
  | .lst xs, _, _, h, e => by
    unfold L3.down at e
    obtain ⟨ys, e1, e2⟩ := Option.map_eq_some_iff.mp e
    subst e2
    cases h with
    | lst a b => exact .lst a (RqA.down xs _ _ b e1)
  | .tup xs, _, _, h, e => by
    unfold L3.down at e
    obtain ⟨ys, e1, e2⟩ := Option.map_eq_some_iff.mp e
    subst e2
    cases h with
    | tup a b => exact .tup a (RqA.down xs _ _ b e1)
  | .dic _ _, _, _, _, e => by cases e
  | .obj _ _ _, _, _, _, e => by cases e
theorem RqA.down : ∀ (xs : List Dt) (vs : List V) (ds : List PyData), RqA K G vs xs → downs xs = some ds → RpA K G vs ds
  | [], _, _, h, e => by cases h; cases e; exact .nil
  | x :: xs, _, _, h, e => by
    cases h with
    | cons a b =>
      unfold downs at e
      split at e
      · rename_i p1 p2
        cases e
        exact .cons (Rq.down x _ _ a p1) (RqA.down xs _ _ b p2)
      · cases e
end
end
def tdn : T → Option PyData
  | .d x => some x
  | .q x => down x
  | _ => none
theorem tdn_rt {K : PySem.W.Frag} {B : Bk} {v : V} {t : T} {d : PyData} (r : Rt K B v t) (e : tdn t = some d) : Rt K B v (.d d) := by
  cases t with
  | d x => cases e; exact r
  | q x => exact Rq.down x v d r e
  | mr i => cases e
  | lr i => cases e
  | scr ns => cases e
  | wt xs => cases e
  | exo a c d e' => cases e
section
variable {X : Cx} {a b : Expr} {ma mb : Me} {pos : Pos} {k : Nat}
end
theorem paired_inj {K : PySem.W.Frag} {B : Bk} : ∀ {vs : List V} {xs : List Dt}, RqA K B.G vs xs → Paired (Rt K B) vs (xs.map inj)
  | _, _, .nil => .nil
  | _, _, .cons p q => .cons (inj_rt p) (paired_inj q)
end L3
set_option Elab.async false
set_option linter.all false
set_option maxRecDepth 100000
set_option maxHeartbeats 1000000
namespace L3
open PySem PySem.Spec L2
def IsjT (K : PySem.W.Frag) (T0 : String) (tab : List (Str × Bool)) : Prop := ∀ r ∈ tab, ∀ C, CA K r.1 = some C → Cls K C ∧ PySem.W.findIn K (.ref C) "__class__" = some (some (.builtin "object.__class__")) ∧
  PySem.W.specialIn K (.builtin "object.__class__") "__get__" = some (some (.builtin "getset_descriptor.__get__")) ∧ PySem.W.takesIn K (.builtin "object.__class__") = some true ∧ PySem.W.mroIn K C (.type "object") = some true ∧ PySem.W.kitOne K (.ref C) (.type T0) = some r.2
def mQIsj (T0 : String) (tab tabI : List (Str × Bool)) (m : Me) : Me := fun τ M Q => m τ M fun t M1 => ∃ x, tq t = some x ∧ ((∃ a r, tyQ x = some a ∧ kitB a T0 = some r ∧ Q (.bl r) M1) ∨ (∃ c fs xs r, x = .obj c fs xs ∧ (c, r) ∈ tab ∧ fs.length = xs.length ∧ Q (.bl r) M1) ∨
  ∃ c g gs r, x = .obj c (g :: gs) [] ∧ (c, r) ∈ tabI ∧ Q (.bl r) M1)
section
variable {X : Cx} {e : Expr} {m : Me} {ty : Str} {T0 : String} {p p2 pos : Pos} {tab tabI : List (Str × Bool)}
theorem me_qisj (hg : Gl X "isinstance") (hm : X.mg "isinstance" = none) (hg2 : Gl X ty) (hm2 : X.mg ty = none) (hb2 : bootBuiltins ty = some (.type T0)) (T : IsqT X.K (.ty T0) tab) (TI : IsjT X.K T0 tabI) (ha : ME X e m) (hn2 : ty ≠ "__name__" := by decide) (hd2 : (ty == ("__debug__" : Str)) = false := by decide)
    (hs1 : starEach [e, .Name ty p2] X.env = (false, eval e X.env) :: starEach [.Name ty p2] X.env := by rfl) (hs2 : starEach [.Name ty p2] X.env = (false, eval (.Name ty p2) X.env) :: starEach [] X.env := by rfl) (hpl : (backTo pos (starEach [.Name ty p2] X.env)).any (·.1) = false := by rfl) :
    ME X (.Call (.Name "isinstance" p) [e, .Name ty p2] [] pos) (mQIsj T0 tab tabI m) := by
  refine PE.of (pe_callB (call_isi.or call_isQ) hg hm (by decide +kernel) (pa_cons ha (pa_cons (pe_bltn (v := V.ty T0) hg2 hm2 hb2 rfl hn2 hd2) pa_nil hs2) hs1) (by decide) (by decide) hs1 hpl) fun σ H Q' ⟨τ, M, B, Q, h, w, s, k⟩ => ?_
  refine ⟨τ, M, B, _, h, w, s, fun v t M1 B1 H1 ⟨x, hx, h1⟩ w1 e1 r1 => ?_⟩
  have r := tq_rt r1 hx
  rcases h1 with ⟨a, b, h2, h3, h4⟩ | ⟨c, fs, xs, b, rfl, hr, ni, h4⟩ | ⟨c, g, gs, b, rfl, hr, h4⟩
  · exact .inl ⟨v, V.ty T0, .type a, .type T0, b, rfl, .ty T0, tyQ_of w1.le r h2, kit_ty h3, k _ _ M1 B1 H1 h4 w1 e1 (Rp.bl b)⟩
  · exact .inr (isq_obj w1 T hr r ni (k _ _ M1 B1 H1 h4 w1 e1 (Rp.bl b)))
  · cases r with
    | ins hC g1 =>
      obtain ⟨c1, c2, c3, c4, c5, c6⟩ := TI _ hr _ hC
      exact .inl ⟨_, V.ty T0, .ref _, .type T0, b, rfl, .ty T0, .base (.ins (w1.le _ _ g1) c1 c2 c3 c4 c5), c6, k _ _ M1 B1 H1 h4 w1 e1 (Rp.bl b)⟩
end
def isjB (K : PySem.W.Frag) (T0 : String) (tab : List (Str × Bool)) : Bool := tab.all fun r => match CA K r.1 with
  | some C => PySem.W.plainGet K C Str.empty && (PySem.W.hasDictIn K C && (PySem.W.plainOver K C && (decide (PySem.W.findIn K (.ref C) "__setattr__" = some (some (.builtin "object.__setattr__"))) && (decide (PySem.W.findIn K (.ref C) "__class__" = some (some (.builtin "object.__class__"))) &&
      (decide (PySem.W.specialIn K (.builtin "object.__class__") "__get__" = some (some (.builtin "getset_descriptor.__get__"))) && (decide (PySem.W.takesIn K (.builtin "object.__class__") = some true) && (decide (PySem.W.mroIn K C (.type "object") = some true) && decide (PySem.W.kitOne K (.ref C) (.type T0) = some r.2))))))))
  | none => false
theorem isjT_of {K : PySem.W.Frag} {T0 : String} {tab : List (Str × Bool)} (h : isjB K T0 tab = true) : IsjT K T0 tab := by
  intro r hr C hC
  unfold isjB at h
  rw [List.all_eq_true] at h
  have := h r hr
  rw [hC] at this
  simp only [Bool.and_eq_true, decide_eq_true_eq] at this
  obtain ⟨h1, h2, h3, h4, h5, h6, h7, h8, h9⟩ := this
  exact ⟨⟨h1, h2, h3, h4⟩, h5, h6, h7, h8, h9⟩
end L3
set_option Elab.async false
set_option linter.all false
set_option maxRecDepth 100000
set_option maxHeartbeats 1000000
namespace L3
open PySem PySem.Spec L2
section
variable {X : Cx} {a b e : Expr} {ma mb m : Me} {pos : Pos}
def oQSl (x : T) (lo hi : Option Int) (M : Mem) (Q : Kt) : Prop := match tq x with
  | some (.lst xs) => Q (.q (.lst (cutT xs lo hi))) M
  | some (.tup xs) => Q (.q (.tup (cutT xs lo hi))) M
  | _ => False
def mQSl (m : Me) (lo hi : Mo) : Me := fun τ M Q => m τ M fun x M1 => lo τ M1 fun l M2 => hi τ M2 fun u M3 => oQSl x l u M3 Q
theorem me_qslice {lo hi : Option Expr} {ml mh : Mo} {p2 : Pos} (he : ME X e m) (hl : PO X lo (rO X.K ml)) (hu : PO X hi (rO X.K mh)) : ME X (.Subscript e (.Slice lo hi none p2) pos) (mQSl m ml mh) := by
  refine PE.of (pe_slice (sl_list.or sl_tupC) he hl hu) fun σ H Q' ⟨τ, M, B, Q, h, w, s, k⟩ => ?_
  refine ⟨τ, M, B, _, h, w, s, fun v t M1 B1 H1 h1 w1 e1 r1 => ⟨τ, M1, B1, _, h1, w1, s.mono e1, fun l M2 B2 H2 h2 w2 e2 => ⟨τ, M2, B2, _, h2, w2, (s.mono e1).mono e2, fun u M3 B3 H3 h3 w3 e3 => ?_⟩⟩⟩
  have e123 := e1.trans (e2.trans e3)
  have r3 := Rt.mono e3 (Rt.mono e2 r1)
  unfold oQSl at h3
  split at h3
  · rename_i ht
    cases tq_rt r3 ht with
    | lst e q =>
      refine .inl ⟨_, _, rfl, .of (w3.le _ _ e), fun p hp => ?_⟩
      obtain ⟨w4, e4⟩ := w3.alloc hp (.lst _)
      exact k _ _ M3 _ _ h3 w4 (e123.trans e4) (Rq.lst upd_same (RqA.mono e4.g (RqA.cut q)))
  · rename_i ht
    cases tq_rt r3 ht with
    | tup e q =>
      refine .inr ⟨_, _, rfl, SqT.mono w3.le e, fun z => ?_, fun _ p o hp ho => ?_⟩
      · have z' := z
        rw [RqA.length q] at z'
        rw [cutT_all z'] at h3
        exact k _ _ M3 B3 H3 h3 w3 e123 (Rq.tup e q)
      · obtain ⟨w4, e4⟩ := w3.alloc hp (.frz o (.tup _))
        exact k _ _ M3 _ _ h3 w4 (e123.trans e4) (Rq.tup (.inl ⟨o, upd_same, ho⟩) (RqA.mono e4.g (RqA.cut q)))
  · exact h3.elim
theorem RqA.rep {K : PySem.W.Frag} {G : Hp} {vs : List V} {xs : List Dt} (h : RqA K G vs xs) : ∀ n : Nat, RqA K G (List.replicate n vs).flatten (List.replicate n xs).flatten
  | 0 => .nil
  | n + 1 => by
    rw [List.replicate_succ, List.replicate_succ, List.flatten_cons, List.flatten_cons]
    exact RqA.append h (RqA.rep h n)
def oQRep : F2 := fun x y M Q => match tq x, y with
  | some (.tup xs), .d (.int j) => (xs ≠ [] ∧ 1 ≤ j ∧ j ≤ 1000 ∧ xs.length ≤ 1000) ∧ Q (.q (.tup (List.replicate j.toNat xs).flatten)) M
  | _, _ => False
theorem opl_qrep {K : PySem.W.Frag} : OpL K (fun x y H Q => rRep1 K x y H Q ∨ rRepC K x y H Q) oQRep := by
  intro x y t u M B H Q Q' h w rx ry k
  unfold oQRep at h
  split at h
  · rename_i xs j he
    obtain ⟨⟨h0, h1, h2, h3⟩, q⟩ := h
    cases tq_rt rx he with
    | @tup _ vs _ e1 q1 =>
      cases (show Rp K B.G y (.int j) from ry)
      by_cases c : j = 1
      · subst c
        refine .inl ⟨_, _, rfl, rfl, SqT.mono w.le e1, ?_⟩
        have e : (List.replicate (1 : Int).toNat xs).flatten = xs := by simp
        rw [e] at q
        exact k _ _ M B H q w (.refl _ _) (Rq.tup e1 q1)
      · have lv := RqA.length q1
        refine .inr ⟨_, _, vs, rfl, rfl, SqT.mono w.le e1, fun z => ?_, by omega, h2, by omega, fun p o hp ho => ?_⟩
        · subst z
          exact h0 (List.eq_nil_of_length_eq_zero lv.symm)
        · obtain ⟨w4, e4⟩ := w.alloc hp (.frz o (.tup (List.replicate j.toNat vs).flatten))
          exact k _ _ M _ _ q w4 e4 (Rq.tup (.inl ⟨o, upd_same, ho⟩) (RqA.mono e4.g (RqA.rep q1 _)))
  · exact h.elim
theorem me_qrep (ha : ME X a ma) (hb : ME X b mb) : ME X (.BinOp a .Mult b pos) (mOp oQRep ma mb) := me_op (OpR.or op_rep1 op_repC) opl_qrep ha hb
def rEqNil (K : PySem.W.Frag) : R2 := fun x y H Q => ∃ l e xs, x = .ref l ∧ y = .ref e ∧ SqT K H l xs ∧ SqT K H e [] ∧ Q (.bl xs.isEmpty) H
end
section
open PyProof.Rows
theorem op_eqNil {X : Cx} (hu : X.A.units + 64 < cLine) : OpR X (compareOp .Eq) (rEqNil X.K) := by
  intro pins s σ H x y v u Q I rx ry h
  obtain ⟨l, e, xs, rfl, rfl, hl, he, q⟩ := h
  cases rx
  cases ry
  obtain ⟨its, r1, ⟨⟨cls, dd, data, sl⟩, ho, hc, n, hd⟩, hs1⟩ := I.tuple hl
  obtain ⟨its2, r2, ⟨⟨cls2, dd2, data2, sl2⟩, ho2, hc2, n2, hd2⟩, hs2⟩ := I.tuple he
  simp only at hc hd hc2 hd2
  subst hc hd hc2 hd2
  show wpAny _ _ (richCompare .Eq _ _) _ _ _
  have e2 : its2 = [] := by
    cases r2
    rfl
  subst e2
  have lx : its.length = xs.length := by
    have := PySem.Paired.length r1
    omega
  refine wpAny_richCompare_same_room (op := .Eq) ⟨_, ho, rfl⟩ ⟨_, ho2, rfl⟩ F.slot_tuple_eq ?_ (by omega)
  refine call_meets F.slot_tuple_eq ⟨_, ho, rfl⟩ F.entry_tuple_eq (F.args_tuple_eq_2 _ _) (SeqAt.tuple_eqAt l e its.toArray _ n n2 dd dd2 sl sl2 (fun _ => true)) ⟨ho, ho2, fun j h1 h2 => absurd h2 (by simp), ?_⟩
  refine ⟨(fun z => nomatch z), .bl _, H, I, ?_, q⟩
  show _ = Value.bool _
  refine congrArg Value.bool ?_
  cases xs with
  | nil =>
    have : its = [] := List.eq_nil_of_length_eq_zero lx
    subst this
    rfl
  | cons x xs =>
    cases its with
    | nil => cases lx
    | cons y its => simp
/-- x == (): x a tuple of whatever is in it -/
def oQNil : F2 := fun x y M Q => ∃ xs, tq x = some (.tup xs) ∧ y = .d (.tuple []) ∧ Q (.bl xs.isEmpty) M
theorem opl_qnil {K : PySem.W.Frag} : OpL K (rEqNil K) oQNil := by
  rintro x y t u M B H Q Q' ⟨xs, e1, rfl, q⟩ w rx ry k
  cases tq_rt rx e1 with
  | @tup _ vs _ s1 q1 =>
    cases (show Rp K B.G y (.tuple []) from ry) with
    | tup s2 q2 =>
      cases q2
      refine ⟨_, _, vs, rfl, rfl, SqT.mono w.le s1, SqT.mono w.le s2, ?_⟩
      have : vs.isEmpty = xs.isEmpty := by
        have := RqA.length q1
        cases vs <;> cases xs <;> first | rfl | cases this
      rw [this]
      exact k _ _ M B H q w (.refl _ _) (.bl _)
theorem mb_qnil {X : Cx} {a b : Expr} {ma mb : Me} {pos : Pos} {k : Nat} (rm : Room k X.A) (ha : ME X a ma) (hb : ME X b mb) : MB X (.Compare a [.Eq] [b] pos) (mTest (mOp oQNil ma mb)) := mb_cmp (op_eqNil rm.units) opl_qnil ha hb (nomark _)
end
def tdns : List T → Option (List PyData)
  | [] => some []
  | t :: ts => match tdn t, tdns ts with
    | some x, some xs => some (x :: xs)
    | _, _ => none
/-- a built-in, read at what is data -/
def fDn (f : FA) : FA := fun ts M Q => ∃ ds, tdns ts = some ds ∧ f (ds.map T.d) M Q
theorem paired_dn {K : PySem.W.Frag} {B : Bk} : ∀ {vs : List V} {ts : List T} {ds : List PyData}, Paired (Rt K B) vs ts → tdns ts = some ds → Paired (Rt K B) vs (ds.map T.d)
  | _, _, _, .nil, e => by
    cases e
    exact .nil
  | _, _, _, .cons p q, e => by
    unfold tdns at e
    split at e
    · rename_i e1 e2
      cases e
      exact .cons (tdn_rt p e1) (paired_dn q e2)
    · cases e
theorem cal_dn {K : PySem.W.Frag} {r : List V → Hp → VK → Prop} {f : FA} (h : CaL K r f) : CaL K r (fDn f) := fun xs ts M B H Q Q' ⟨ds, e, q⟩ w rx k => h xs _ M B H Q Q' q w (paired_dn rx e) k
theorem me_sumQ {X : Cx} {e : Expr} {es : List Expr} {mr : Ma} {p pos : Pos} (hc : X.calm = true) (hg : Gl X "sum") (hm : X.mg "sum" = none) (ha : MA X (e :: es) mr) (he : starEach (e :: es) X.env = (false, eval e X.env) :: starEach es X.env := by rfl) (hpl : (backTo pos (starEach es X.env)).any (·.1) = false := by rfl) : ME X (.Call (.Name "sum" p) (e :: es) [] pos) (mCall (fDn fSumT) mr) := me_callB (cr_sumT hc) (cal_dn cal_sumT) hg hm (by decide +kernel) ha (by decide) (by decide) he hpl
theorem tqM_list {K : PySem.W.Frag} {B : Bk} {M : Mem} {H : Hp} (w : Wd K B M H) {v : V} {t : T} {xs : List Dt} (r : Rt K B v t) (e : tqM t M = some (.lst xs)) : ∃ a vs, v = .ref a ∧ H a = some (.lst vs) ∧ RqA K B.G vs xs := by
  unfold tqM at e
  split at e
  · split at e
    · rename_i n _ ts hD
      obtain ⟨a, rfl, ha⟩ := r
      obtain ⟨ys, e1, e2⟩ := Option.map_eq_some_iff.mp e
      cases e2
      obtain ⟨_, vs, h1, h2⟩ := w.dc _ _ _ ha hD
      exact ⟨a, vs, rfl, h1, tqs_rt (B := { B with l := [] }) h2 e1⟩
    · cases e
  · cases tq_rt r e with
    | lst e q => exact ⟨_, _, rfl, w.le _ _ e, q⟩
def oQAddM : F2 := fun x y M Q => ∃ xs ys, tqM x M = some (.lst xs) ∧ tqM y M = some (.lst ys) ∧ xs.length + ys.length ≤ sizeLine ∧ Q (.mr M.D.length) { M with D := M.D ++ [.lst ((xs ++ ys).map inj)] }
theorem opl_qaddM {K : PySem.W.Frag} : OpL K (rAdd K) oQAddM := by
  rintro x y t u M B H Q Q' ⟨xs, ys, ex, ey, hl, q⟩ w rx ry kk
  obtain ⟨a, vs, rfl, e1, q1⟩ := tqM_list w rx ex
  obtain ⟨b, us, rfl, e2, q2⟩ := tqM_list w ry ey
  refine .inr (.inr (.inl ⟨_, _, _, _, rfl, rfl, e1, e2, ?_, fun p hp => ?_⟩))
  · rw [RqA.length q1, RqA.length q2]
    exact hl
  · obtain ⟨w2, x2⟩ := w.newD hp (o := .lst (vs ++ us)) (c := .lst ((xs ++ ys).map inj)) fun H' eH => ⟨_, eH, paired_inj (B := { B with r := B.r ++ [p], l := [] }) (RqA.append q1 q2)⟩
    exact kk _ _ _ _ _ q w2 x2 ⟨p, rfl, by rw [← w.rlen]; exact get_snoc⟩
theorem me_qaddM {X : Cx} {a b : Expr} {ma mb : Me} {pos : Pos} (ha : ME X a ma) (hb : ME X b mb) : ME X (.BinOp a .Add b pos) (mOp oQAddM ma mb) := me_op opr_add opl_qaddM ha hb
end L3
set_option Elab.async false
set_option linter.all false
set_option maxRecDepth 100000
set_option maxHeartbeats 2000000
namespace K02
open PySem PySem.Spec L2 L3
def topS (i : Nat) : Stmt := PySem.Challenge.pw_fallingfields_k02_records_rows_and_piece.main.body.getD i (.Pass ⟨0, 0, 0, 0⟩)
abbrev qt_tuple : List (Str × Bool) := [("Unfit", false)]
abbrev qt_int : List (Str × Bool) := [("Unfit", false)]
abbrev qt_bool : List (Str × Bool) := [("Unfit", false)]
structure Zs (K : PySem.W.Frag) (mg : Str → Option Value) : Prop where
  z_isinstance : mg "isinstance" = none
  z_int : mg "int" = none
  z_bool : mg "bool" = none
  z_tuple : mg "tuple" = none
  z_len : mg "len" = none
  z_enumerate : mg "enumerate" = none
  z_sum : mg "sum" = none
  z_range : mg "range" = none
  z_max : mg "max" = none
  z_min : mg "min" = none
  z_list : mg "list" = none
  z_str : mg "str" = none
  z_repr : mg "repr" = none
  g_MAX_SIZE : GlC K mg "MAX_SIZE" (.int 1000000000000000000000000000000)
  g_ALIGNMENTS : GlC K mg "ALIGNMENTS" (.tuple (List.map PyData.int [1, 2, 4, 8, 16, 32, 64]))
  g_MAX_MANY : GlC K mg "MAX_MANY" (.int 1000000000000000000000000000000)
  g_MAX_KINDS : GlC K mg "MAX_KINDS" (.int 6)
  g_MAX_ROW : GlC K mg "MAX_ROW" (.int 100)
  g_MAX_PIECES : GlC K mg "MAX_PIECES" (.int 20)
  qb_0 : IsqT K (.ty "tuple") qt_tuple
  qj_1 : IsjT K "tuple" [("Desk", false)]
  q0_2 : Kx0 K mg "Unfit"
  qb_3 : IsqT K (.ty "int") qt_int
  qj_4 : IsjT K "int" [("Desk", false)]
  qb_5 : IsqT K (.ty "bool") qt_bool
  qj_6 : IsjT K "bool" [("Desk", false)]
  ic_7 : KIc K "Desk"
  if_8 : KIf K "Desk" "_books"
  if_9 : KIf K "Desk" "_edits"
  if_10 : KIf K "Desk" "_undone"
abbrev s__law_reel : Stmt := topS 40
theorem sc__law_reel : FnScope ["script", "cells", "stamp", "own", "deep"] ["script"] (defScope s__law_reel) := ⟨rfl, rfl, rfl, by decide +kernel, rfl, by decide +kernel, by decide +kernel⟩
abbrev s__law_draw : Stmt := topS 41
theorem sc__law_draw : FnScope ["reel", "many", "deep", "own", "count", "cells", "mixed", "turn"] ["reel", "many"] (defScope s__law_draw) := ⟨rfl, rfl, rfl, by decide +kernel, rfl, by decide +kernel, by decide +kernel⟩
abbrev s__law_pick : Stmt := topS 42
theorem sc__law_pick : FnScope ["reel", "things"] ["reel", "things"] (defScope s__law_pick) := ⟨rfl, rfl, rfl, by decide +kernel, rfl, by decide +kernel, by decide +kernel⟩
abbrev s__law_size : Stmt := topS 44
theorem sc__law_size : FnScope ["reel", "step", "near", "lot", "far", "off"] ["reel", "step"] (defScope s__law_size) := ⟨rfl, rfl, rfl, by decide +kernel, rfl, by decide +kernel, by decide +kernel⟩
abbrev s__law_book : Stmt := topS 45
theorem sc__law_book : FnScope ["reel", "many", "found", "place", "step"] ["reel", "many"] (defScope s__law_book) := ⟨rfl, rfl, rfl, by decide +kernel, rfl, by decide +kernel, by decide +kernel⟩
abbrev s__law_record : Stmt := topS 47
theorem sc__law_record : FnScope ["reel", "book", "menu", "found", "kind", "own"] ["reel", "book"] (defScope s__law_record) := ⟨rfl, rfl, rfl, by decide +kernel, rfl, by decide +kernel, by decide +kernel⟩
abbrev s__law_pick_v : Stmt := topS 42
theorem sc__law_pick_v : FnScope ["reel", "things"] ["reel", "things"] (defScope s__law_pick_v) := ⟨rfl, rfl, rfl, by decide +kernel, rfl, by decide +kernel, by decide +kernel⟩
abbrev s__law_far : Stmt := topS 51
theorem sc__law_far : FnScope ["found", "turn"] [] (defScope s__law_far) := ⟨rfl, rfl, rfl, by decide +kernel, rfl, by decide +kernel, by decide +kernel⟩
abbrev s__law_odd : Stmt := topS 52
theorem sc__law_odd : FnScope ["reel", "row", "ends", "odd", "at", "item"] ["reel", "row", "ends"] (defScope s__law_odd) := ⟨rfl, rfl, rfl, by decide +kernel, rfl, by decide +kernel, by decide +kernel⟩
abbrev s__law_is_int : Stmt := topS 43
theorem sc__law_is_int : FnScope ["value", "low", "high"] ["value", "low", "high"] (defScope s__law_is_int) := ⟨rfl, rfl, rfl, by decide +kernel, rfl, by decide +kernel, by decide +kernel⟩
abbrev s__law_row_fault : Stmt := topS 49
theorem sc__law_row_fault : FnScope ["book", "value", "at", "own"] ["book", "value"] (defScope s__law_row_fault) := ⟨rfl, rfl, rfl, by decide +kernel, rfl, by decide +kernel, by decide +kernel⟩
abbrev s__law_pieces_fault : Stmt := topS 50
theorem sc__law_pieces_fault : FnScope ["book", "value", "at", "own"] ["book", "value"] (defScope s__law_pieces_fault) := ⟨rfl, rfl, rfl, by decide +kernel, rfl, by decide +kernel, by decide +kernel⟩
abbrev s__law_record_fault : Stmt := topS 48
theorem sc__law_record_fault : FnScope ["book", "value", "place", "own"] ["book", "value"] (defScope s__law_record_fault) := ⟨rfl, rfl, rfl, by decide +kernel, rfl, by decide +kernel, by decide +kernel⟩
abbrev s_is_tuple_within : Stmt := topS 10
theorem sc_is_tuple_within : FnScope ["value", "fewest", "most"] ["value", "fewest", "most"] (defScope s_is_tuple_within) := ⟨rfl, rfl, rfl, by decide +kernel, rfl, by decide +kernel, by decide +kernel⟩
abbrev s_is_integer : Stmt := topS 8
theorem sc_is_integer : FnScope ["value"] ["value"] (defScope s_is_integer) := ⟨rfl, rfl, rfl, by decide +kernel, rfl, by decide +kernel, by decide +kernel⟩
abbrev s_is_integer_within : Stmt := topS 9
theorem sc_is_integer_within : FnScope ["value", "least", "greatest"] ["value", "least", "greatest"] (defScope s_is_integer_within) := ⟨rfl, rfl, rfl, by decide +kernel, rfl, by decide +kernel, by decide +kernel⟩
abbrev s_record_error : Stmt := topS 17
theorem sc_record_error : FnScope ["book", "value", "place", "number"] ["book", "value"] (defScope s_record_error) := ⟨rfl, rfl, rfl, by decide +kernel, rfl, by decide +kernel, by decide +kernel⟩
abbrev s_is_place : Stmt := topS 14
theorem sc_is_place : FnScope ["book", "value"] ["book", "value"] (defScope s_is_place) := ⟨rfl, rfl, rfl, by decide +kernel, rfl, by decide +kernel, by decide +kernel⟩
abbrev s_row_error : Stmt := topS 18
theorem sc_row_error : FnScope ["book", "value", "at", "place"] ["book", "value"] (defScope s_row_error) := ⟨rfl, rfl, rfl, by decide +kernel, rfl, by decide +kernel, by decide +kernel⟩
abbrev s_is_piece : Stmt := topS 15
theorem sc_is_piece : FnScope ["book", "value", "row", "times"] ["book", "value"] (defScope s_is_piece) := ⟨rfl, rfl, rfl, by decide +kernel, rfl, by decide +kernel, by decide +kernel⟩
abbrev s_pieces_error : Stmt := topS 19
theorem sc_pieces_error : FnScope ["book", "value", "at", "piece"] ["book", "value"] (defScope s_pieces_error) := ⟨rfl, rfl, rfl, by decide +kernel, rfl, by decide +kernel, by decide +kernel⟩
abbrev s__law_told : Stmt := topS 54
theorem sc__law_told : FnScope ["word", "book", "value", "is_named"] ["word", "book", "value", "is_named"] (defScope s__law_told) := ⟨rfl, rfl, rfl, by decide +kernel, rfl, by decide +kernel, by decide +kernel⟩
abbrev s__law_is_told : Stmt := topS 55
theorem sc__law_is_told : FnScope ["word", "book", "value", "is_named", "due", "shown", "told"] ["word", "book", "value", "is_named"] (defScope s__law_is_told) := ⟨rfl, rfl, rfl, by decide +kernel, rfl, by decide +kernel, by decide +kernel⟩
abbrev s__law_row : Stmt := topS 46
theorem sc__law_row : FnScope ["reel", "book", "many", "lot", "found", "own", "turn"] ["reel", "book", "many"] (defScope s__law_row) := ⟨rfl, rfl, rfl, by decide +kernel, rfl, by decide +kernel, by decide +kernel⟩
abbrev s__law_odd_piece : Stmt := topS 53
theorem sc__law_odd_piece : FnScope ["reel", "book", "piece", "row", "times", "odd"] ["reel", "book", "piece"] (defScope s__law_odd_piece) := ⟨rfl, rfl, rfl, by decide +kernel, rfl, by decide +kernel, by decide +kernel⟩
abbrev s_is_size : Stmt := topS 11
theorem sc_is_size : FnScope ["value"] ["value"] (defScope s_is_size) := ⟨rfl, rfl, rfl, by decide +kernel, rfl, by decide +kernel, by decide +kernel⟩
abbrev s_is_alignment : Stmt := topS 12
theorem sc_is_alignment : FnScope ["value"] ["value"] (defScope s_is_alignment) := ⟨rfl, rfl, rfl, by decide +kernel, rfl, by decide +kernel, by decide +kernel⟩
abbrev s_is_kind : Stmt := topS 13
theorem sc_is_kind : FnScope ["value"] ["value"] (defScope s_is_kind) := ⟨rfl, rfl, rfl, by decide +kernel, rfl, by decide +kernel, by decide +kernel⟩
abbrev s_book_error : Stmt := topS 16
theorem sc_book_error : FnScope ["value", "place", "kind"] ["value"] (defScope s_book_error) := ⟨rfl, rfl, rfl, by decide +kernel, rfl, by decide +kernel, by decide +kernel⟩
abbrev s_Desk____init__ : Stmt := clsS (topS 38) 0
theorem sc_Desk____init__ : FnScope ["self", "book", "error"] ["self", "book"] (defScope s_Desk____init__) := ⟨rfl, rfl, rfl, by decide +kernel, rfl, by decide +kernel, by decide +kernel⟩
abbrev s__law_are_refused : Stmt := topS 56
theorem sc__law_are_refused : FnScope ["book", "told", "own", "within", "due"] ["book"] (defScope s__law_are_refused) := ⟨rfl, rfl, rfl, by decide +kernel, rfl, by decide +kernel, by decide +kernel⟩
abbrev s_law : Stmt := topS 57
theorem sc_law : FnScope ["script", "reel", "book", "turn", "record", "odd", "nth", "own", "values", "value", "row", "menu", "many", "pieces", "at", "long"] ["script"] (defScope s_law) := ⟨rfl, rfl, rfl, by decide +kernel, rfl, by decide +kernel, by decide +kernel⟩
def kb_record_error_0_g {α : Type} (l : List α) : List α := match l with
  | [x0, x1] => [x1, x0]
  | l => l
theorem kb_record_error_0 {K : PySem.W.Frag} {f : Addr} {fd : FuncData} (F : Fun K "record_error" "record_error" s_record_error f fd) : KB K fd ["book", "value"] ["value", "book"] kb_record_error_0_g := by
  refine kb_of F (fun _ _ _ _ _ _ us hl => match us, hl with | [_, _], _ => rfl) fun R zs ws hl h => ?_
  cases h with
  | nil => simp at hl
  | cons f0 h0 =>
    cases h0 with
    | nil => simp at hl
    | cons f1 h1 =>
      cases h1 with
      | nil => exact .cons f1 (.cons f0 (.nil))
      | cons _ _ => simp at hl
def kb_row_error_0_g {α : Type} (l : List α) : List α := match l with
  | [x0, x1] => [x1, x0]
  | l => l
theorem kb_row_error_0 {K : PySem.W.Frag} {f : Addr} {fd : FuncData} (F : Fun K "row_error" "row_error" s_row_error f fd) : KB K fd ["book", "value"] ["value", "book"] kb_row_error_0_g := by
  refine kb_of F (fun _ _ _ _ _ _ us hl => match us, hl with | [_, _], _ => rfl) fun R zs ws hl h => ?_
  cases h with
  | nil => simp at hl
  | cons f0 h0 =>
    cases h0 with
    | nil => simp at hl
    | cons f1 h1 =>
      cases h1 with
      | nil => exact .cons f1 (.cons f0 (.nil))
      | cons _ _ => simp at hl
def kb_pieces_error_0_g {α : Type} (l : List α) : List α := match l with
  | [x0, x1] => [x1, x0]
  | l => l
theorem kb_pieces_error_0 {K : PySem.W.Frag} {f : Addr} {fd : FuncData} (F : Fun K "pieces_error" "pieces_error" s_pieces_error f fd) : KB K fd ["book", "value"] ["value", "book"] kb_pieces_error_0_g := by
  refine kb_of F (fun _ _ _ _ _ _ us hl => match us, hl with | [_, _], _ => rfl) fun R zs ws hl h => ?_
  cases h with
  | nil => simp at hl
  | cons f0 h0 =>
    cases h0 with
    | nil => simp at hl
    | cons f1 h1 =>
      cases h1 with
      | nil => exact .cons f1 (.cons f0 (.nil))
      | cons _ _ => simp at hl
abbrev b__law_reel : Ms := Sh.b__law_reel
abbrev d__law_reel : FD := Sh.d__law_reel
abbrev b__law_draw : Ms := Sh.b__law_draw
abbrev d__law_draw : FD := Sh.d__law_draw
abbrev b__law_pick : Ms := Sh.b__law_pick
abbrev d__law_pick : FD := Sh.d__law_pick
abbrev b__law_size : Ms := Sh.b__law_size
abbrev d__law_size : FD := Sh.d__law_size
abbrev b__law_book : Ms := Sh.b__law_book
abbrev d__law_book : FD := Sh.d__law_book
abbrev b__law_record_0 : Ms := (mLPut (mVar 3) (mCall (fDef d__law_draw) (aCons (mVar 0) (aCons (mCall fLen (aCons (mVar 3) aNil)) aNil))) (mOp oAdd (mC (.int 1)) (mCall (fDef d__law_draw) (aCons (mVar 0) (aCons (mC (.int 9)) aNil)))))
abbrev b__law_record_1 : Ms := (mRet (mCall fTuple (aCons (mVar 3) aNil)))
abbrev b__law_record_2 : Ms := (mSeq (mIf (mTest (mOp (oEq false) (mLcO (mVar 3) (gN 5) (mTest (mOp oGt (mVar 5) (mC (.int 0)))) (mVar 5) [5]) (mLst aNil))) b__law_record_0 mNext) b__law_record_1)
abbrev b__law_record_3 : Ms := (mSeq (mSet 3 (mLcL (iSeq (mVar 1)) (gN 4) bYes (mCall (fDef d__law_pick) (aCons (mVar 0) (aCons (mVar 2) aNil))) [4])) b__law_record_2)
abbrev b__law_record_4 : Ms := (mSeq (mSet 2 (mLst (aCons (mC (.int 0)) (aCons (mC (.int 0)) (aCons (mC (.int 1)) (aCons (mC (.int 1)) (aCons (mC (.int 2)) (aCons (mC (.int 3)) (aCons (mCall (fDef d__law_draw) (aCons (mVar 0) (aCons (mC (.int 30)) aNil))) (aCons (mOp oPow (mC (.int 10)) (mC (.int 30))) (aCons (mCall (fDef d__law_draw) (aCons (mVar 0) (aCons (mOp oPow (mC (.int 10)) (mC (.int 9))) aNil))) aNil))))))))))) b__law_record_3)
abbrev b__law_record : Ms := b__law_record_4
def d__law_record : FD := mDef 2 6 b__law_record
abbrev b__law_pick_v_0 : Ms := (mRet (mOp oQIx (mVar 1) (mCall (fDef d__law_draw) (aCons (mVar 0) (aCons (mCall fQLen (aCons (mVar 1) aNil)) aNil)))))
abbrev b__law_pick_v : Ms := b__law_pick_v_0
def d__law_pick_v : FD := mDef 2 2 b__law_pick_v
abbrev b__law_far_0 : Ms := (mSet 0 (mOp oMulV (mVar 0) (mOp oPow (mC (.int 10)) (mC (.int 57)))))
abbrev b__law_far_1 : Ms := (mRet (mVar 0))
abbrev b__law_far_2 : Ms := (mSeq (mFor (iRange (aCons (mC (.int 7)) aNil)) (gN 1) b__law_far_0) b__law_far_1)
abbrev b__law_far_3 : Ms := (mSeq (mSet 0 (mC (.int 1))) b__law_far_2)
abbrev b__law_far : Ms := b__law_far_3
def d__law_far : FD := mDef 0 2 b__law_far
abbrev b__law_odd_0 : Ms := (mRet (mCall (fDef d__law_pick_v) (aCons (mVar 0) (aCons (mVar 3) aNil))))
abbrev b__law_odd_1 : Ms := (mRet (mOp oQAdd (mOp oQAdd (mQSl (mVar 1) oNone (oPart (mVar 4))) (mQTup (aCons (mVar 5) aNil))) (mQSl (mVar 1) (oPart (mOp oQAdd (mVar 4) (mC (.int 1)))) oNone)))
abbrev b__law_odd_2 : Ms := (mSeq (mSet 5 (mCall (fDef d__law_pick_v) (aCons (mVar 0) (aCons (mOp oQAdd (mVar 2) (mQLst (aCons (mUn oNeg (mC (.int 1))) (aCons (mC (.bool true)) (aCons (mC (.bool false)) (aCons (mC .none) (aCons (mC (.str "0")) (aCons (mTup (aCons (mC (.int 0)) aNil)) (aCons (mLst (aCons (mC (.int 0)) aNil)) (aCons (mQDic []) (aCons (mOp oPow (mC (.int 10)) (mC (.int 60))) (aCons (mOp oSub (mC (.int 0)) (mCall fQLen (aCons (mVar 1) aNil))) aNil)))))))))))) aNil)))) b__law_odd_1)
abbrev b__law_odd_3 : Ms := (mSeq (mSet 2 (mOp oQAdd (mVar 2) (mQLst (aCons (mCall (fDef d__law_far) aNil) (aCons (mOp oSub (mC (.int 0)) (mCall (fDef d__law_far) aNil)) aNil))))) b__law_odd_2)
abbrev b__law_odd_4 : Ms := (mSeq (mSet 4 (mCall (fDef d__law_draw) (aCons (mVar 0) (aCons (mCall fQLen (aCons (mVar 1) aNil)) aNil)))) b__law_odd_3)
abbrev b__law_odd_5 : Ms := (mSeq (mIf (bOr (mTest (mOp oQNil (mVar 1) (mTup aNil))) (mTest (mOp (oEq false) (mCall (fDef d__law_draw) (aCons (mVar 0) (aCons (mC (.int 4)) aNil))) (mC (.int 0))))) b__law_odd_0 mNext) b__law_odd_4)
abbrev b__law_odd_6 : Ms := (mSeq (mSet 3 (mQLst (aCons (mCall fQList (aCons (mVar 1) aNil)) (aCons (mTup aNil) (aCons (mC .none) (aCons (mOp oQAdd (mVar 1) (mQSl (mVar 1) oNone (oPart (mC (.int 1))))) (aCons (mQSl (mVar 1) (oPart (mC (.int 1))) oNone) (aCons (mQTup (aCons (mVar 1) aNil)) (aCons (mC (.int 0)) (aCons (mC (.str "01")) (aCons (mQDic []) (aCons (mC (.bool true)) aNil)))))))))))) b__law_odd_5)
abbrev b__law_odd : Ms := b__law_odd_6
def d__law_odd : FD := mDef 3 6 b__law_odd
abbrev b__law_is_int_0 : Ms := (mRet (mAnd (mQIsj "int" qt_int [("Desk", false)] (mVar 0)) (mAnd (mNot (mQIsj "bool" qt_bool [("Desk", false)] (mVar 0))) (mChain oLe oLe (mVar 1) (mVar 0) (mVar 2)))))
abbrev b__law_is_int : Ms := b__law_is_int_0
def d__law_is_int : FD := mDef 3 3 b__law_is_int
abbrev b__law_row_fault_0 : Ms := (mRet (mC (.str "form")))
abbrev b__law_row_fault_1 : Ms := (mRet (mQTup (aCons (mC (.str "place")) (aCons (mVar 2) aNil))))
abbrev b__law_row_fault_2 : Ms := (mIf (bNot (mTest (mCall (fDef d__law_is_int) (aCons (mVar 3) (aCons (mC (.int 0)) (aCons (mOp oSub (mCall fQLen (aCons (mVar 0) aNil)) (mC (.int 1))) aNil)))))) b__law_row_fault_1 mNext)
abbrev b__law_row_fault_3 : Ms := (mRet (mC .none))
abbrev b__law_row_fault_4 : Ms := (mSeq (mForEnQ (mVar 1) 2 3 b__law_row_fault_2) b__law_row_fault_3)
abbrev b__law_row_fault_5 : Ms := (mSeq (mIf (bOr (bNot (mTest (mQIsj "tuple" qt_tuple [("Desk", false)] (mVar 1)))) (bOr (mTest (mOp oLt (mCall fQLen (aCons (mVar 1) aNil)) (mC (.int 1)))) (mTest (mOp oGt (mCall fQLen (aCons (mVar 1) aNil)) (mC (.int 100)))))) b__law_row_fault_0 mNext) b__law_row_fault_4)
abbrev b__law_row_fault : Ms := b__law_row_fault_5
def d__law_row_fault : FD := mDef 2 4 b__law_row_fault
abbrev b__law_pieces_fault_0 : Ms := (mRet (mC (.str "form")))
abbrev b__law_pieces_fault_1 : Ms := (mRet (mQTup (aCons (mC (.str "piece")) (aCons (mVar 2) aNil))))
abbrev b__law_pieces_fault_2 : Ms := (mRet (mQTup (aCons (mC (.str "piece")) (aCons (mVar 2) aNil))))
abbrev b__law_pieces_fault_3 : Ms := (mIf (bNot (mTest (mCall (fDef d__law_is_int) (aCons (mOp oQIx (mVar 3) (mC (.int 1))) (aCons (mC (.int 1)) (aCons (mOp oPow (mC (.int 10)) (mC (.int 30))) aNil)))))) b__law_pieces_fault_2 mNext)
abbrev b__law_pieces_fault_4 : Ms := (mSeq (mIf (bOr (bNot (mTest (mQIsj "tuple" qt_tuple [("Desk", false)] (mVar 3)))) (bOr (mTest (mOp (oEq true) (mCall fQLen (aCons (mVar 3) aNil)) (mC (.int 2)))) (mTest (mOp oNotN (mCall (fDef d__law_row_fault) (aCons (mVar 0) (aCons (mOp oQIx (mVar 3) (mC (.int 0))) aNil))) (mC .none))))) b__law_pieces_fault_1 mNext) b__law_pieces_fault_3)
abbrev b__law_pieces_fault_5 : Ms := (mRet (mC .none))
abbrev b__law_pieces_fault_6 : Ms := (mSeq (mForEnQ (mVar 1) 2 3 b__law_pieces_fault_4) b__law_pieces_fault_5)
abbrev b__law_pieces_fault_7 : Ms := (mSeq (mIf (bOr (bNot (mTest (mQIsj "tuple" qt_tuple [("Desk", false)] (mVar 1)))) (bOr (mTest (mOp oLt (mCall fQLen (aCons (mVar 1) aNil)) (mC (.int 1)))) (mTest (mOp oGt (mCall fQLen (aCons (mVar 1) aNil)) (mC (.int 20)))))) b__law_pieces_fault_0 mNext) b__law_pieces_fault_6)
abbrev b__law_pieces_fault : Ms := b__law_pieces_fault_7
def d__law_pieces_fault : FD := mDef 2 4 b__law_pieces_fault
abbrev b__law_record_fault_0 : Ms := (mRet (mC (.str "form")))
abbrev b__law_record_fault_1 : Ms := (mRet (mQTup (aCons (mC (.str "number")) (aCons (mVar 2) aNil))))
abbrev b__law_record_fault_2 : Ms := (mIf (bNot (mTest (mCall (fDef d__law_is_int) (aCons (mVar 3) (aCons (mC (.int 0)) (aCons (mOp oPow (mC (.int 10)) (mC (.int 30))) aNil)))))) b__law_record_fault_1 mNext)
abbrev b__law_record_fault_3 : Ms := (mRet (mIte (mTest (mOp (oEq false) (mCall (fDn fSumT) (aCons (mVar 1) aNil)) (mC (.int 0)))) (mC (.str "empty")) (mC .none)))
abbrev b__law_record_fault_4 : Ms := (mSeq (mForEnQ (mVar 1) 2 3 b__law_record_fault_2) b__law_record_fault_3)
abbrev b__law_record_fault_5 : Ms := (mSeq (mIf (bOr (bNot (mTest (mQIsj "tuple" qt_tuple [("Desk", false)] (mVar 1)))) (mTest (mOp (oEq true) (mCall fQLen (aCons (mVar 1) aNil)) (mCall fQLen (aCons (mVar 0) aNil))))) b__law_record_fault_0 mNext) b__law_record_fault_4)
abbrev b__law_record_fault : Ms := b__law_record_fault_5
def d__law_record_fault : FD := mDef 2 4 b__law_record_fault
abbrev b_is_tuple_within_0 : Ms := (mRet (mAnd (mQIsj "tuple" qt_tuple [("Desk", false)] (mVar 0)) (mChain oLe oLe (mVar 1) (mCall fQLen (aCons (mVar 0) aNil)) (mVar 2))))
abbrev b_is_tuple_within : Ms := b_is_tuple_within_0
def d_is_tuple_within : FD := mDef 3 3 b_is_tuple_within
abbrev b_is_integer_0 : Ms := (mRet (mAnd (mQIsj "int" qt_int [("Desk", false)] (mVar 0)) (mNot (mQIsj "bool" qt_bool [("Desk", false)] (mVar 0)))))
abbrev b_is_integer : Ms := b_is_integer_0
def d_is_integer : FD := mDef 1 1 b_is_integer
abbrev b_is_integer_within_0 : Ms := (mRet (mAnd (mCall (fDef d_is_integer) (aCons (mVar 0) aNil)) (mChain oLe oLe (mVar 1) (mVar 0) (mVar 2))))
abbrev b_is_integer_within : Ms := b_is_integer_within_0
def d_is_integer_within : FD := mDef 3 3 b_is_integer_within
abbrev b_record_error_0 : Ms := (mRet (mC (.str "form")))
abbrev b_record_error_1 : Ms := (mRet (mQTup (aCons (mC (.str "number")) (aCons (mVar 2) aNil))))
abbrev b_record_error_2 : Ms := (mIf (bNot (mTest (mCall (fDef d_is_integer_within) (aCons (mVar 3) (aCons (mC (.int 0)) (aCons (mC (.int 1000000000000000000000000000000)) aNil)))))) b_record_error_1 mNext)
abbrev b_record_error_3 : Ms := (mRet (mC (.str "empty")))
abbrev b_record_error_4 : Ms := (mRet (mC .none))
abbrev b_record_error_5 : Ms := (mSeq (mIf (mTest (mOp (oEq false) (mCall (fDn fSumT) (aCons (mVar 1) aNil)) (mC (.int 0)))) b_record_error_3 mNext) b_record_error_4)
abbrev b_record_error_6 : Ms := (mSeq (mForEnQ (mVar 1) 2 3 b_record_error_2) b_record_error_5)
abbrev b_record_error_7 : Ms := (mSeq (mIf (bNot (mTest (mCall (fDef d_is_tuple_within) (aCons (mVar 1) (aCons (mCall fQLen (aCons (mVar 0) aNil)) (aCons (mCall fQLen (aCons (mVar 0) aNil)) aNil)))))) b_record_error_0 mNext) b_record_error_6)
abbrev b_record_error : Ms := b_record_error_7
def d_record_error : FD := mDef 2 4 b_record_error
abbrev b_is_place_0 : Ms := (mRet (mCall (fDef d_is_integer_within) (aCons (mVar 1) (aCons (mC (.int 0)) (aCons (mOp oSub (mCall fQLen (aCons (mVar 0) aNil)) (mC (.int 1))) aNil)))))
abbrev b_is_place : Ms := b_is_place_0
def d_is_place : FD := mDef 2 2 b_is_place
abbrev b_row_error_0 : Ms := (mRet (mC (.str "form")))
abbrev b_row_error_1 : Ms := (mRet (mQTup (aCons (mC (.str "place")) (aCons (mVar 2) aNil))))
abbrev b_row_error_2 : Ms := (mIf (bNot (mTest (mCall (fDef d_is_place) (aCons (mVar 0) (aCons (mVar 3) aNil))))) b_row_error_1 mNext)
abbrev b_row_error_3 : Ms := (mRet (mC .none))
abbrev b_row_error_4 : Ms := (mSeq (mForEnQ (mVar 1) 2 3 b_row_error_2) b_row_error_3)
abbrev b_row_error_5 : Ms := (mSeq (mIf (bNot (mTest (mCall (fDef d_is_tuple_within) (aCons (mVar 1) (aCons (mC (.int 1)) (aCons (mC (.int 100)) aNil)))))) b_row_error_0 mNext) b_row_error_4)
abbrev b_row_error : Ms := b_row_error_5
def d_row_error : FD := mDef 2 4 b_row_error
abbrev b_is_piece_0 : Ms := (mRet (mC (.bool false)))
abbrev b_is_piece_1 : Ms := (mRet (mAnd (mOp oIsN (mCall (fDef d_row_error) (aCons (mVar 0) (aCons (mVar 2) aNil))) (mC .none)) (mCall (fDef d_is_integer_within) (aCons (mVar 3) (aCons (mC (.int 1)) (aCons (mC (.int 1000000000000000000000000000000)) aNil))))))
abbrev b_is_piece_2 : Ms := (mSeq (mAsg (mVar 1) (gQTu 2 (qsCons (gN 2) (qsCons (gN 3) qsNil)))) b_is_piece_1)
abbrev b_is_piece_3 : Ms := (mSeq (mIf (bNot (mTest (mCall (fDef d_is_tuple_within) (aCons (mVar 1) (aCons (mC (.int 2)) (aCons (mC (.int 2)) aNil)))))) b_is_piece_0 mNext) b_is_piece_2)
abbrev b_is_piece : Ms := b_is_piece_3
def d_is_piece : FD := mDef 2 4 b_is_piece
abbrev b_pieces_error_0 : Ms := (mRet (mC (.str "form")))
abbrev b_pieces_error_1 : Ms := (mRet (mQTup (aCons (mC (.str "piece")) (aCons (mVar 2) aNil))))
abbrev b_pieces_error_2 : Ms := (mIf (bNot (mTest (mCall (fDef d_is_piece) (aCons (mVar 0) (aCons (mVar 3) aNil))))) b_pieces_error_1 mNext)
abbrev b_pieces_error_3 : Ms := (mRet (mC .none))
abbrev b_pieces_error_4 : Ms := (mSeq (mForEnQ (mVar 1) 2 3 b_pieces_error_2) b_pieces_error_3)
abbrev b_pieces_error_5 : Ms := (mSeq (mIf (bNot (mTest (mCall (fDef d_is_tuple_within) (aCons (mVar 1) (aCons (mC (.int 1)) (aCons (mC (.int 20)) aNil)))))) b_pieces_error_0 mNext) b_pieces_error_4)
abbrev b_pieces_error : Ms := b_pieces_error_5
def d_pieces_error : FD := mDef 2 4 b_pieces_error
abbrev b__law_told_0 : Ms := (mRet (mIte (mTest (mVar 3)) (mCallK kb_record_error_0_g 2 (fDef d_record_error) (aCons (mVar 2) (aCons (mVar 1) aNil))) (mCall (fDef d_record_error) (aCons (mVar 1) (aCons (mVar 2) aNil)))))
abbrev b__law_told_1 : Ms := (mRet (mIte (mTest (mVar 3)) (mCallK kb_row_error_0_g 2 (fDef d_row_error) (aCons (mVar 2) (aCons (mVar 1) aNil))) (mCall (fDef d_row_error) (aCons (mVar 1) (aCons (mVar 2) aNil)))))
abbrev b__law_told_2 : Ms := (mRet (mIte (mTest (mVar 3)) (mCallK kb_pieces_error_0_g 2 (fDef d_pieces_error) (aCons (mVar 2) (aCons (mVar 1) aNil))) (mCall (fDef d_pieces_error) (aCons (mVar 1) (aCons (mVar 2) aNil)))))
abbrev b__law_told_3 : Ms := (mSeq (mIf (mTest (mOp (oEq false) (mVar 0) (mC (.str "row")))) b__law_told_1 mNext) b__law_told_2)
abbrev b__law_told_4 : Ms := (mSeq (mIf (mTest (mOp (oEq false) (mVar 0) (mC (.str "record")))) b__law_told_0 mNext) b__law_told_3)
abbrev b__law_told : Ms := b__law_told_4
def d__law_told : FD := mDef 4 4 b__law_told
abbrev b__law_is_told_0 : Ms := (mRet (mAnd (mOp (oEq false) (mCall fQRepr (aCons (mVar 6) aNil)) (mCall fQRepr (aCons (mQLst (aCons (mVar 4) (aCons (mVar 4) aNil))) aNil))) (mOp (oEq false) (mCall fQRepr (aCons (mQLst (aCons (mVar 1) (aCons (mVar 2) aNil))) aNil)) (mVar 5))))
abbrev b__law_is_told_1 : Ms := (mSeq (mSet 6 (mQLst (aCons (mCall (fDef d__law_told) (aCons (mVar 0) (aCons (mVar 1) (aCons (mVar 2) (aCons (mVar 3) aNil))))) (aCons (mCall (fDef d__law_told) (aCons (mVar 0) (aCons (mVar 1) (aCons (mVar 2) (aCons (mC (.bool false)) aNil))))) aNil)))) b__law_is_told_0)
abbrev b__law_is_told_2 : Ms := (mSeq (mSet 5 (mCall fQRepr (aCons (mQLst (aCons (mVar 1) (aCons (mVar 2) aNil))) aNil))) b__law_is_told_1)
abbrev b__law_is_told_3 : Ms := (mSeq (mSet 4 (mIte (mTest (mOp (oEq false) (mVar 0) (mC (.str "record")))) (mCall (fDef d__law_record_fault) (aCons (mVar 1) (aCons (mVar 2) aNil))) (mVar 4))) b__law_is_told_2)
abbrev b__law_is_told_4 : Ms := (mSeq (mSet 4 (mIte (mTest (mOp (oEq false) (mVar 0) (mC (.str "row")))) (mCall (fDef d__law_row_fault) (aCons (mVar 1) (aCons (mVar 2) aNil))) (mCall (fDef d__law_pieces_fault) (aCons (mVar 1) (aCons (mVar 2) aNil))))) b__law_is_told_3)
abbrev b__law_is_told : Ms := b__law_is_told_4
def d__law_is_told : FD := mDef 4 7 b__law_is_told
abbrev b__law_row : Ms := Sh.b__law_row
abbrev d__law_row : FD := Sh.d__law_row
abbrev b__law_odd_piece_0 : Ms := (mRet (mCall (fDef d__law_pick_v) (aCons (mVar 0) (aCons (mOp oQAdd (mVar 5) (mQLst (aCons (mTup (aCons (mTup aNil) (aCons (mC (.int 1)) aNil))) (aCons (mQTup (aCons (mVar 3) (aCons (mCall fStr (aCons (mVar 4) aNil)) aNil))) (aCons (mQTup (aCons (mVar 3) (aCons (mQLst (aCons (mVar 4) aNil)) aNil))) (aCons (mVar 2) aNil)))))) aNil))))
abbrev b__law_odd_piece_1 : Ms := (mSeq (mSet 5 (mOp oQAdd (mVar 5) (mQLst (aCons (mQTup (aCons (mCall fQList (aCons (mVar 3) aNil)) (aCons (mC (.int 1)) aNil))) (aCons (mTup (aCons (mC (.int 0)) (aCons (mC (.int 1)) aNil))) (aCons (mQTup (aCons (mVar 3) (aCons (mCall (fDef d__law_far) aNil) aNil))) (aCons (mQTup (aCons (mVar 3) (aCons (mOp oSub (mC (.int 0)) (mCall (fDef d__law_far) aNil)) aNil))) aNil))))))) b__law_odd_piece_0)
abbrev b__law_odd_piece_2 : Ms := (mSeq (mSet 5 (mOp oQAdd (mVar 5) (mQLst (aCons (mQTup (aCons (mVar 3) (aCons (mC .none) aNil))) (aCons (mQTup (aCons (mVar 3) aNil)) (aCons (mQTup (aCons (mVar 3) (aCons (mVar 4) (aCons (mC (.int 1)) aNil)))) (aCons (mQLst (aCons (mVar 3) (aCons (mVar 4) aNil))) (aCons (mC .none) (aCons (mTup aNil) (aCons (mVar 3) (aCons (mQTup (aCons (mVar 4) (aCons (mVar 3) aNil))) (aCons (mTup (aCons (mOp oRepT (mTup (aCons (mC (.int 0)) aNil)) (mC (.int 101))) (aCons (mC (.int 1)) aNil))) aNil)))))))))))) b__law_odd_piece_1)
abbrev b__law_odd_piece_3 : Ms := (mSeq (mSet 5 (mQLst (aCons (mQTup (aCons (mCall (fDef d__law_odd) (aCons (mVar 0) (aCons (mVar 3) (aCons (mQLst (aCons (mCall fQLen (aCons (mVar 1) aNil)) aNil)) aNil)))) (aCons (mVar 4) aNil))) (aCons (mQTup (aCons (mVar 3) (aCons (mC (.int 0)) aNil))) (aCons (mQTup (aCons (mVar 3) (aCons (mUn oNeg (mC (.int 1))) aNil))) (aCons (mQTup (aCons (mVar 3) (aCons (mOp oAdd (mOp oPow (mC (.int 10)) (mC (.int 30))) (mC (.int 1))) aNil))) (aCons (mQTup (aCons (mVar 3) (aCons (mC (.bool true)) aNil))) aNil))))))) b__law_odd_piece_2)
abbrev b__law_odd_piece_4 : Ms := (mSeq (mAsg (mVar 2) (gQTu 2 (qsCons (gN 3) (qsCons (gN 4) qsNil)))) b__law_odd_piece_3)
abbrev b__law_odd_piece : Ms := b__law_odd_piece_4
def d__law_odd_piece : FD := mDef 3 6 b__law_odd_piece
abbrev b_is_size_0 : Ms := (mRet (mCall (fDef d_is_integer_within) (aCons (mVar 0) (aCons (mC (.int 1)) (aCons (mC (.int 1000000000000000000000000000000)) aNil)))))
abbrev b_is_size : Ms := b_is_size_0
def d_is_size : FD := mDef 1 1 b_is_size
abbrev b_is_alignment_0 : Ms := (mRet (mAnd (mCall (fDef d_is_integer) (aCons (mVar 0) aNil)) (mOp (oIn false) (mVar 0) (mC (.tuple (List.map PyData.int [1, 2, 4, 8, 16, 32, 64]))))))
abbrev b_is_alignment : Ms := b_is_alignment_0
def d_is_alignment : FD := mDef 1 1 b_is_alignment
abbrev b_is_kind_0 : Ms := (mRet (mAnd (mCall (fDef d_is_tuple_within) (aCons (mVar 0) (aCons (mC (.int 2)) (aCons (mC (.int 2)) aNil)))) (mAnd (mCall (fDef d_is_size) (aCons (mOp oQIx (mVar 0) (mC (.int 0))) aNil)) (mCall (fDef d_is_alignment) (aCons (mOp oQIx (mVar 0) (mC (.int 1))) aNil)))))
abbrev b_is_kind : Ms := b_is_kind_0
def d_is_kind : FD := mDef 1 1 b_is_kind
abbrev b_book_error_0 : Ms := (mRet (mC (.str "form")))
abbrev b_book_error_1 : Ms := (mRet (mQTup (aCons (mC (.str "kind")) (aCons (mVar 1) aNil))))
abbrev b_book_error_2 : Ms := (mIf (bNot (mTest (mCall (fDef d_is_kind) (aCons (mVar 2) aNil)))) b_book_error_1 mNext)
abbrev b_book_error_3 : Ms := (mRet (mC .none))
abbrev b_book_error_4 : Ms := (mSeq (mForEnQ (mVar 0) 1 2 b_book_error_2) b_book_error_3)
abbrev b_book_error_5 : Ms := (mSeq (mIf (bNot (mTest (mCall (fDef d_is_tuple_within) (aCons (mVar 0) (aCons (mC (.int 1)) (aCons (mC (.int 6)) aNil)))))) b_book_error_0 mNext) b_book_error_4)
abbrev b_book_error : Ms := b_book_error_5
def d_book_error : FD := mDef 1 3 b_book_error
abbrev b_Desk____init___0 : Ms := mDead
abbrev b_Desk____init___1 : Ms := (mSetI "Desk" "_undone" (mVar 0) (mNewD aNil))
abbrev b_Desk____init___2 : Ms := (mSeq (mSetI "Desk" "_edits" (mVar 0) (mNewD aNil)) b_Desk____init___1)
abbrev b_Desk____init___3 : Ms := (mSeq (mSetI "Desk" "_books" (mVar 0) (mNewD (aCons (mVar 1) aNil))) b_Desk____init___2)
abbrev b_Desk____init___4 : Ms := (mSeq (mIf (mTest (mOp oNotN (mVar 2) (mC .none))) b_Desk____init___0 mNext) b_Desk____init___3)
abbrev b_Desk____init___5 : Ms := (mSeq (mSet 2 (mCall (fDef d_book_error) (aCons (mVar 1) aNil))) b_Desk____init___4)
abbrev b_Desk____init__ : Ms := b_Desk____init___5
def d_Desk____init__ : FD := mDef 2 3 b_Desk____init__
abbrev b__law_are_refused_0 : Ms := (mDrop (mMeth fApp (mVar 1) (aCons (mQLst (aCons (mCall (fDefC d_pieces_error) (aCons (mVar 0) (aCons (mQTup (aCons (mTup (aCons (mTup (aCons (mC (.int 0)) aNil)) (aCons (mC (.int 1)) aNil))) (aCons (mVar 2) aNil))) aNil))) (aCons (mCall (fDefC d_pieces_error) (aCons (mVar 0) (aCons (mQTup (aCons (mQTup (aCons (mTup (aCons (mC (.int 0)) aNil)) (aCons (mVar 2) aNil))) aNil)) aNil))) aNil))) aNil)))
abbrev b__law_are_refused_1 : Ms := (mSeq (mDrop (mMeth fApp (mVar 1) (aCons (mQLst (aCons (mVar 3) (aCons (mCall (fDefC d_row_error) (aCons (mVar 0) (aCons (mQTup (aCons (mC (.int 0)) (aCons (mVar 2) aNil))) aNil))) (aCons (mCall (fDefC d_pieces_error) (aCons (mVar 0) (aCons (mQTup (aCons (mQTup (aCons (mVar 2) (aCons (mC (.int 1)) aNil))) aNil)) aNil))) aNil)))) aNil))) b__law_are_refused_0)
abbrev b__law_are_refused_2 : Ms := (mSeq (mSet 3 (mCall (fDefC d_record_error) (aCons (mVar 0) (aCons (mOp oQRep (mQTup (aCons (mVar 2) aNil)) (mCall fQLen (aCons (mVar 0) aNil))) aNil)))) b__law_are_refused_1)
abbrev b__law_are_refused_3 : Ms := (mSeq (mDrop (mMeth fApp (mVar 1) (aCons (mQLst (aCons (mCall (fDefC d_record_error) (aCons (mVar 0) (aCons (mVar 2) aNil))) (aCons (mCall (fDefC d_row_error) (aCons (mVar 0) (aCons (mVar 2) aNil))) (aCons (mCall (fDefC d_pieces_error) (aCons (mVar 0) (aCons (mVar 2) aNil))) aNil)))) aNil))) b__law_are_refused_2)
abbrev b__law_are_refused_4 : Ms := (mRet (mOp (oEq false) (mCall fQRepr (aCons (mVar 1) aNil)) (mCall fQRepr (aCons (mOp oMul (mVar 4) (mC (.int 2))) aNil))))
abbrev b__law_are_refused_5 : Ms := (mSeq (mSet 4 (mLst (aCons (mOp oMul (mLst (aCons (mC (.str "form")) aNil)) (mC (.int 3))) (aCons (mLst (aCons (mTup (aCons (mC (.str "number")) (aCons (mC (.int 0)) aNil))) (aCons (mTup (aCons (mC (.str "place")) (aCons (mC (.int 1)) aNil))) (aCons (mTup (aCons (mC (.str "piece")) (aCons (mC (.int 0)) aNil))) aNil)))) (aCons (mLst (aCons (mTup (aCons (mC (.str "piece")) (aCons (mC (.int 1)) aNil))) (aCons (mTup (aCons (mC (.str "piece")) (aCons (mC (.int 0)) aNil))) aNil))) aNil))))) b__law_are_refused_4)
abbrev b__law_are_refused_6 : Ms := (mSeq (mFor (iQSeq (mQTup (aCons (mMk0 "Unfit") (aCons (mNewQ "Desk" d_Desk____init__ (aCons (mVar 0) aNil)) aNil)))) (gN 2) b__law_are_refused_3) b__law_are_refused_5)
abbrev b__law_are_refused_7 : Ms := (mSeq (mSet 1 (mNewD aNil)) b__law_are_refused_6)
abbrev b__law_are_refused : Ms := b__law_are_refused_7
def d__law_are_refused : FD := mDefC 1 5 b__law_are_refused
abbrev b_law_0 : Ms := (mRet (mC (.bool false)))
abbrev b_law_1 : Ms := (mRet (mC (.bool false)))
abbrev b_law_2 : Ms := (mDrop (mMeth fApp (mVar 8) (aCons (mIte (mTest (mOp (oEq false) (mVar 6) (mC (.int 3)))) (mOp oQAdd (mFrz (mVar 5)) (mTup (aCons (mC .none) aNil))) (mFrz (mVar 5))) aNil)))
abbrev b_law_3 : Ms := (mSeq (mSet 5 (mOp oQAdd (mOp oQAdd (mQSl (mVar 13) oNone (oPart (mVar 14))) (mQTup (aCons (mCall (fDefC d__law_odd_piece) (aCons (mVar 1) (aCons (mVar 2) (aCons (mOp oQIx (mVar 13) (mVar 14)) aNil)))) aNil))) (mQSl (mVar 13) (oPart (mOp oQAdd (mVar 14) (mC (.int 1)))) oNone))) b_law_2)
abbrev b_law_4 : Ms := (mSeq (mSet 14 (mCall (fDefC d__law_draw) (aCons (mVar 1) (aCons (mVar 12) aNil)))) b_law_3)
abbrev b_law_5 : Ms := (mRet (mC (.bool false)))
abbrev b_law_6 : Ms := (mIf (mTest (mOp (oEq true) (mLcR (mVar 8) (gN 9) (bNot (mTest (mCall (fDefC d__law_is_told) (aCons (mC (.str "pieces")) (aCons (mVar 2) (aCons (mVar 9) (aCons (mOp (oEq false) (mOp oMod (mVar 3) (mC (.int 3))) (mC (.int 0))) aNil))))))) (mC (.int 1)) [9]) (mLst aNil))) b_law_5 mNext)
abbrev b_law_7 : Ms := (mSeq (mDrop (mMeth fApp (mVar 8) (aCons (mCall (fDefC d__law_odd) (aCons (mVar 1) (aCons (mVar 13) (aCons (mLst (aCons (mTup (aCons (mTup (aCons (mC (.int 0)) aNil)) (aCons (mC (.int 1)) aNil))) aNil)) aNil)))) aNil))) b_law_6)
abbrev b_law_8 : Ms := (mSeq (mDrop (mMeth fApp (mVar 8) (aCons (mOp oQAdd (mQSl (mVar 13) oNone (oPart (mC (.int 2)))) (mQTup (aCons (mQTup (aCons (mOp oQAdd (mQSl (mVar 15) oNone (oPart (mC (.int 64)))) (mTup (aCons (mUn oNeg (mC (.int 1))) aNil))) (aCons (mC (.int 1)) aNil))) aNil))) aNil))) b_law_7)
abbrev b_law_9 : Ms := (mSeq (mSet 8 (mOp oQAddM (mVar 8) (mQLst (aCons (mQTup (aCons (mQTup (aCons (mVar 15) (aCons (mC (.int 7)) aNil))) aNil)) (aCons (mOp oQAdd (mQSl (mVar 13) oNone (oPart (mC (.int 2)))) (mQTup (aCons (mQTup (aCons (mVar 15) (aCons (mC (.int 1)) aNil))) (aCons (mQTup (aCons (mOp oQAdd (mVar 15) (mVar 15)) (aCons (mC (.int 1)) aNil))) aNil)))) aNil))))) b_law_8)
abbrev b_law_10 : Ms := (mSeq (mSet 15 (mCall (fDefC d__law_row) (aCons (mVar 1) (aCons (mVar 2) (aCons (mCall (fDefC d__law_pick) (aCons (mVar 1) (aCons (mLst (aCons (mC (.int 65)) (aCons (mC (.int 99)) (aCons (mC (.int 100)) aNil)))) aNil))) aNil))))) b_law_9)
abbrev b_law_11 : Ms := (mSeq (mFor (iRange (aCons (mC (.int 4)) aNil)) (gN 6) b_law_4) b_law_10)
abbrev b_law_12 : Ms := (mSeq (mSet 8 (mNewD (aCons (mVar 13) (aCons (mOp oQRep (mVar 13) (mC (.int 21))) aNil)))) b_law_11)
abbrev b_law_13 : Ms := (mSeq (mSet 13 (mCall fTuple (aCons (mLc (iRange (aCons (mVar 12) aNil)) (gN 6) bYes (mTup (aCons (mCall (fDefC d__law_row) (aCons (mVar 1) (aCons (mVar 2) (aCons (mOp oAdd (mC (.int 1)) (mCall (fDefC d__law_draw) (aCons (mVar 1) (aCons (mC (.int 4)) aNil)))) aNil)))) (aCons (mCall (fDefC d__law_pick) (aCons (mVar 1) (aCons (mVar 11) aNil))) aNil))) [6]) aNil))) b_law_12)
abbrev b_law_14 : Ms := (mSeq (mSet 12 (mCall (fDefC d__law_pick) (aCons (mVar 1) (aCons (mLst (aCons (mC (.int 1)) (aCons (mC (.int 2)) (aCons (mC (.int 3)) (aCons (mC (.int 20)) aNil))))) aNil)))) b_law_13)
abbrev b_law_15 : Ms := (mSeq (mSet 11 (mLst (aCons (mC (.int 1)) (aCons (mOp oPow (mC (.int 10)) (mC (.int 30))) (aCons (mOp oAdd (mC (.int 1)) (mCall (fDefC d__law_draw) (aCons (mVar 1) (aCons (mC (.int 99)) aNil)))) aNil))))) b_law_14)
abbrev b_law_16 : Ms := (mSeq (mIf (mTest (mOp (oEq true) (mLcR (mVar 8) (gN 9) (bNot (mTest (mCall (fDefC d__law_is_told) (aCons (mC (.str "row")) (aCons (mVar 2) (aCons (mVar 9) (aCons (mOp (oEq false) (mOp oMod (mVar 3) (mC (.int 3))) (mC (.int 2))) aNil))))))) (mC (.int 1)) [9]) (mLst aNil))) b_law_1 mNext) b_law_15)
abbrev b_law_17 : Ms := (mSeq (mSet 8 (mOp oQAddM (mQLst (aCons (mVar 10) (aCons (mQSl (mOp oQRep (mVar 10) (mC (.int 101))) oNone (oPart (mC (.int 101)))) (aCons (mOp oQAdd (mQSl (mVar 10) oNone (oPart (mC (.int 50)))) (mQTup (aCons (mCall fQLen (aCons (mVar 2) aNil)) (aCons (mC (.int 0)) (aCons (mUn oNeg (mC (.int 1))) aNil))))) (aCons (mOp oQAdd (mQSl (mOp oQRep (mVar 10) (mC (.int 101))) oNone (oPart (mC (.int 100)))) (mTup (aCons (mUn oNeg (mC (.int 1))) aNil))) aNil))))) (mFrz (mVar 5)))) b_law_16)
abbrev b_law_18 : Ms := (mSeq (mSet 5 (mOp oQAddM (mFrz (mVar 5)) (mQLc (iQSeq (mQSl (mVar 5) oNone (oPart (mC (.int 2))))) (gN 7) (mTest (mQIsj "tuple" qt_tuple [("Desk", false)] (mVar 7))) (mCall (fDefC d__law_odd) (aCons (mVar 1) (aCons (mVar 7) (aCons (mQLst (aCons (mCall fQLen (aCons (mVar 2) aNil)) aNil)) aNil)))) [7]))) b_law_17)
abbrev b_law_19 : Ms := (mSeq (mSet 5 (mQLc (iRange (aCons (mC (.int 4)) aNil)) (gN 6) bYes (mCall (fDefC d__law_odd) (aCons (mVar 1) (aCons (mVar 10) (aCons (mQLst (aCons (mCall fQLen (aCons (mVar 2) aNil)) (aCons (mC (.int 6)) aNil))) aNil)))) [6])) b_law_18)
abbrev b_law_20 : Ms := (mSeq (mSet 10 (mCall (fDefC d__law_row) (aCons (mVar 1) (aCons (mVar 2) (aCons (mCall (fDefC d__law_pick) (aCons (mVar 1) (aCons (mLst (aCons (mC (.int 1)) (aCons (mC (.int 2)) (aCons (mC (.int 5)) (aCons (mC (.int 100)) aNil))))) aNil))) aNil))))) b_law_19)
abbrev b_law_21 : Ms := (mSeq (mIf (mTest (mOp (oEq true) (mLcR (mVar 8) (gN 9) (bNot (mTest (mCall (fDefC d__law_is_told) (aCons (mC (.str "record")) (aCons (mVar 2) (aCons (mVar 9) (aCons (mOp (oEq false) (mOp oMod (mVar 3) (mC (.int 3))) (mC (.int 1))) aNil))))))) (mC (.int 1)) [9]) (mLst aNil))) b_law_0 mNext) b_law_20)
abbrev b_law_22 : Ms := (mSeq (mSet 8 (mOp oQAddM (mQLst (aCons (mVar 4) (aCons (mOp oQRep (mTup (aCons (mC (.int 0)) aNil)) (mCall fQLen (aCons (mVar 2) aNil))) (aCons (mOp oQRep (mTup (aCons (mOp oPow (mC (.int 10)) (mC (.int 30))) aNil)) (mCall fQLen (aCons (mVar 2) aNil))) aNil)))) (mFrz (mVar 5)))) b_law_21)
abbrev b_law_23 : Ms := (mSeq (mDrop (mMeth fApp (mVar 5) (aCons (mOp oQAdd (mOp oQAdd (mTup (aCons (mC .none) aNil)) (mQSl (mVar 4) (oPart (mC (.int 1))) (oPart (mUn oNeg (mC (.int 1)))))) (mTup (aCons (mOp oAdd (mOp oPow (mC (.int 10)) (mC (.int 30))) (mC (.int 1))) aNil))) aNil))) b_law_22)
abbrev b_law_24 : Ms := (mSeq (mSet 5 (mOp oQAddM (mOp oQAdd (mFrz (mVar 5)) (mQLc (iQSeq (mQSl (mVar 5) oNone (oPart (mC (.int 2))))) (gN 7) (mTest (mQIsj "tuple" qt_tuple [("Desk", false)] (mVar 7))) (mCall (fDefC d__law_odd) (aCons (mVar 1) (aCons (mVar 7) (aCons (mLst (aCons (mUn oNeg (mC (.int 1))) aNil)) aNil)))) [7])) (mQLst (aCons (mQSl (mTup (aCons (mUn oNeg (mC (.int 1))) (aCons (mC (.bool true)) aNil))) oNone (oPart (mCall fQLen (aCons (mVar 2) aNil)))) aNil)))) b_law_23)
abbrev b_law_25 : Ms := (mSeq (mSet 5 (mQLc (iRange (aCons (mC (.int 4)) aNil)) (gN 6) bYes (mCall (fDefC d__law_odd) (aCons (mVar 1) (aCons (mVar 4) (aCons (mLst (aCons (mOp oAdd (mOp oPow (mC (.int 10)) (mC (.int 30))) (mC (.int 1))) aNil)) aNil)))) [6])) b_law_24)
abbrev b_law_26 : Ms := (mSeq (mSet 4 (mCall (fDefC d__law_record) (aCons (mVar 1) (aCons (mVar 2) aNil)))) b_law_25)
abbrev b_law_27 : Ms := (mSeq (mSet 2 (mCall (fDefC d__law_book) (aCons (mVar 1) (aCons (mOp oQAdd (mC (.int 1)) (mCall (fDefC d__law_draw) (aCons (mVar 1) (aCons (mC (.int 6)) aNil)))) aNil)))) b_law_26)
abbrev b_law_28 : Ms := (mRet (mCall (fDefC d__law_are_refused) (aCons (mVar 2) aNil)))
abbrev b_law_29 : Ms := (mSeq (mFor (iRange (aCons (mC (.int 6)) aNil)) (gN 3) b_law_27) b_law_28)
abbrev b_law_30 : Ms := (mSeq (mPar 1 2 (aCons (mCall (fDef d__law_reel) (aCons (mVar 0) aNil)) (aCons (mTup (aCons (mTup (aCons (mC (.int 1)) (aCons (mC (.int 1)) aNil))) aNil)) aNil))) b_law_29)
abbrev b_law : Ms := b_law_30
def d_law : FD := mDefC 1 16 b_law
section
variable {P : Program} {w : World} {K : PySem.W.Frag} {mg : Str → Option Value} {base : Heap}
theorem ok__law_reel (Z : Zs K mg)  {f : Addr} {fd : FuncData} (F : Fun K "_law_reel" "_law_reel" s__law_reel f fd) : FnG P w K mg base 1 f fd ["script"] (spM K d__law_reel) :=
  ok_def (k := 0) F sc__law_reel fun cdv A outer sh H E gd rm =>
   ((mss_cons (ms_par (i := 1) (j := 2) rfl sc__law_reel.nd rfl rfl (by decide) rfl rfl (ma_cons (me_lc (own := [("own", 3)]) rfl sc__law_reel.nd (mi_seq (me_slice (me_var (pv 0)) mo_none (mo_some me_int))) (blkOk_by (N := ["script", "cells", "stamp", "own", "deep"]) (sc := defScope s__law_reel) (by decide +kernel)) (fun _ _ _ _ _ => (mg_name (i := 3) sc__law_reel.nd rfl (by first | exact .inl rfl | exact .inr rfl))) (fun _ _ _ _ _ => mts_nil) (fun _ _ _ _ _ => (me_ite (mb_ge (me_var (pv 3)) me_int) (me_mul me_int (me_var (pv 3))) (me_sub (me_mul (me_neg me_int) (me_var (pv 3))) me_int))) (by decide)) (ma_cons (me_add (me_len (by rfl) Z.z_len (ma_cons (me_var (pv 0)) ma_nil)) me_int) ma_nil)) (by rfl))
    (mss_cons (ms_for PassesOwn.never rfl (mi_seq (me_var (pv 1))) (mg_name (i := 3) sc__law_reel.nd rfl (by first | exact .inl rfl | exact .inr rfl)) (mss_one (ms_set (i := 2) sc__law_reel.nd rfl (by first | exact .inl rfl | exact .inr rfl) (me_mod (me_inti (by rfl) Z.z_int (ma_cons (me_add (me_add (me_mul (me_var (pv 2)) me_int) (me_mul (me_var (pv 3)) me_int)) me_int) ma_nil)) me_int))))
    (mss_cons (ms_setLcD (n := 4) (own := [("own", 3)]) rfl sc__law_reel.nd rfl rfl (swT rfl rfl rfl (by decide +kernel)) (mi_seq (me_var (pv 1))) (blkOk_by (N := ["script", "cells", "stamp", "own", "deep"]) (sc := defScope s__law_reel) (by decide +kernel)) (fun _ _ _ _ _ => (mg_name (i := 3) sc__law_reel.nd rfl (by first | exact .inl rfl | exact .inr rfl))) (fun _ _ _ _ _ => (mts_one (mb_ge (me_var (pv 3)) (me_pow me_int me_int)))) (fun _ _ _ _ _ => (me_var (pv 3))) (by decide))
    (mss_one (ms_ret (me_disp (pps_cons pe_str (me_var (pv 4)) (pps_cons pe_str (me_add (me_var (pv 1)) (me_lst (ma_cons (me_add (me_mul me_int (me_len (by rfl) Z.z_len (ma_cons (me_var (pv 1)) ma_nil))) me_int) ma_nil))) (pps_cons pe_str (me_var (pv 2)) (pps_cons pe_str me_int pps_nil)))) rfl rfl (by simp) (by decide))))))) : MSs _ (defBody s__law_reel) b__law_reel)
theorem ok__law_draw (Z : Zs K mg)  {f : Addr} {fd : FuncData} (F : Fun K "_law_draw" "_law_draw" s__law_draw f fd) : FnG P w K mg base 1 f fd ["reel", "many"] (spM K d__law_draw) :=
  ok_def (k := 0) F sc__law_draw fun cdv A outer sh H E gd rm =>
   ((mss_cons (ms_set (i := 2) sc__law_draw.nd rfl (by first | exact .inl rfl | exact .inr rfl) (me_dget (hu_of rm) (me_var (pv 0)) me_str fun _ _ => rfl))
    (mss_cons (ms_if (MW.toB (mw_and (mb_ne rm (me_var (pv 2)) (me_lst ma_nil)) (mw_and1 (mb_gt (me_var (pv 1)) me_int)))) (mss_cons (ms_set (i := 3) sc__law_draw.nd rfl (by first | exact .inl rfl | exact .inr rfl) (me_pop (me_var (pv 2))))
    (mss_cons (ms_if (mb_ge (me_var (pv 3)) (me_var (pv 1))) (mss_one (ms_expr (me_append (me_var (pv 2)) (ma_cons (me_div (me_var (pv 3)) (me_var (pv 1))) ma_nil)))) mss_nil)
    (mss_one (ms_ret (me_mod (me_inti (by rfl) Z.z_int (ma_cons (me_var (pv 3)) ma_nil)) (me_var (pv 1))))))) mss_nil)
    (mss_cons (ms_dput (hu_of rm) (me_var (pv 0)) me_str (me_add (me_dget (hu_of rm) (me_var (pv 0)) me_str fun _ _ => rfl) me_int) (by rfl))
    (mss_cons (ms_par (i := 4) (j := 5) rfl sc__law_draw.nd rfl rfl (by decide) rfl rfl (ma_cons (me_dget (hu_of rm) (me_var (pv 0)) me_str fun _ _ => rfl) (ma_cons (me_dget (hu_of rm) (me_var (pv 0)) me_str fun _ _ => rfl) ma_nil)) (by rfl))
    (mss_cons (ms_set (i := 6) sc__law_draw.nd rfl (by first | exact .inl rfl | exact .inr rfl) (me_mod (me_inti (by rfl) Z.z_int (ma_cons (me_add (me_add (me_mul (me_ix (me_var (pv 5)) (me_mod (me_inti (by rfl) Z.z_int (ma_cons (me_mul (me_var (pv 4)) me_int) ma_nil)) (me_len (by rfl) Z.z_len (ma_cons (me_var (pv 5)) ma_nil))) fun _ _ => rfl) me_int) (me_dget (hu_of rm) (me_var (pv 0)) me_str fun _ _ => rfl)) (me_mul (me_var (pv 4)) me_int)) ma_nil)) me_int))
    (mss_cons (ms_for PassesOwn.never rfl (mi_range (by rfl) Z.z_range (ma_cons me_int ma_nil)) (mg_name (i := 7) sc__law_draw.nd rfl (by first | exact .inl rfl | exact .inr rfl)) (mss_one (ms_set (i := 6) sc__law_draw.nd rfl (by first | exact .inl rfl | exact .inr rfl) (me_mod (me_inti (by rfl) Z.z_int (ma_cons (me_add (me_mul (me_var (pv 6)) (me_var (pv 6))) (me_mul (me_dget (hu_of rm) (me_var (pv 0)) me_str fun _ _ => rfl) (me_add (me_var (pv 4)) (me_var (pv 7))))) ma_nil)) me_int))))
    (mss_one (ms_ret (me_mod (me_inti (by rfl) Z.z_int (ma_cons (me_div (me_var (pv 6)) me_int) ma_nil)) (me_var (pv 1))))))))))) : MSs _ (defBody s__law_draw) b__law_draw)
theorem ok__law_pick (Z : Zs K mg) (h__law_draw : Kn P w K mg base 1 "_law_draw" s__law_draw ["reel", "many"] d__law_draw) {f : Addr} {fd : FuncData} (F : Fun K "_law_pick" "_law_pick" s__law_pick f fd) : FnG P w K mg base 2 f fd ["reel", "things"] (spM K d__law_pick) :=
  ok_def (k := 1) F sc__law_pick fun cdv A outer sh H E gd rm =>
   ((mss_one (ms_ret (me_ix (me_var (pv 1)) (me_fn h__law_draw gd rm (by decide) (by rfl) (ma_cons (me_var (pv 0)) (ma_cons (me_len (by rfl) Z.z_len (ma_cons (me_var (pv 1)) ma_nil)) ma_nil))) fun _ _ => rfl))) : MSs _ (defBody s__law_pick) b__law_pick)
theorem ok__law_size (Z : Zs K mg) (h__law_draw : Kn P w K mg base 1 "_law_draw" s__law_draw ["reel", "many"] d__law_draw) (h__law_pick : Kn P w K mg base 2 "_law_pick" s__law_pick ["reel", "things"] d__law_pick) {f : Addr} {fd : FuncData} (F : Fun K "_law_size" "_law_size" s__law_size f fd) : FnG P w K mg base 3 f fd ["reel", "step"] (spM K d__law_size) :=
  ok_def (k := 2) F sc__law_size fun cdv A outer sh H E gd rm =>
   ((mss_cons (ms_par (i := 2) (j := 3) rfl sc__law_size.nd rfl rfl (by decide) rfl rfl (ma_cons (me_mul (me_var (pv 1)) (me_add me_int (me_fn h__law_draw gd rm (by decide) (by rfl) (ma_cons (me_var (pv 0)) (ma_cons me_int ma_nil))))) (ma_cons (me_fn h__law_draw gd rm (by decide) (by rfl) (ma_cons (me_var (pv 0)) (ma_cons me_int ma_nil))) ma_nil)) (by rfl))
    (mss_cons (ms_if (mb_lt (me_var (pv 3)) me_int) (mss_one (ms_ret (me_var (pv 2)))) mss_nil)
    (mss_cons (ms_if (mb_lt (me_var (pv 3)) me_int) (mss_one (ms_ret (me_max rfl (by rfl) Z.z_max (ma_cons me_int (ma_cons (me_add (me_var (pv 2)) (me_fn h__law_pick gd rm (by decide) (by rfl) (ma_cons (me_var (pv 0)) (ma_cons (me_lst (ma_cons (me_neg me_int) (ma_cons me_int (ma_cons (me_neg me_int) (ma_cons me_int ma_nil))))) ma_nil)))) ma_nil))))) mss_nil)
    (mss_cons (ms_if (mb_lt (me_var (pv 3)) me_int) (mss_one (ms_ret (me_add me_int (me_fn h__law_draw gd rm (by decide) (by rfl) (ma_cons (me_var (pv 0)) (ma_cons me_int ma_nil)))))) mss_nil)
    (mss_cons (ms_set (i := 4) sc__law_size.nd rfl (by first | exact .inl rfl | exact .inr rfl) (me_sub (me_pow me_int me_int) (me_mul (me_var (pv 1)) (me_fn h__law_draw gd rm (by decide) (by rfl) (ma_cons (me_var (pv 0)) (ma_cons me_int ma_nil))))))
    (mss_cons (ms_set (i := 5) sc__law_size.nd rfl (by first | exact .inl rfl | exact .inr rfl) (me_fn h__law_pick gd rm (by decide) (by rfl) (ma_cons (me_var (pv 0)) (ma_cons (me_lst (ma_cons me_int (ma_cons me_int (ma_cons (me_neg me_int) (ma_cons me_int (ma_cons (me_div (me_neg (me_var (pv 1))) me_int) (ma_cons (me_sub me_int (me_mul (me_fn h__law_draw gd rm (by decide) (by rfl) (ma_cons (me_var (pv 0)) (ma_cons (me_pow me_int me_int) ma_nil))) (me_pow me_int me_int))) ma_nil))))))) ma_nil))))
    (mss_one (ms_ret (me_min rfl (by rfl) Z.z_min (ma_cons (me_pow me_int me_int) (ma_cons (me_max rfl (by rfl) Z.z_max (ma_cons me_int (ma_cons (me_add (me_var (pv 4)) (me_var (pv 5))) ma_nil))) ma_nil))))))))))) : MSs _ (defBody s__law_size) b__law_size)
theorem ok__law_book (Z : Zs K mg) (h__law_pick : Kn P w K mg base 2 "_law_pick" s__law_pick ["reel", "things"] d__law_pick) (h__law_size : Kn P w K mg base 3 "_law_size" s__law_size ["reel", "step"] d__law_size) (h__law_draw : Kn P w K mg base 1 "_law_draw" s__law_draw ["reel", "many"] d__law_draw) {f : Addr} {fd : FuncData} (F : Fun K "_law_book" "_law_book" s__law_book f fd) : FnG P w K mg base 4 f fd ["reel", "many"] (spM K d__law_book) :=
  ok_def (k := 3) F sc__law_book fun cdv A outer sh H E gd rm =>
   ((mss_cons (ms_set (i := 2) sc__law_book.nd rfl (by first | exact .inl rfl | exact .inr rfl) (me_newL ma_nil))
    (mss_cons (ms_for PassesOwn.never rfl (mi_range (by rfl) Z.z_range (ma_cons (me_var (pv 1)) ma_nil)) (mg_name (i := 3) sc__law_book.nd rfl (by first | exact .inl rfl | exact .inr rfl)) (mss_cons (ms_set (i := 4) sc__law_book.nd rfl (by first | exact .inl rfl | exact .inr rfl) (me_fn h__law_pick gd rm (by decide) (by rfl) (ma_cons (me_var (pv 0)) (ma_cons (me_lst (ma_cons me_int (ma_cons me_int (ma_cons me_int (ma_cons me_int (ma_cons me_int (ma_cons me_int (ma_cons me_int (ma_cons me_int (ma_cons me_int (ma_cons me_int ma_nil))))))))))) ma_nil))))
    (mss_cons (ms_expr (me_append (me_var (pv 2)) (ma_cons (me_tup (ma_cons (me_fn h__law_size gd rm (by decide) (by rfl) (ma_cons (me_var (pv 0)) (ma_cons (me_var (pv 4)) ma_nil))) (ma_cons (me_var (pv 4)) ma_nil))) ma_nil)))
    (mss_one (ms_if (MW.toB (mw_and (mb_gt (me_var (pv 3)) me_int) (mw_and1 (mb_eq rm (me_fn h__law_draw gd rm (by decide) (by rfl) (ma_cons (me_var (pv 0)) (ma_cons me_int ma_nil))) me_int)))) (mss_one (ms_lput (me_var (pv 2)) (me_var (pv 3)) (me_ix (me_var (pv 2)) (me_sub (me_var (pv 3)) me_int) fun _ _ => rfl) fun ho hi => pg_sub ho hi set_list)) mss_nil)))))
    (mss_one (ms_ret (me_tuple (by rfl) Z.z_tuple (ma_cons (me_var (pv 2)) ma_nil)))))) : MSs _ (defBody s__law_book) b__law_book)
theorem ok__law_record (Z : Zs K mg) (h__law_draw : Kn P w K mg base 1 "_law_draw" s__law_draw ["reel", "many"] d__law_draw) (h__law_pick : Kn P w K mg base 2 "_law_pick" s__law_pick ["reel", "things"] d__law_pick) {f : Addr} {fd : FuncData} (F : Fun K "_law_record" "_law_record" s__law_record f fd) : FnG P w K mg base 3 f fd ["reel", "book"] (spM K d__law_record) :=
  ok_def (k := 2) F sc__law_record fun cdv A outer sh H E gd rm =>
   ((mss_cons (ms_set (i := 2) sc__law_record.nd rfl (by first | exact .inl rfl | exact .inr rfl) (me_lst (ma_cons me_int (ma_cons me_int (ma_cons me_int (ma_cons me_int (ma_cons me_int (ma_cons me_int (ma_cons (me_fn h__law_draw gd rm (by decide) (by rfl) (ma_cons (me_var (pv 0)) (ma_cons me_int ma_nil))) (ma_cons (me_pow me_int me_int) (ma_cons (me_fn h__law_draw gd rm (by decide) (by rfl) (ma_cons (me_var (pv 0)) (ma_cons (me_pow me_int me_int) ma_nil))) ma_nil)))))))))))
    (mss_cons (ms_setLcL (n := 3) (own := [("kind", 4)]) rfl sc__law_record.nd rfl rfl (swT rfl rfl rfl (by decide +kernel)) (mi_seq (me_var (pv 1))) (blkOk_by (N := ["reel", "book", "menu", "found", "kind", "own"]) (sc := defScope s__law_record) (by decide +kernel)) (fun _ _ _ _ _ => (mg_name (i := 4) sc__law_record.nd rfl (by first | exact .inl rfl | exact .inr rfl))) (fun _ _ _ _ _ => mts_nil) (fun _ _ _ _ _ => (me_fn h__law_pick gd rm (by decide) (by rfl) (ma_cons (me_var (pv 0)) (ma_cons (me_var (pv 2)) ma_nil)))) (by decide))
    (mss_cons (ms_if (mb_eq rm (me_lcO (own := [("own", 5)]) rfl sc__law_record.nd (me_var (pv 3)) (blkOk_by (N := ["reel", "book", "menu", "found", "kind", "own"]) (sc := defScope s__law_record) (by decide +kernel)) (fun _ _ _ _ _ => (mg_name (i := 5) sc__law_record.nd rfl (by first | exact .inl rfl | exact .inr rfl))) (fun _ _ _ _ _ => (mts_one (mb_gt (me_var (pv 5)) me_int))) (fun _ _ _ _ _ => (me_var (pv 5))) (by decide)) (me_lst ma_nil)) (mss_one (ms_lput (me_var (pv 3)) (me_fn h__law_draw gd rm (by decide) (by rfl) (ma_cons (me_var (pv 0)) (ma_cons (me_len (by rfl) Z.z_len (ma_cons (me_var (pv 3)) ma_nil)) ma_nil))) (me_add me_int (me_fn h__law_draw gd rm (by decide) (by rfl) (ma_cons (me_var (pv 0)) (ma_cons me_int ma_nil)))) fun ho hi => pg_sub ho hi set_list)) mss_nil)
    (mss_one (ms_ret (me_tuple (by rfl) Z.z_tuple (ma_cons (me_var (pv 3)) ma_nil))))))) : MSs _ (defBody s__law_record) b__law_record)
theorem ok__law_pick_v (Z : Zs K mg) (h__law_draw : Kn P w K mg base 1 "_law_draw" s__law_draw ["reel", "many"] d__law_draw) {f : Addr} {fd : FuncData} (F : Fun K "_law_pick" "_law_pick" s__law_pick_v f fd) : FnG P w K mg base 2 f fd ["reel", "things"] (spM K d__law_pick_v) :=
  ok_def (k := 1) F sc__law_pick_v fun cdv A outer sh H E gd rm =>
   ((mss_one (ms_ret (me_qix (me_var (pv 1)) (me_fn h__law_draw gd rm (by decide) (by rfl) (ma_cons (me_var (pv 0)) (ma_cons (me_qlen (by rfl) Z.z_len (ma_cons (me_var (pv 1)) ma_nil)) ma_nil))) fun _ _ => rfl))) : MSs _ (defBody s__law_pick_v) b__law_pick_v)
theorem ok__law_far (Z : Zs K mg)  {f : Addr} {fd : FuncData} (F : Fun K "_law_far" "_law_far" s__law_far f fd) : FnG P w K mg base 1 f fd [] (spM K d__law_far) :=
  ok_def (k := 0) F sc__law_far fun cdv A outer sh H E gd rm =>
   ((mss_cons (ms_set (i := 0) sc__law_far.nd rfl (by first | exact .inl rfl | exact .inr rfl) me_int)
    (mss_cons (ms_for PassesOwn.never rfl (mi_range (by rfl) Z.z_range (ma_cons me_int ma_nil)) (mg_name (i := 1) sc__law_far.nd rfl (by first | exact .inl rfl | exact .inr rfl)) (mss_one (ms_set (i := 0) sc__law_far.nd rfl (by first | exact .inl rfl | exact .inr rfl) (me_mulV (me_var (pv 0)) (me_pow me_int me_int)))))
    (mss_one (ms_ret (me_var (pv 0)))))) : MSs _ (defBody s__law_far) b__law_far)
theorem ok__law_odd (Z : Zs K mg) (h__law_draw : Kn P w K mg base 1 "_law_draw" s__law_draw ["reel", "many"] d__law_draw) (h__law_pick_v : Kn P w K mg base 2 "_law_pick" s__law_pick_v ["reel", "things"] d__law_pick_v) (h__law_far : Kn P w K mg base 1 "_law_far" s__law_far [] d__law_far) {f : Addr} {fd : FuncData} (F : Fun K "_law_odd" "_law_odd" s__law_odd f fd) : FnG P w K mg base 3 f fd ["reel", "row", "ends"] (spM K d__law_odd) :=
  ok_def (k := 2) F sc__law_odd fun cdv A outer sh H E gd rm =>
   ((mss_cons (ms_set (i := 3) sc__law_odd.nd rfl (by first | exact .inl rfl | exact .inr rfl) (me_qlst (ma_cons (me_qlist (by rfl) Z.z_list (ma_cons (me_var (pv 1)) ma_nil)) (ma_cons (me_tup ma_nil) (ma_cons me_non (ma_cons (me_qadd (me_var (pv 1)) (me_qslice (me_var (pv 1)) mo_none (mo_some me_int))) (ma_cons (me_qslice (me_var (pv 1)) (mo_some me_int) mo_none) (ma_cons (me_qtup (ma_cons (me_var (pv 1)) ma_nil)) (ma_cons me_int (ma_cons me_str (ma_cons me_qdic0 (ma_cons me_bl ma_nil))))))))))))
    (mss_cons (ms_if (MW.toB (mw_or (mb_qnil rm (me_var (pv 1)) (me_tup ma_nil)) (mw_or1 (mb_eq rm (me_fn h__law_draw gd rm (by decide) (by rfl) (ma_cons (me_var (pv 0)) (ma_cons me_int ma_nil))) me_int)))) (mss_one (ms_ret (me_fn h__law_pick_v gd rm (by decide) (by rfl) (ma_cons (me_var (pv 0)) (ma_cons (me_var (pv 3)) ma_nil))))) mss_nil)
    (mss_cons (ms_set (i := 4) sc__law_odd.nd rfl (by first | exact .inl rfl | exact .inr rfl) (me_fn h__law_draw gd rm (by decide) (by rfl) (ma_cons (me_var (pv 0)) (ma_cons (me_qlen (by rfl) Z.z_len (ma_cons (me_var (pv 1)) ma_nil)) ma_nil))))
    (mss_cons (ms_set (i := 2) sc__law_odd.nd rfl (by first | exact .inl rfl | exact .inr rfl) (me_qadd (me_var (pv 2)) (me_qlst (ma_cons (me_fn0 h__law_far gd rm (by decide) (by rfl)) (ma_cons (me_sub me_int (me_fn0 h__law_far gd rm (by decide) (by rfl))) ma_nil)))))
    (mss_cons (ms_set (i := 5) sc__law_odd.nd rfl (by first | exact .inl rfl | exact .inr rfl) (me_fn h__law_pick_v gd rm (by decide) (by rfl) (ma_cons (me_var (pv 0)) (ma_cons (me_qadd (me_var (pv 2)) (me_qlst (ma_cons (me_neg me_int) (ma_cons me_bl (ma_cons me_bl (ma_cons me_non (ma_cons me_str (ma_cons (me_tup (ma_cons me_int ma_nil)) (ma_cons (me_lst (ma_cons me_int ma_nil)) (ma_cons me_qdic0 (ma_cons (me_pow me_int me_int) (ma_cons (me_sub me_int (me_qlen (by rfl) Z.z_len (ma_cons (me_var (pv 1)) ma_nil))) ma_nil)))))))))))) ma_nil))))
    (mss_one (ms_ret (me_qadd (me_qadd (me_qslice (me_var (pv 1)) mo_none (mo_some (me_var (pv 4)))) (me_qtup (ma_cons (me_var (pv 5)) ma_nil))) (me_qslice (me_var (pv 1)) (mo_some (me_qadd (me_var (pv 4)) me_int)) mo_none))))))))) : MSs _ (defBody s__law_odd) b__law_odd)
theorem ok__law_is_int (Z : Zs K mg)  {f : Addr} {fd : FuncData} (F : Fun K "_law_is_int" "_law_is_int" s__law_is_int f fd) : FnG P w K mg base 1 f fd ["value", "low", "high"] (spM K d__law_is_int) :=
  ok_def (k := 0) F sc__law_is_int fun cdv A outer sh H E gd rm =>
   ((mss_one (ms_ret (me_and (me_qisj (by rfl) Z.z_isinstance (by rfl) Z.z_int (by decide +kernel) Z.qb_3 Z.qj_4 (me_var (pv 0))) (me_and (me_not (me_qisj (by rfl) Z.z_isinstance (by rfl) Z.z_bool (by decide +kernel) Z.qb_5 Z.qj_6 (me_var (pv 0)))) (me_one (me_chain op_le (opl_I0 fun _ _ _ => .bl _) op_le (opl_I0 fun _ _ _ => .bl _) (me_var (pv 1)) (me_var (pv 0)) (me_var (pv 2)))))))) : MSs _ (defBody s__law_is_int) b__law_is_int)
theorem ok__law_row_fault (Z : Zs K mg) (h__law_is_int : Kn P w K mg base 1 "_law_is_int" s__law_is_int ["value", "low", "high"] d__law_is_int) {f : Addr} {fd : FuncData} (F : Fun K "_law_row_fault" "_law_row_fault" s__law_row_fault f fd) : FnG P w K mg base 2 f fd ["book", "value"] (spM K d__law_row_fault) :=
  ok_def (k := 1) F sc__law_row_fault fun cdv A outer sh H E gd rm =>
   ((mss_cons (ms_if (MW.toB (mw_or (mb_not (mb_val (me_qisj (by rfl) Z.z_isinstance (by rfl) Z.z_tuple (by decide +kernel) Z.qb_0 Z.qj_1 (me_var (pv 1))))) (mw_or (mb_lt (me_qlen (by rfl) Z.z_len (ma_cons (me_var (pv 1)) ma_nil)) me_int) (mw_or1 (mb_gt (me_qlen (by rfl) Z.z_len (ma_cons (me_var (pv 1)) ma_nil)) me_int))))) (mss_one (ms_ret me_str)) mss_nil)
    (mss_cons (ms_forEnQ PassesOwn.never rfl sc__law_row_fault.nd (by rfl) Z.z_enumerate (me_var (pv 1)) (pg_name (i := 2) sc__law_row_fault.nd rfl (by first | exact .inl rfl | exact .inr rfl)) (pg_name (i := 3) sc__law_row_fault.nd rfl (by first | exact .inl rfl | exact .inr rfl)) (mss_one (ms_if (mb_not (mb_val (me_fn h__law_is_int gd rm (by decide) (by rfl) (ma_cons (me_var (pv 3)) (ma_cons me_int (ma_cons (me_sub (me_qlen (by rfl) Z.z_len (ma_cons (me_var (pv 0)) ma_nil)) me_int) ma_nil)))))) (mss_one (ms_ret (me_qtup (ma_cons me_str (ma_cons (me_var (pv 2)) ma_nil))))) mss_nil)))
    (mss_one (ms_ret me_non)))) : MSs _ (defBody s__law_row_fault) b__law_row_fault)
theorem ok__law_pieces_fault (Z : Zs K mg) (h__law_row_fault : Kn P w K mg base 2 "_law_row_fault" s__law_row_fault ["book", "value"] d__law_row_fault) (h__law_is_int : Kn P w K mg base 1 "_law_is_int" s__law_is_int ["value", "low", "high"] d__law_is_int) {f : Addr} {fd : FuncData} (F : Fun K "_law_pieces_fault" "_law_pieces_fault" s__law_pieces_fault f fd) : FnG P w K mg base 3 f fd ["book", "value"] (spM K d__law_pieces_fault) :=
  ok_def (k := 2) F sc__law_pieces_fault fun cdv A outer sh H E gd rm =>
   ((mss_cons (ms_if (MW.toB (mw_or (mb_not (mb_val (me_qisj (by rfl) Z.z_isinstance (by rfl) Z.z_tuple (by decide +kernel) Z.qb_0 Z.qj_1 (me_var (pv 1))))) (mw_or (mb_lt (me_qlen (by rfl) Z.z_len (ma_cons (me_var (pv 1)) ma_nil)) me_int) (mw_or1 (mb_gt (me_qlen (by rfl) Z.z_len (ma_cons (me_var (pv 1)) ma_nil)) me_int))))) (mss_one (ms_ret me_str)) mss_nil)
    (mss_cons (ms_forEnQ PassesOwn.never rfl sc__law_pieces_fault.nd (by rfl) Z.z_enumerate (me_var (pv 1)) (pg_name (i := 2) sc__law_pieces_fault.nd rfl (by first | exact .inl rfl | exact .inr rfl)) (pg_name (i := 3) sc__law_pieces_fault.nd rfl (by first | exact .inl rfl | exact .inr rfl)) (mss_cons (ms_if (MW.toB (mw_or (mb_not (mb_val (me_qisj (by rfl) Z.z_isinstance (by rfl) Z.z_tuple (by decide +kernel) Z.qb_0 Z.qj_1 (me_var (pv 3))))) (mw_or (mb_ne rm (me_qlen (by rfl) Z.z_len (ma_cons (me_var (pv 3)) ma_nil)) me_int) (mw_or1 (mb_notN (me_fn h__law_row_fault gd rm (by decide) (by rfl) (ma_cons (me_var (pv 0)) (ma_cons (me_qix (me_var (pv 3)) me_int fun _ _ => rfl) ma_nil))) me_non))))) (mss_one (ms_ret (me_qtup (ma_cons me_str (ma_cons (me_var (pv 2)) ma_nil))))) mss_nil)
    (mss_one (ms_if (mb_not (mb_val (me_fn h__law_is_int gd rm (by decide) (by rfl) (ma_cons (me_qix (me_var (pv 3)) me_int fun _ _ => rfl) (ma_cons me_int (ma_cons (me_pow me_int me_int) ma_nil)))))) (mss_one (ms_ret (me_qtup (ma_cons me_str (ma_cons (me_var (pv 2)) ma_nil))))) mss_nil))))
    (mss_one (ms_ret me_non)))) : MSs _ (defBody s__law_pieces_fault) b__law_pieces_fault)
theorem ok__law_record_fault (Z : Zs K mg) (h__law_is_int : Kn P w K mg base 1 "_law_is_int" s__law_is_int ["value", "low", "high"] d__law_is_int) {f : Addr} {fd : FuncData} (F : Fun K "_law_record_fault" "_law_record_fault" s__law_record_fault f fd) : FnG P w K mg base 2 f fd ["book", "value"] (spM K d__law_record_fault) :=
  ok_def (k := 1) F sc__law_record_fault fun cdv A outer sh H E gd rm =>
   ((mss_cons (ms_if (MW.toB (mw_or (mb_not (mb_val (me_qisj (by rfl) Z.z_isinstance (by rfl) Z.z_tuple (by decide +kernel) Z.qb_0 Z.qj_1 (me_var (pv 1))))) (mw_or1 (mb_ne rm (me_qlen (by rfl) Z.z_len (ma_cons (me_var (pv 1)) ma_nil)) (me_qlen (by rfl) Z.z_len (ma_cons (me_var (pv 0)) ma_nil)))))) (mss_one (ms_ret me_str)) mss_nil)
    (mss_cons (ms_forEnQ PassesOwn.never rfl sc__law_record_fault.nd (by rfl) Z.z_enumerate (me_var (pv 1)) (pg_name (i := 2) sc__law_record_fault.nd rfl (by first | exact .inl rfl | exact .inr rfl)) (pg_name (i := 3) sc__law_record_fault.nd rfl (by first | exact .inl rfl | exact .inr rfl)) (mss_one (ms_if (mb_not (mb_val (me_fn h__law_is_int gd rm (by decide) (by rfl) (ma_cons (me_var (pv 3)) (ma_cons me_int (ma_cons (me_pow me_int me_int) ma_nil)))))) (mss_one (ms_ret (me_qtup (ma_cons me_str (ma_cons (me_var (pv 2)) ma_nil))))) mss_nil)))
    (mss_one (ms_ret (me_ite (mb_eq rm (me_sumQ rfl (by rfl) Z.z_sum (ma_cons (me_var (pv 1)) ma_nil)) me_int) me_str me_non))))) : MSs _ (defBody s__law_record_fault) b__law_record_fault)
theorem ok_is_tuple_within (Z : Zs K mg)  {f : Addr} {fd : FuncData} (F : Fun K "is_tuple_within" "is_tuple_within" s_is_tuple_within f fd) : FnG P w K mg base 1 f fd ["value", "fewest", "most"] (spM K d_is_tuple_within) :=
  ok_def (k := 0) F sc_is_tuple_within fun cdv A outer sh H E gd rm =>
   ((mss_one (ms_ret (me_and (me_qisj (by rfl) Z.z_isinstance (by rfl) Z.z_tuple (by decide +kernel) Z.qb_0 Z.qj_1 (me_var (pv 0))) (me_one (me_chain op_le (opl_I0 fun _ _ _ => .bl _) op_le (opl_I0 fun _ _ _ => .bl _) (me_var (pv 1)) (me_qlen (by rfl) Z.z_len (ma_cons (me_var (pv 0)) ma_nil)) (me_var (pv 2))))))) : MSs _ (defBody s_is_tuple_within) b_is_tuple_within)
theorem ok_is_integer (Z : Zs K mg)  {f : Addr} {fd : FuncData} (F : Fun K "is_integer" "is_integer" s_is_integer f fd) : FnG P w K mg base 1 f fd ["value"] (spM K d_is_integer) :=
  ok_def (k := 0) F sc_is_integer fun cdv A outer sh H E gd rm =>
   ((mss_one (ms_ret (me_and (me_qisj (by rfl) Z.z_isinstance (by rfl) Z.z_int (by decide +kernel) Z.qb_3 Z.qj_4 (me_var (pv 0))) (me_one (me_not (me_qisj (by rfl) Z.z_isinstance (by rfl) Z.z_bool (by decide +kernel) Z.qb_5 Z.qj_6 (me_var (pv 0)))))))) : MSs _ (defBody s_is_integer) b_is_integer)
theorem ok_is_integer_within (Z : Zs K mg) (h_is_integer : Kn P w K mg base 1 "is_integer" s_is_integer ["value"] d_is_integer) {f : Addr} {fd : FuncData} (F : Fun K "is_integer_within" "is_integer_within" s_is_integer_within f fd) : FnG P w K mg base 2 f fd ["value", "least", "greatest"] (spM K d_is_integer_within) :=
  ok_def (k := 1) F sc_is_integer_within fun cdv A outer sh H E gd rm =>
   ((mss_one (ms_ret (me_and (me_fn h_is_integer gd rm (by decide) (by rfl) (ma_cons (me_var (pv 0)) ma_nil)) (me_one (me_chain op_le (opl_I0 fun _ _ _ => .bl _) op_le (opl_I0 fun _ _ _ => .bl _) (me_var (pv 1)) (me_var (pv 0)) (me_var (pv 2))))))) : MSs _ (defBody s_is_integer_within) b_is_integer_within)
theorem ok_record_error (Z : Zs K mg) (h_is_tuple_within : Kn P w K mg base 1 "is_tuple_within" s_is_tuple_within ["value", "fewest", "most"] d_is_tuple_within) (h_is_integer_within : Kn P w K mg base 2 "is_integer_within" s_is_integer_within ["value", "least", "greatest"] d_is_integer_within) {f : Addr} {fd : FuncData} (F : Fun K "record_error" "record_error" s_record_error f fd) : FnG P w K mg base 3 f fd ["book", "value"] (spM K d_record_error) :=
  ok_def (k := 2) F sc_record_error fun cdv A outer sh H E gd rm =>
   ((mss_cons (ms_if (mb_not (mb_val (me_fn h_is_tuple_within gd rm (by decide) (by rfl) (ma_cons (me_var (pv 1)) (ma_cons (me_qlen (by rfl) Z.z_len (ma_cons (me_var (pv 0)) ma_nil)) (ma_cons (me_qlen (by rfl) Z.z_len (ma_cons (me_var (pv 0)) ma_nil)) ma_nil)))))) (mss_one (ms_ret me_str)) mss_nil)
    (mss_cons (ms_forEnQ PassesOwn.never rfl sc_record_error.nd (by rfl) Z.z_enumerate (me_var (pv 1)) (pg_name (i := 2) sc_record_error.nd rfl (by first | exact .inl rfl | exact .inr rfl)) (pg_name (i := 3) sc_record_error.nd rfl (by first | exact .inl rfl | exact .inr rfl)) (mss_one (ms_if (mb_not (mb_val (me_fn h_is_integer_within gd rm (by decide) (by rfl) (ma_cons (me_var (pv 3)) (ma_cons me_int (ma_cons (me_gl (by rfl) (by exact Z.g_MAX_MANY)) ma_nil)))))) (mss_one (ms_ret (me_qtup (ma_cons me_str (ma_cons (me_var (pv 2)) ma_nil))))) mss_nil)))
    (mss_cons (ms_if (mb_eq rm (me_sumQ rfl (by rfl) Z.z_sum (ma_cons (me_var (pv 1)) ma_nil)) me_int) (mss_one (ms_ret me_str)) mss_nil)
    (mss_one (ms_ret me_non))))) : MSs _ (defBody s_record_error) b_record_error)
theorem ok_is_place (Z : Zs K mg) (h_is_integer_within : Kn P w K mg base 2 "is_integer_within" s_is_integer_within ["value", "least", "greatest"] d_is_integer_within) {f : Addr} {fd : FuncData} (F : Fun K "is_place" "is_place" s_is_place f fd) : FnG P w K mg base 3 f fd ["book", "value"] (spM K d_is_place) :=
  ok_def (k := 2) F sc_is_place fun cdv A outer sh H E gd rm =>
   ((mss_one (ms_ret (me_fn h_is_integer_within gd rm (by decide) (by rfl) (ma_cons (me_var (pv 1)) (ma_cons me_int (ma_cons (me_sub (me_qlen (by rfl) Z.z_len (ma_cons (me_var (pv 0)) ma_nil)) me_int) ma_nil)))))) : MSs _ (defBody s_is_place) b_is_place)
theorem ok_row_error (Z : Zs K mg) (h_is_tuple_within : Kn P w K mg base 1 "is_tuple_within" s_is_tuple_within ["value", "fewest", "most"] d_is_tuple_within) (h_is_place : Kn P w K mg base 3 "is_place" s_is_place ["book", "value"] d_is_place) {f : Addr} {fd : FuncData} (F : Fun K "row_error" "row_error" s_row_error f fd) : FnG P w K mg base 4 f fd ["book", "value"] (spM K d_row_error) :=
  ok_def (k := 3) F sc_row_error fun cdv A outer sh H E gd rm =>
   ((mss_cons (ms_if (mb_not (mb_val (me_fn h_is_tuple_within gd rm (by decide) (by rfl) (ma_cons (me_var (pv 1)) (ma_cons me_int (ma_cons (me_gl (by rfl) (by exact Z.g_MAX_ROW)) ma_nil)))))) (mss_one (ms_ret me_str)) mss_nil)
    (mss_cons (ms_forEnQ PassesOwn.never rfl sc_row_error.nd (by rfl) Z.z_enumerate (me_var (pv 1)) (pg_name (i := 2) sc_row_error.nd rfl (by first | exact .inl rfl | exact .inr rfl)) (pg_name (i := 3) sc_row_error.nd rfl (by first | exact .inl rfl | exact .inr rfl)) (mss_one (ms_if (mb_not (mb_val (me_fn h_is_place gd rm (by decide) (by rfl) (ma_cons (me_var (pv 0)) (ma_cons (me_var (pv 3)) ma_nil))))) (mss_one (ms_ret (me_qtup (ma_cons me_str (ma_cons (me_var (pv 2)) ma_nil))))) mss_nil)))
    (mss_one (ms_ret me_non)))) : MSs _ (defBody s_row_error) b_row_error)
theorem ok_is_piece (Z : Zs K mg) (h_is_tuple_within : Kn P w K mg base 1 "is_tuple_within" s_is_tuple_within ["value", "fewest", "most"] d_is_tuple_within) (h_row_error : Kn P w K mg base 4 "row_error" s_row_error ["book", "value"] d_row_error) (h_is_integer_within : Kn P w K mg base 2 "is_integer_within" s_is_integer_within ["value", "least", "greatest"] d_is_integer_within) {f : Addr} {fd : FuncData} (F : Fun K "is_piece" "is_piece" s_is_piece f fd) : FnG P w K mg base 5 f fd ["book", "value"] (spM K d_is_piece) :=
  ok_def (k := 4) F sc_is_piece fun cdv A outer sh H E gd rm =>
   ((mss_cons (ms_if (mb_not (mb_val (me_fn h_is_tuple_within gd rm (by decide) (by rfl) (ma_cons (me_var (pv 1)) (ma_cons me_int (ma_cons me_int ma_nil)))))) (mss_one (ms_ret me_bl)) mss_nil)
    (mss_cons (ms_asg (me_var (pv 1)) (mg_qtup rfl (mqs_cons (mg_name (i := 2) sc_is_piece.nd rfl (by first | exact .inl rfl | exact .inr rfl)) (mqs_cons (mg_name (i := 3) sc_is_piece.nd rfl (by first | exact .inl rfl | exact .inr rfl)) mqs_nil))))
    (mss_one (ms_ret (me_and (me_isN (me_fn h_row_error gd rm (by decide) (by rfl) (ma_cons (me_var (pv 0)) (ma_cons (me_var (pv 2)) ma_nil))) me_non) (me_one (me_fn h_is_integer_within gd rm (by decide) (by rfl) (ma_cons (me_var (pv 3)) (ma_cons me_int (ma_cons (me_gl (by rfl) (by exact Z.g_MAX_MANY)) ma_nil)))))))))) : MSs _ (defBody s_is_piece) b_is_piece)
theorem ok_pieces_error (Z : Zs K mg) (h_is_tuple_within : Kn P w K mg base 1 "is_tuple_within" s_is_tuple_within ["value", "fewest", "most"] d_is_tuple_within) (h_is_piece : Kn P w K mg base 5 "is_piece" s_is_piece ["book", "value"] d_is_piece) {f : Addr} {fd : FuncData} (F : Fun K "pieces_error" "pieces_error" s_pieces_error f fd) : FnG P w K mg base 6 f fd ["book", "value"] (spM K d_pieces_error) :=
  ok_def (k := 5) F sc_pieces_error fun cdv A outer sh H E gd rm =>
   ((mss_cons (ms_if (mb_not (mb_val (me_fn h_is_tuple_within gd rm (by decide) (by rfl) (ma_cons (me_var (pv 1)) (ma_cons me_int (ma_cons (me_gl (by rfl) (by exact Z.g_MAX_PIECES)) ma_nil)))))) (mss_one (ms_ret me_str)) mss_nil)
    (mss_cons (ms_forEnQ PassesOwn.never rfl sc_pieces_error.nd (by rfl) Z.z_enumerate (me_var (pv 1)) (pg_name (i := 2) sc_pieces_error.nd rfl (by first | exact .inl rfl | exact .inr rfl)) (pg_name (i := 3) sc_pieces_error.nd rfl (by first | exact .inl rfl | exact .inr rfl)) (mss_one (ms_if (mb_not (mb_val (me_fn h_is_piece gd rm (by decide) (by rfl) (ma_cons (me_var (pv 0)) (ma_cons (me_var (pv 3)) ma_nil))))) (mss_one (ms_ret (me_qtup (ma_cons me_str (ma_cons (me_var (pv 2)) ma_nil))))) mss_nil)))
    (mss_one (ms_ret me_non)))) : MSs _ (defBody s_pieces_error) b_pieces_error)
theorem ok__law_told (Z : Zs K mg) (h_record_error : Kn P w K mg base 3 "record_error" s_record_error ["book", "value"] d_record_error) (h_row_error : Kn P w K mg base 4 "row_error" s_row_error ["book", "value"] d_row_error) (h_pieces_error : Kn P w K mg base 6 "pieces_error" s_pieces_error ["book", "value"] d_pieces_error) {f : Addr} {fd : FuncData} (F : Fun K "_law_told" "_law_told" s__law_told f fd) : FnG P w K mg base 7 f fd ["word", "book", "value", "is_named"] (spM K d__law_told) :=
  ok_def (k := 6) F sc__law_told fun cdv A outer sh H E gd rm =>
   ((mss_cons (ms_if (mb_eq rm (me_var (pv 0)) me_str) (mss_one (ms_ret (me_ite (mb_val (me_var (pv 3))) (me_fnK (ks := ["value", "book"]) (g := kb_record_error_0_g) h_record_error gd rm (by decide) (by rfl) (fun _ _ U => kb_record_error_0 U) (mk_cons (me_var (pv 2)) (mk_cons (me_var (pv 1)) mk_nil))) (me_fn h_record_error gd rm (by decide) (by rfl) (ma_cons (me_var (pv 1)) (ma_cons (me_var (pv 2)) ma_nil)))))) mss_nil)
    (mss_cons (ms_if (mb_eq rm (me_var (pv 0)) me_str) (mss_one (ms_ret (me_ite (mb_val (me_var (pv 3))) (me_fnK (ks := ["value", "book"]) (g := kb_row_error_0_g) h_row_error gd rm (by decide) (by rfl) (fun _ _ U => kb_row_error_0 U) (mk_cons (me_var (pv 2)) (mk_cons (me_var (pv 1)) mk_nil))) (me_fn h_row_error gd rm (by decide) (by rfl) (ma_cons (me_var (pv 1)) (ma_cons (me_var (pv 2)) ma_nil)))))) mss_nil)
    (mss_one (ms_ret (me_ite (mb_val (me_var (pv 3))) (me_fnK (ks := ["value", "book"]) (g := kb_pieces_error_0_g) h_pieces_error gd rm (by decide) (by rfl) (fun _ _ U => kb_pieces_error_0 U) (mk_cons (me_var (pv 2)) (mk_cons (me_var (pv 1)) mk_nil))) (me_fn h_pieces_error gd rm (by decide) (by rfl) (ma_cons (me_var (pv 1)) (ma_cons (me_var (pv 2)) ma_nil)))))))) : MSs _ (defBody s__law_told) b__law_told)
theorem ok__law_is_told (Z : Zs K mg) (h__law_row_fault : Kn P w K mg base 2 "_law_row_fault" s__law_row_fault ["book", "value"] d__law_row_fault) (h__law_pieces_fault : Kn P w K mg base 3 "_law_pieces_fault" s__law_pieces_fault ["book", "value"] d__law_pieces_fault) (h__law_record_fault : Kn P w K mg base 2 "_law_record_fault" s__law_record_fault ["book", "value"] d__law_record_fault) (h__law_told : Kn P w K mg base 7 "_law_told" s__law_told ["word", "book", "value", "is_named"] d__law_told) {f : Addr} {fd : FuncData} (F : Fun K "_law_is_told" "_law_is_told" s__law_is_told f fd) : FnG P w K mg base 8 f fd ["word", "book", "value", "is_named"] (spM K d__law_is_told) :=
  ok_def (k := 7) F sc__law_is_told fun cdv A outer sh H E gd rm =>
   ((mss_cons (ms_set (i := 4) sc__law_is_told.nd rfl (by first | exact .inl rfl | exact .inr rfl) (me_ite (mb_eq rm (me_var (pv 0)) me_str) (me_fn h__law_row_fault gd rm (by decide) (by rfl) (ma_cons (me_var (pv 1)) (ma_cons (me_var (pv 2)) ma_nil))) (me_fn h__law_pieces_fault gd rm (by decide) (by rfl) (ma_cons (me_var (pv 1)) (ma_cons (me_var (pv 2)) ma_nil)))))
    (mss_cons (ms_set (i := 4) sc__law_is_told.nd rfl (by first | exact .inl rfl | exact .inr rfl) (me_ite (mb_eq rm (me_var (pv 0)) me_str) (me_fn h__law_record_fault gd rm (by decide) (by rfl) (ma_cons (me_var (pv 1)) (ma_cons (me_var (pv 2)) ma_nil))) (me_var (pv 4))))
    (mss_cons (ms_set (i := 5) sc__law_is_told.nd rfl (by first | exact .inl rfl | exact .inr rfl) (me_qrepr gd rm (by rfl) Z.z_repr (ma_cons (me_qlst (ma_cons (me_var (pv 1)) (ma_cons (me_var (pv 2)) ma_nil))) ma_nil)))
    (mss_cons (ms_set (i := 6) sc__law_is_told.nd rfl (by first | exact .inl rfl | exact .inr rfl) (me_qlst (ma_cons (me_fn h__law_told gd rm (by decide) (by rfl) (ma_cons (me_var (pv 0)) (ma_cons (me_var (pv 1)) (ma_cons (me_var (pv 2)) (ma_cons (me_var (pv 3)) ma_nil))))) (ma_cons (me_fn h__law_told gd rm (by decide) (by rfl) (ma_cons (me_var (pv 0)) (ma_cons (me_var (pv 1)) (ma_cons (me_var (pv 2)) (ma_cons me_bl ma_nil))))) ma_nil))))
    (mss_one (ms_ret (me_and (me_eq rm (me_qrepr gd rm (by rfl) Z.z_repr (ma_cons (me_var (pv 6)) ma_nil)) (me_qrepr gd rm (by rfl) Z.z_repr (ma_cons (me_qlst (ma_cons (me_var (pv 4)) (ma_cons (me_var (pv 4)) ma_nil))) ma_nil))) (me_one (me_eq rm (me_qrepr gd rm (by rfl) Z.z_repr (ma_cons (me_qlst (ma_cons (me_var (pv 1)) (ma_cons (me_var (pv 2)) ma_nil))) ma_nil)) (me_var (pv 5))))))))))) : MSs _ (defBody s__law_is_told) b__law_is_told)
theorem ok__law_row (Z : Zs K mg) (h__law_draw : Kn P w K mg base 1 "_law_draw" s__law_draw ["reel", "many"] d__law_draw) {f : Addr} {fd : FuncData} (F : Fun K "_law_row" "_law_row" s__law_row f fd) : FnG P w K mg base 2 f fd ["reel", "book", "many"] (spM K d__law_row) :=
  ok_def (k := 1) F sc__law_row fun cdv A outer sh H E gd rm =>
   ((mss_cons (ms_par (i := 3) (j := 4) rfl sc__law_row.nd rfl rfl (by decide) rfl rfl (ma_cons (me_fn h__law_draw gd rm (by decide) (by rfl) (ma_cons (me_var (pv 0)) (ma_cons me_int ma_nil))) (ma_cons (me_newL ma_nil) ma_nil)) (by rfl))
    (mss_cons (ms_set (i := 5) sc__law_row.nd rfl (by first | exact .inl rfl | exact .inr rfl) (me_fn h__law_draw gd rm (by decide) (by rfl) (ma_cons (me_var (pv 0)) (ma_cons (me_len (by rfl) Z.z_len (ma_cons (me_var (pv 1)) ma_nil)) ma_nil))))
    (mss_cons (ms_for PassesOwn.never rfl (mi_range (by rfl) Z.z_range (ma_cons (me_var (pv 2)) ma_nil)) (mg_name (i := 6) sc__law_row.nd rfl (by first | exact .inl rfl | exact .inr rfl)) (mss_cons (ms_if (MW.toB (mw_or (mb_eq rm (me_var (pv 3)) me_int) (mw_or1 (mb_eq rm (me_fn h__law_draw gd rm (by decide) (by rfl) (ma_cons (me_var (pv 0)) (ma_cons me_int ma_nil))) me_int)))) (mss_one (ms_set (i := 5) sc__law_row.nd rfl (by first | exact .inl rfl | exact .inr rfl) (me_fn h__law_draw gd rm (by decide) (by rfl) (ma_cons (me_var (pv 0)) (ma_cons (me_len (by rfl) Z.z_len (ma_cons (me_var (pv 1)) ma_nil)) ma_nil))))) mss_nil)
    (mss_one (ms_expr (me_append (me_var (pv 4)) (ma_cons (me_var (pv 5)) ma_nil))))))
    (mss_one (ms_ret (me_tuple (by rfl) Z.z_tuple (ma_cons (me_var (pv 4)) ma_nil))))))) : MSs _ (defBody s__law_row) b__law_row)
theorem ok__law_odd_piece (Z : Zs K mg) (h__law_odd : Kn P w K mg base 3 "_law_odd" s__law_odd ["reel", "row", "ends"] d__law_odd) (h__law_far : Kn P w K mg base 1 "_law_far" s__law_far [] d__law_far) (h__law_pick_v : Kn P w K mg base 2 "_law_pick" s__law_pick_v ["reel", "things"] d__law_pick_v) {f : Addr} {fd : FuncData} (F : Fun K "_law_odd_piece" "_law_odd_piece" s__law_odd_piece f fd) : FnG P w K mg base 4 f fd ["reel", "book", "piece"] (spM K d__law_odd_piece) :=
  ok_def (k := 3) F sc__law_odd_piece fun cdv A outer sh H E gd rm =>
   ((mss_cons (ms_asg (me_var (pv 2)) (mg_qtup rfl (mqs_cons (mg_name (i := 3) sc__law_odd_piece.nd rfl (by first | exact .inl rfl | exact .inr rfl)) (mqs_cons (mg_name (i := 4) sc__law_odd_piece.nd rfl (by first | exact .inl rfl | exact .inr rfl)) mqs_nil))))
    (mss_cons (ms_set (i := 5) sc__law_odd_piece.nd rfl (by first | exact .inl rfl | exact .inr rfl) (me_qlst (ma_cons (me_qtup (ma_cons (me_fn h__law_odd gd rm (by decide) (by rfl) (ma_cons (me_var (pv 0)) (ma_cons (me_var (pv 3)) (ma_cons (me_qlst (ma_cons (me_qlen (by rfl) Z.z_len (ma_cons (me_var (pv 1)) ma_nil)) ma_nil)) ma_nil)))) (ma_cons (me_var (pv 4)) ma_nil))) (ma_cons (me_qtup (ma_cons (me_var (pv 3)) (ma_cons me_int ma_nil))) (ma_cons (me_qtup (ma_cons (me_var (pv 3)) (ma_cons (me_neg me_int) ma_nil))) (ma_cons (me_qtup (ma_cons (me_var (pv 3)) (ma_cons (me_add (me_pow me_int me_int) me_int) ma_nil))) (ma_cons (me_qtup (ma_cons (me_var (pv 3)) (ma_cons me_bl ma_nil))) ma_nil)))))))
    (mss_cons (ms_set (i := 5) sc__law_odd_piece.nd rfl (by first | exact .inl rfl | exact .inr rfl) (me_qadd (me_var (pv 5)) (me_qlst (ma_cons (me_qtup (ma_cons (me_var (pv 3)) (ma_cons me_non ma_nil))) (ma_cons (me_qtup (ma_cons (me_var (pv 3)) ma_nil)) (ma_cons (me_qtup (ma_cons (me_var (pv 3)) (ma_cons (me_var (pv 4)) (ma_cons me_int ma_nil)))) (ma_cons (me_qlst (ma_cons (me_var (pv 3)) (ma_cons (me_var (pv 4)) ma_nil))) (ma_cons me_non (ma_cons (me_tup ma_nil) (ma_cons (me_var (pv 3)) (ma_cons (me_qtup (ma_cons (me_var (pv 4)) (ma_cons (me_var (pv 3)) ma_nil))) (ma_cons (me_tup (ma_cons (me_repT (me_tup (ma_cons me_int ma_nil)) me_int) (ma_cons me_int ma_nil))) ma_nil))))))))))))
    (mss_cons (ms_set (i := 5) sc__law_odd_piece.nd rfl (by first | exact .inl rfl | exact .inr rfl) (me_qadd (me_var (pv 5)) (me_qlst (ma_cons (me_qtup (ma_cons (me_qlist (by rfl) Z.z_list (ma_cons (me_var (pv 3)) ma_nil)) (ma_cons me_int ma_nil))) (ma_cons (me_tup (ma_cons me_int (ma_cons me_int ma_nil))) (ma_cons (me_qtup (ma_cons (me_var (pv 3)) (ma_cons (me_fn0 h__law_far gd rm (by decide) (by rfl)) ma_nil))) (ma_cons (me_qtup (ma_cons (me_var (pv 3)) (ma_cons (me_sub me_int (me_fn0 h__law_far gd rm (by decide) (by rfl))) ma_nil))) ma_nil)))))))
    (mss_one (ms_ret (me_fn h__law_pick_v gd rm (by decide) (by rfl) (ma_cons (me_var (pv 0)) (ma_cons (me_qadd (me_var (pv 5)) (me_qlst (ma_cons (me_tup (ma_cons (me_tup ma_nil) (ma_cons me_int ma_nil))) (ma_cons (me_qtup (ma_cons (me_var (pv 3)) (ma_cons (me_strI (by rfl) Z.z_str (ma_cons (me_var (pv 4)) ma_nil)) ma_nil))) (ma_cons (me_qtup (ma_cons (me_var (pv 3)) (ma_cons (me_qlst (ma_cons (me_var (pv 4)) ma_nil)) ma_nil))) (ma_cons (me_var (pv 2)) ma_nil)))))) ma_nil))))))))) : MSs _ (defBody s__law_odd_piece) b__law_odd_piece)
theorem ok_is_size (Z : Zs K mg) (h_is_integer_within : Kn P w K mg base 2 "is_integer_within" s_is_integer_within ["value", "least", "greatest"] d_is_integer_within) {f : Addr} {fd : FuncData} (F : Fun K "is_size" "is_size" s_is_size f fd) : FnG P w K mg base 3 f fd ["value"] (spM K d_is_size) :=
  ok_def (k := 2) F sc_is_size fun cdv A outer sh H E gd rm =>
   ((mss_one (ms_ret (me_fn h_is_integer_within gd rm (by decide) (by rfl) (ma_cons (me_var (pv 0)) (ma_cons me_int (ma_cons (me_gl (by rfl) (by exact Z.g_MAX_SIZE)) ma_nil)))))) : MSs _ (defBody s_is_size) b_is_size)
theorem ok_is_alignment (Z : Zs K mg) (h_is_integer : Kn P w K mg base 1 "is_integer" s_is_integer ["value"] d_is_integer) {f : Addr} {fd : FuncData} (F : Fun K "is_alignment" "is_alignment" s_is_alignment f fd) : FnG P w K mg base 2 f fd ["value"] (spM K d_is_alignment) :=
  ok_def (k := 1) F sc_is_alignment fun cdv A outer sh H E gd rm =>
   ((mss_one (ms_ret (me_and (me_fn h_is_integer gd rm (by decide) (by rfl) (ma_cons (me_var (pv 0)) ma_nil)) (me_one (me_in rm (me_var (pv 0)) (me_gl (by rfl) (by exact Z.g_ALIGNMENTS))))))) : MSs _ (defBody s_is_alignment) b_is_alignment)
theorem ok_is_kind (Z : Zs K mg) (h_is_tuple_within : Kn P w K mg base 1 "is_tuple_within" s_is_tuple_within ["value", "fewest", "most"] d_is_tuple_within) (h_is_size : Kn P w K mg base 3 "is_size" s_is_size ["value"] d_is_size) (h_is_alignment : Kn P w K mg base 2 "is_alignment" s_is_alignment ["value"] d_is_alignment) {f : Addr} {fd : FuncData} (F : Fun K "is_kind" "is_kind" s_is_kind f fd) : FnG P w K mg base 4 f fd ["value"] (spM K d_is_kind) :=
  ok_def (k := 3) F sc_is_kind fun cdv A outer sh H E gd rm =>
   ((mss_one (ms_ret (me_and (me_fn h_is_tuple_within gd rm (by decide) (by rfl) (ma_cons (me_var (pv 0)) (ma_cons me_int (ma_cons me_int ma_nil)))) (me_and (me_fn h_is_size gd rm (by decide) (by rfl) (ma_cons (me_qix (me_var (pv 0)) me_int fun _ _ => rfl) ma_nil)) (me_one (me_fn h_is_alignment gd rm (by decide) (by rfl) (ma_cons (me_qix (me_var (pv 0)) me_int fun _ _ => rfl) ma_nil))))))) : MSs _ (defBody s_is_kind) b_is_kind)
theorem ok_book_error (Z : Zs K mg) (h_is_tuple_within : Kn P w K mg base 1 "is_tuple_within" s_is_tuple_within ["value", "fewest", "most"] d_is_tuple_within) (h_is_kind : Kn P w K mg base 4 "is_kind" s_is_kind ["value"] d_is_kind) {f : Addr} {fd : FuncData} (F : Fun K "book_error" "book_error" s_book_error f fd) : FnG P w K mg base 5 f fd ["value"] (spM K d_book_error) :=
  ok_def (k := 4) F sc_book_error fun cdv A outer sh H E gd rm =>
   ((mss_cons (ms_if (mb_not (mb_val (me_fn h_is_tuple_within gd rm (by decide) (by rfl) (ma_cons (me_var (pv 0)) (ma_cons me_int (ma_cons (me_gl (by rfl) (by exact Z.g_MAX_KINDS)) ma_nil)))))) (mss_one (ms_ret me_str)) mss_nil)
    (mss_cons (ms_forEnQ PassesOwn.never rfl sc_book_error.nd (by rfl) Z.z_enumerate (me_var (pv 0)) (pg_name (i := 1) sc_book_error.nd rfl (by first | exact .inl rfl | exact .inr rfl)) (pg_name (i := 2) sc_book_error.nd rfl (by first | exact .inl rfl | exact .inr rfl)) (mss_one (ms_if (mb_not (mb_val (me_fn h_is_kind gd rm (by decide) (by rfl) (ma_cons (me_var (pv 2)) ma_nil)))) (mss_one (ms_ret (me_qtup (ma_cons me_str (ma_cons (me_var (pv 1)) ma_nil))))) mss_nil)))
    (mss_one (ms_ret me_non)))) : MSs _ (defBody s_book_error) b_book_error)
theorem ok_Desk____init__ (Z : Zs K mg) (h_book_error : Kn P w K mg base 5 "book_error" s_book_error ["value"] d_book_error) {f : Addr} {fd : FuncData} (F : Fun K "__init__" "Desk.__init__" s_Desk____init__ f fd) : FnG P w K mg base 6 f fd ["self", "book"] (spM K d_Desk____init__) :=
  ok_def (k := 5) F sc_Desk____init__ fun cdv A outer sh H E gd rm =>
   ((mss_cons (ms_set (i := 2) sc_Desk____init__.nd rfl (by first | exact .inl rfl | exact .inr rfl) (me_fn h_book_error gd rm (by decide) (by rfl) (ma_cons (me_var (pv 1)) ma_nil)))
    (mss_cons (ms_if (mb_notN (me_var (pv 2)) me_non) (mss_one ms_dead) mss_nil)
    (mss_cons (ms_setI Z.ic_7 Z.if_8 (me_var (pv 0)) (me_newD (ma_cons (me_var (pv 1)) ma_nil)))
    (mss_cons (ms_setI Z.ic_7 Z.if_9 (me_var (pv 0)) (me_newD ma_nil))
    (mss_one (ms_setI Z.ic_7 Z.if_10 (me_var (pv 0)) (me_newD ma_nil))))))) : MSs _ (defBody s_Desk____init__) b_Desk____init__)
theorem ok__law_are_refused (Z : Zs K mg) (h_Desk____init__ : KnI P w K mg base 6 "Desk" ["self", "book"] d_Desk____init__) (h_pieces_error : Kn P w K mg base 6 "pieces_error" s_pieces_error ["book", "value"] d_pieces_error) (h_row_error : Kn P w K mg base 4 "row_error" s_row_error ["book", "value"] d_row_error) (h_record_error : Kn P w K mg base 3 "record_error" s_record_error ["book", "value"] d_record_error) {f : Addr} {fd : FuncData} (F : Fun K "_law_are_refused" "_law_are_refused" s__law_are_refused f fd) : FnG P w K mg base 8 f fd ["book"] (spM K d__law_are_refused) :=
  okC_def (k := 7) F sc__law_are_refused fun cdv A outer sh H E gd rm =>
   ((mss_cons (ms_set (i := 1) sc__law_are_refused.nd rfl (by first | exact .inl rfl | exact .inr rfl) (me_newD ma_nil))
    (mss_cons (ms_for PassesOwn.never rfl (mi_qseq (me_qtup (ma_cons (me_mk0 Z.q0_2 (by rfl) (by decide)) (ma_cons (me_newQ h_Desk____init__ gd rm (by decide) (by rfl) (ma_cons (me_var (pv 0)) ma_nil)) ma_nil)))) (mg_name (i := 2) sc__law_are_refused.nd rfl (by first | exact .inl rfl | exact .inr rfl)) (mss_cons (ms_expr (me_append (me_var (pv 1)) (ma_cons (me_qlst (ma_cons (me_fnC h_record_error gd rm (by decide) (by rfl) (ma_cons (me_var (pv 0)) (ma_cons (me_var (pv 2)) ma_nil))) (ma_cons (me_fnC h_row_error gd rm (by decide) (by rfl) (ma_cons (me_var (pv 0)) (ma_cons (me_var (pv 2)) ma_nil))) (ma_cons (me_fnC h_pieces_error gd rm (by decide) (by rfl) (ma_cons (me_var (pv 0)) (ma_cons (me_var (pv 2)) ma_nil))) ma_nil)))) ma_nil)))
    (mss_cons (ms_set (i := 3) sc__law_are_refused.nd rfl (by first | exact .inl rfl | exact .inr rfl) (me_fnC h_record_error gd rm (by decide) (by rfl) (ma_cons (me_var (pv 0)) (ma_cons (me_qrep (me_qtup (ma_cons (me_var (pv 2)) ma_nil)) (me_qlen (by rfl) Z.z_len (ma_cons (me_var (pv 0)) ma_nil))) ma_nil))))
    (mss_cons (ms_expr (me_append (me_var (pv 1)) (ma_cons (me_qlst (ma_cons (me_var (pv 3)) (ma_cons (me_fnC h_row_error gd rm (by decide) (by rfl) (ma_cons (me_var (pv 0)) (ma_cons (me_qtup (ma_cons me_int (ma_cons (me_var (pv 2)) ma_nil))) ma_nil))) (ma_cons (me_fnC h_pieces_error gd rm (by decide) (by rfl) (ma_cons (me_var (pv 0)) (ma_cons (me_qtup (ma_cons (me_qtup (ma_cons (me_var (pv 2)) (ma_cons me_int ma_nil))) ma_nil)) ma_nil))) ma_nil)))) ma_nil)))
    (mss_one (ms_expr (me_append (me_var (pv 1)) (ma_cons (me_qlst (ma_cons (me_fnC h_pieces_error gd rm (by decide) (by rfl) (ma_cons (me_var (pv 0)) (ma_cons (me_qtup (ma_cons (me_tup (ma_cons (me_tup (ma_cons me_int ma_nil)) (ma_cons me_int ma_nil))) (ma_cons (me_var (pv 2)) ma_nil))) ma_nil))) (ma_cons (me_fnC h_pieces_error gd rm (by decide) (by rfl) (ma_cons (me_var (pv 0)) (ma_cons (me_qtup (ma_cons (me_qtup (ma_cons (me_tup (ma_cons me_int ma_nil)) (ma_cons (me_var (pv 2)) ma_nil))) ma_nil)) ma_nil))) ma_nil))) ma_nil))))))))
    (mss_cons (ms_set (i := 4) sc__law_are_refused.nd rfl (by first | exact .inl rfl | exact .inr rfl) (me_lst (ma_cons (me_mul (me_lst (ma_cons me_str ma_nil)) me_int) (ma_cons (me_lst (ma_cons (me_tup (ma_cons me_str (ma_cons me_int ma_nil))) (ma_cons (me_tup (ma_cons me_str (ma_cons me_int ma_nil))) (ma_cons (me_tup (ma_cons me_str (ma_cons me_int ma_nil))) ma_nil)))) (ma_cons (me_lst (ma_cons (me_tup (ma_cons me_str (ma_cons me_int ma_nil))) (ma_cons (me_tup (ma_cons me_str (ma_cons me_int ma_nil))) ma_nil))) ma_nil)))))
    (mss_one (ms_ret (me_eq rm (me_qrepr gd rm (by rfl) Z.z_repr (ma_cons (me_var (pv 1)) ma_nil)) (me_qrepr gd rm (by rfl) Z.z_repr (ma_cons (me_mul (me_var (pv 4)) me_int) ma_nil)))))))) : MSs _ (defBody s__law_are_refused) b__law_are_refused)
theorem ok_law (Z : Zs K mg) (h__law_reel : Kn P w K mg base 1 "_law_reel" s__law_reel ["script"] d__law_reel) (h__law_book : Kn P w K mg base 4 "_law_book" s__law_book ["reel", "many"] d__law_book) (h__law_draw : Kn P w K mg base 1 "_law_draw" s__law_draw ["reel", "many"] d__law_draw) (h__law_record : Kn P w K mg base 3 "_law_record" s__law_record ["reel", "book"] d__law_record) (h__law_odd : Kn P w K mg base 3 "_law_odd" s__law_odd ["reel", "row", "ends"] d__law_odd) (h__law_is_told : Kn P w K mg base 8 "_law_is_told" s__law_is_told ["word", "book", "value", "is_named"] d__law_is_told) (h__law_row : Kn P w K mg base 2 "_law_row" s__law_row ["reel", "book", "many"] d__law_row) (h__law_pick : Kn P w K mg base 2 "_law_pick" s__law_pick ["reel", "things"] d__law_pick) (h__law_odd_piece : Kn P w K mg base 4 "_law_odd_piece" s__law_odd_piece ["reel", "book", "piece"] d__law_odd_piece) (h__law_are_refused : Kn P w K mg base 8 "_law_are_refused" s__law_are_refused ["book"] d__law_are_refused) {f : Addr} {fd : FuncData} (F : Fun K "law" "law" s_law f fd) : FnG P w K mg base 9 f fd ["script"] (spM K d_law) :=
  okC_def (k := 8) F sc_law fun cdv A outer sh H E gd rm =>
   ((mss_cons (ms_unp2 (i := 1) (j := 2) rfl sc_law.nd rfl rfl (by first | exact .inl rfl | exact .inr rfl) (by first | exact .inl rfl | exact .inr rfl) (by first | exact .inl rfl | exact .inr rfl) (by first | exact .inl rfl | exact .inr rfl) (ma_cons (me_fn h__law_reel gd rm (by decide) (by rfl) (ma_cons (me_var (pv 0)) ma_nil)) (ma_cons (me_tup (ma_cons (me_tup (ma_cons me_int (ma_cons me_int ma_nil))) ma_nil)) ma_nil)))
    (mss_cons (ms_for PassesOwn.never rfl (mi_range (by rfl) Z.z_range (ma_cons me_int ma_nil)) (mg_name (i := 3) sc_law.nd rfl (by first | exact .inl rfl | exact .inr rfl)) (mss_cons (ms_set (i := 2) sc_law.nd rfl (by first | exact .inl rfl | exact .inr rfl) (me_fnC h__law_book gd rm (by decide) (by rfl) (ma_cons (me_var (pv 1)) (ma_cons (me_qadd me_int (me_fnC h__law_draw gd rm (by decide) (by rfl) (ma_cons (me_var (pv 1)) (ma_cons me_int ma_nil)))) ma_nil))))
    (mss_cons (ms_set (i := 4) sc_law.nd rfl (by first | exact .inl rfl | exact .inr rfl) (me_fnC h__law_record gd rm (by decide) (by rfl) (ma_cons (me_var (pv 1)) (ma_cons (me_var (pv 2)) ma_nil))))
    (mss_cons (ms_setLcQ (n := 5) (own := [("nth", 6)]) rfl sc_law.nd rfl rfl (swT rfl rfl rfl (by decide +kernel)) (mi_range (by rfl) Z.z_range (ma_cons me_int ma_nil)) (blkOk_by (N := ["script", "reel", "book", "turn", "record", "odd", "nth", "own", "values", "value", "row", "menu", "many", "pieces", "at", "long"]) (sc := defScope s_law) (by decide +kernel)) (fun _ _ _ _ _ => (mg_name (i := 6) sc_law.nd rfl (by first | exact .inl rfl | exact .inr rfl))) (fun _ _ _ _ _ => mts_nil) (fun _ _ _ _ _ => (me_fnC h__law_odd gd rm (by decide) (by rfl) (ma_cons (me_var (pv 1)) (ma_cons (me_var (pv 4)) (ma_cons (me_lst (ma_cons (me_add (me_pow me_int me_int) me_int) ma_nil)) ma_nil))))) (by decide))
    (mss_cons (ms_set (i := 5) sc_law.nd rfl (by first | exact .inl rfl | exact .inr rfl) (me_qaddM (me_qadd (me_frz (me_var (pv 5))) (me_lcQ (own := [("own", 7)]) rfl sc_law.nd (mi_qseq (me_qslice (me_var (pv 5)) mo_none (mo_some me_int))) (blkOk_by (N := ["script", "reel", "book", "turn", "record", "odd", "nth", "own", "values", "value", "row", "menu", "many", "pieces", "at", "long"]) (sc := defScope s_law) (by decide +kernel)) (fun _ _ _ _ _ => (mg_name (i := 7) sc_law.nd rfl (by first | exact .inl rfl | exact .inr rfl))) (fun _ _ _ _ _ => (mts_one (mb_val (me_qisj (by rfl) Z.z_isinstance (by rfl) Z.z_tuple (by decide +kernel) Z.qb_0 Z.qj_1 (me_var (pv 7)))))) (fun _ _ _ _ _ => (me_fnC h__law_odd gd rm (by decide) (by rfl) (ma_cons (me_var (pv 1)) (ma_cons (me_var (pv 7)) (ma_cons (me_lst (ma_cons (me_neg me_int) ma_nil)) ma_nil))))) (by decide))) (me_qlst (ma_cons (me_qslice (me_tup (ma_cons (me_neg me_int) (ma_cons me_bl ma_nil))) mo_none (mo_some (me_qlen (by rfl) Z.z_len (ma_cons (me_var (pv 2)) ma_nil)))) ma_nil))))
    (mss_cons (ms_expr (me_append (me_var (pv 5)) (ma_cons (me_qadd (me_qadd (me_tup (ma_cons me_non ma_nil)) (me_qslice (me_var (pv 4)) (mo_some me_int) (mo_some (me_neg me_int)))) (me_tup (ma_cons (me_add (me_pow me_int me_int) me_int) ma_nil))) ma_nil)))
    (mss_cons (ms_set (i := 8) sc_law.nd rfl (by first | exact .inl rfl | exact .inr rfl) (me_qaddM (me_qlst (ma_cons (me_var (pv 4)) (ma_cons (me_qrep (me_tup (ma_cons me_int ma_nil)) (me_qlen (by rfl) Z.z_len (ma_cons (me_var (pv 2)) ma_nil))) (ma_cons (me_qrep (me_tup (ma_cons (me_pow me_int me_int) ma_nil)) (me_qlen (by rfl) Z.z_len (ma_cons (me_var (pv 2)) ma_nil))) ma_nil)))) (me_frz (me_var (pv 5)))))
    (mss_cons (ms_if (mb_ne rm (me_lcR (own := [("value", 9)]) rfl sc_law.nd (me_var (pv 8)) (blkOk_by (N := ["script", "reel", "book", "turn", "record", "odd", "nth", "own", "values", "value", "row", "menu", "many", "pieces", "at", "long"]) (sc := defScope s_law) (by decide +kernel)) (fun _ _ _ _ _ => (mg_name (i := 9) sc_law.nd rfl (by first | exact .inl rfl | exact .inr rfl))) (fun _ _ _ _ _ => (mts_one (mb_not (mb_val (me_fnC h__law_is_told gd rm (by decide) (by rfl) (ma_cons me_str (ma_cons (me_var (pv 2)) (ma_cons (me_var (pv 9)) (ma_cons (me_eq rm (me_mod (me_var (pv 3)) me_int) me_int) ma_nil))))))))) (fun _ _ _ _ _ => me_int) (by decide)) (me_lst ma_nil)) (mss_one (ms_ret me_bl)) mss_nil)
    (mss_cons (ms_set (i := 10) sc_law.nd rfl (by first | exact .inl rfl | exact .inr rfl) (me_fnC h__law_row gd rm (by decide) (by rfl) (ma_cons (me_var (pv 1)) (ma_cons (me_var (pv 2)) (ma_cons (me_fnC h__law_pick gd rm (by decide) (by rfl) (ma_cons (me_var (pv 1)) (ma_cons (me_lst (ma_cons me_int (ma_cons me_int (ma_cons me_int (ma_cons me_int ma_nil))))) ma_nil))) ma_nil)))))
    (mss_cons (ms_setLcQ (n := 5) (own := [("nth", 6)]) rfl sc_law.nd rfl rfl (swT rfl rfl rfl (by decide +kernel)) (mi_range (by rfl) Z.z_range (ma_cons me_int ma_nil)) (blkOk_by (N := ["script", "reel", "book", "turn", "record", "odd", "nth", "own", "values", "value", "row", "menu", "many", "pieces", "at", "long"]) (sc := defScope s_law) (by decide +kernel)) (fun _ _ _ _ _ => (mg_name (i := 6) sc_law.nd rfl (by first | exact .inl rfl | exact .inr rfl))) (fun _ _ _ _ _ => mts_nil) (fun _ _ _ _ _ => (me_fnC h__law_odd gd rm (by decide) (by rfl) (ma_cons (me_var (pv 1)) (ma_cons (me_var (pv 10)) (ma_cons (me_qlst (ma_cons (me_qlen (by rfl) Z.z_len (ma_cons (me_var (pv 2)) ma_nil)) (ma_cons me_int ma_nil))) ma_nil))))) (by decide))
    (mss_cons (ms_set (i := 5) sc_law.nd rfl (by first | exact .inl rfl | exact .inr rfl) (me_qaddM (me_frz (me_var (pv 5))) (me_lcQ (own := [("own", 7)]) rfl sc_law.nd (mi_qseq (me_qslice (me_var (pv 5)) mo_none (mo_some me_int))) (blkOk_by (N := ["script", "reel", "book", "turn", "record", "odd", "nth", "own", "values", "value", "row", "menu", "many", "pieces", "at", "long"]) (sc := defScope s_law) (by decide +kernel)) (fun _ _ _ _ _ => (mg_name (i := 7) sc_law.nd rfl (by first | exact .inl rfl | exact .inr rfl))) (fun _ _ _ _ _ => (mts_one (mb_val (me_qisj (by rfl) Z.z_isinstance (by rfl) Z.z_tuple (by decide +kernel) Z.qb_0 Z.qj_1 (me_var (pv 7)))))) (fun _ _ _ _ _ => (me_fnC h__law_odd gd rm (by decide) (by rfl) (ma_cons (me_var (pv 1)) (ma_cons (me_var (pv 7)) (ma_cons (me_qlst (ma_cons (me_qlen (by rfl) Z.z_len (ma_cons (me_var (pv 2)) ma_nil)) ma_nil)) ma_nil))))) (by decide))))
    (mss_cons (ms_set (i := 8) sc_law.nd rfl (by first | exact .inl rfl | exact .inr rfl) (me_qaddM (me_qlst (ma_cons (me_var (pv 10)) (ma_cons (me_qslice (me_qrep (me_var (pv 10)) me_int) mo_none (mo_some me_int)) (ma_cons (me_qadd (me_qslice (me_var (pv 10)) mo_none (mo_some me_int)) (me_qtup (ma_cons (me_qlen (by rfl) Z.z_len (ma_cons (me_var (pv 2)) ma_nil)) (ma_cons me_int (ma_cons (me_neg me_int) ma_nil))))) (ma_cons (me_qadd (me_qslice (me_qrep (me_var (pv 10)) me_int) mo_none (mo_some me_int)) (me_tup (ma_cons (me_neg me_int) ma_nil))) ma_nil))))) (me_frz (me_var (pv 5)))))
    (mss_cons (ms_if (mb_ne rm (me_lcR (own := [("value", 9)]) rfl sc_law.nd (me_var (pv 8)) (blkOk_by (N := ["script", "reel", "book", "turn", "record", "odd", "nth", "own", "values", "value", "row", "menu", "many", "pieces", "at", "long"]) (sc := defScope s_law) (by decide +kernel)) (fun _ _ _ _ _ => (mg_name (i := 9) sc_law.nd rfl (by first | exact .inl rfl | exact .inr rfl))) (fun _ _ _ _ _ => (mts_one (mb_not (mb_val (me_fnC h__law_is_told gd rm (by decide) (by rfl) (ma_cons me_str (ma_cons (me_var (pv 2)) (ma_cons (me_var (pv 9)) (ma_cons (me_eq rm (me_mod (me_var (pv 3)) me_int) me_int) ma_nil))))))))) (fun _ _ _ _ _ => me_int) (by decide)) (me_lst ma_nil)) (mss_one (ms_ret me_bl)) mss_nil)
    (mss_cons (ms_set (i := 11) sc_law.nd rfl (by first | exact .inl rfl | exact .inr rfl) (me_lst (ma_cons me_int (ma_cons (me_pow me_int me_int) (ma_cons (me_add me_int (me_fnC h__law_draw gd rm (by decide) (by rfl) (ma_cons (me_var (pv 1)) (ma_cons me_int ma_nil)))) ma_nil)))))
    (mss_cons (ms_set (i := 12) sc_law.nd rfl (by first | exact .inl rfl | exact .inr rfl) (me_fnC h__law_pick gd rm (by decide) (by rfl) (ma_cons (me_var (pv 1)) (ma_cons (me_lst (ma_cons me_int (ma_cons me_int (ma_cons me_int (ma_cons me_int ma_nil))))) ma_nil))))
    (mss_cons (ms_set (i := 13) sc_law.nd rfl (by first | exact .inl rfl | exact .inr rfl) (me_tuple (by rfl) Z.z_tuple (ma_cons (me_lc (own := [("nth", 6)]) rfl sc_law.nd (mi_range (by rfl) Z.z_range (ma_cons (me_var (pv 12)) ma_nil)) (blkOk_by (N := ["script", "reel", "book", "turn", "record", "odd", "nth", "own", "values", "value", "row", "menu", "many", "pieces", "at", "long"]) (sc := defScope s_law) (by decide +kernel)) (fun _ _ _ _ _ => (mg_name (i := 6) sc_law.nd rfl (by first | exact .inl rfl | exact .inr rfl))) (fun _ _ _ _ _ => mts_nil) (fun _ _ _ _ _ => (me_tup (ma_cons (me_fnC h__law_row gd rm (by decide) (by rfl) (ma_cons (me_var (pv 1)) (ma_cons (me_var (pv 2)) (ma_cons (me_add me_int (me_fnC h__law_draw gd rm (by decide) (by rfl) (ma_cons (me_var (pv 1)) (ma_cons me_int ma_nil)))) ma_nil)))) (ma_cons (me_fnC h__law_pick gd rm (by decide) (by rfl) (ma_cons (me_var (pv 1)) (ma_cons (me_var (pv 11)) ma_nil))) ma_nil)))) (by decide)) ma_nil)))
    (mss_cons (ms_set (i := 8) sc_law.nd rfl (by first | exact .inl rfl | exact .inr rfl) (me_newD (ma_cons (me_var (pv 13)) (ma_cons (me_qrep (me_var (pv 13)) me_int) ma_nil))))
    (mss_cons (ms_for PassesOwn.never rfl (mi_range (by rfl) Z.z_range (ma_cons me_int ma_nil)) (mg_name (i := 6) sc_law.nd rfl (by first | exact .inl rfl | exact .inr rfl)) (mss_cons (ms_set (i := 14) sc_law.nd rfl (by first | exact .inl rfl | exact .inr rfl) (me_fnC h__law_draw gd rm (by decide) (by rfl) (ma_cons (me_var (pv 1)) (ma_cons (me_var (pv 12)) ma_nil))))
    (mss_cons (ms_set (i := 5) sc_law.nd rfl (by first | exact .inl rfl | exact .inr rfl) (me_qadd (me_qadd (me_qslice (me_var (pv 13)) mo_none (mo_some (me_var (pv 14)))) (me_qtup (ma_cons (me_fnC h__law_odd_piece gd rm (by decide) (by rfl) (ma_cons (me_var (pv 1)) (ma_cons (me_var (pv 2)) (ma_cons (me_qix (me_var (pv 13)) (me_var (pv 14)) fun _ _ => rfl) ma_nil)))) ma_nil))) (me_qslice (me_var (pv 13)) (mo_some (me_qadd (me_var (pv 14)) me_int)) mo_none)))
    (mss_one (ms_expr (me_append (me_var (pv 8)) (ma_cons (me_ite (mb_eq rm (me_var (pv 6)) me_int) (me_qadd (me_frz (me_var (pv 5))) (me_tup (ma_cons me_non ma_nil))) (me_frz (me_var (pv 5)))) ma_nil)))))))
    (mss_cons (ms_set (i := 15) sc_law.nd rfl (by first | exact .inl rfl | exact .inr rfl) (me_fnC h__law_row gd rm (by decide) (by rfl) (ma_cons (me_var (pv 1)) (ma_cons (me_var (pv 2)) (ma_cons (me_fnC h__law_pick gd rm (by decide) (by rfl) (ma_cons (me_var (pv 1)) (ma_cons (me_lst (ma_cons me_int (ma_cons me_int (ma_cons me_int ma_nil)))) ma_nil))) ma_nil)))))
    (mss_cons (ms_set (i := 8) sc_law.nd rfl (by first | exact .inl rfl | exact .inr rfl) (me_qaddM (me_var (pv 8)) (me_qlst (ma_cons (me_qtup (ma_cons (me_qtup (ma_cons (me_var (pv 15)) (ma_cons me_int ma_nil))) ma_nil)) (ma_cons (me_qadd (me_qslice (me_var (pv 13)) mo_none (mo_some me_int)) (me_qtup (ma_cons (me_qtup (ma_cons (me_var (pv 15)) (ma_cons me_int ma_nil))) (ma_cons (me_qtup (ma_cons (me_qadd (me_var (pv 15)) (me_var (pv 15))) (ma_cons me_int ma_nil))) ma_nil)))) ma_nil)))))
    (mss_cons (ms_expr (me_append (me_var (pv 8)) (ma_cons (me_qadd (me_qslice (me_var (pv 13)) mo_none (mo_some me_int)) (me_qtup (ma_cons (me_qtup (ma_cons (me_qadd (me_qslice (me_var (pv 15)) mo_none (mo_some me_int)) (me_tup (ma_cons (me_neg me_int) ma_nil))) (ma_cons me_int ma_nil))) ma_nil))) ma_nil)))
    (mss_cons (ms_expr (me_append (me_var (pv 8)) (ma_cons (me_fnC h__law_odd gd rm (by decide) (by rfl) (ma_cons (me_var (pv 1)) (ma_cons (me_var (pv 13)) (ma_cons (me_lst (ma_cons (me_tup (ma_cons (me_tup (ma_cons me_int ma_nil)) (ma_cons me_int ma_nil))) ma_nil)) ma_nil)))) ma_nil)))
    (mss_one (ms_if (mb_ne rm (me_lcR (own := [("value", 9)]) rfl sc_law.nd (me_var (pv 8)) (blkOk_by (N := ["script", "reel", "book", "turn", "record", "odd", "nth", "own", "values", "value", "row", "menu", "many", "pieces", "at", "long"]) (sc := defScope s_law) (by decide +kernel)) (fun _ _ _ _ _ => (mg_name (i := 9) sc_law.nd rfl (by first | exact .inl rfl | exact .inr rfl))) (fun _ _ _ _ _ => (mts_one (mb_not (mb_val (me_fnC h__law_is_told gd rm (by decide) (by rfl) (ma_cons me_str (ma_cons (me_var (pv 2)) (ma_cons (me_var (pv 9)) (ma_cons (me_eq rm (me_mod (me_var (pv 3)) me_int) me_int) ma_nil))))))))) (fun _ _ _ _ _ => me_int) (by decide)) (me_lst ma_nil)) (mss_one (ms_ret me_bl)) mss_nil))))))))))))))))))))))))
    (mss_one (ms_ret (me_fnC h__law_are_refused gd rm (by decide) (by rfl) (ma_cons (me_var (pv 2)) ma_nil)))))) : MSs _ (defBody s_law) b_law)
end
/-- what the top has written -/
theorem all_mk {P : Program} {w : World} {K : PySem.W.Frag} {h : Heap} {mg : Str → Option Value} {fa : Addr} (X : K.In h) (G : h.Ns mainGlobals mg) (hfa : mg "law" = some (.ref fa))
    {f0 : Addr} {od0 an0 : Option Addr} {sl0 : Array (Option Value)} {oc0 kV0 dc0 pm0 cd0 ct0 : Value}
    (a0 : PySem.W.nsIn K mainGlobals "_law_reel" = some (some (.ref f0))) (l0 : K.lookup f0 = some ⟨oc0, od0, .func (PySem.W.fnOf "_law_reel" "_law_reel" (defArgs s__law_reel) (defBody s__law_reel) (defScope s__law_reel) .none kV0 dc0 pm0 an0 cd0 ct0), sl0⟩) (c0 : PySem.W.codeIn K cd0 "_law_reel" = true) (k0 : PySem.W.keepIn K (.ref f0) = true)
    {f1 : Addr} {od1 an1 : Option Addr} {sl1 : Array (Option Value)} {oc1 kV1 dc1 pm1 cd1 ct1 : Value}
    (a1 : PySem.W.nsIn K mainGlobals "_law_draw" = some (some (.ref f1))) (l1 : K.lookup f1 = some ⟨oc1, od1, .func (PySem.W.fnOf "_law_draw" "_law_draw" (defArgs s__law_draw) (defBody s__law_draw) (defScope s__law_draw) .none kV1 dc1 pm1 an1 cd1 ct1), sl1⟩) (c1 : PySem.W.codeIn K cd1 "_law_draw" = true) (k1 : PySem.W.keepIn K (.ref f1) = true)
    {f2 : Addr} {od2 an2 : Option Addr} {sl2 : Array (Option Value)} {oc2 kV2 dc2 pm2 cd2 ct2 : Value}
    (a2 : PySem.W.nsIn K mainGlobals "_law_pick" = some (some (.ref f2))) (l2 : K.lookup f2 = some ⟨oc2, od2, .func (PySem.W.fnOf "_law_pick" "_law_pick" (defArgs s__law_pick) (defBody s__law_pick) (defScope s__law_pick) .none kV2 dc2 pm2 an2 cd2 ct2), sl2⟩) (c2 : PySem.W.codeIn K cd2 "_law_pick" = true) (k2 : PySem.W.keepIn K (.ref f2) = true)
    {f3 : Addr} {od3 an3 : Option Addr} {sl3 : Array (Option Value)} {oc3 kV3 dc3 pm3 cd3 ct3 : Value}
    (a3 : PySem.W.nsIn K mainGlobals "_law_size" = some (some (.ref f3))) (l3 : K.lookup f3 = some ⟨oc3, od3, .func (PySem.W.fnOf "_law_size" "_law_size" (defArgs s__law_size) (defBody s__law_size) (defScope s__law_size) .none kV3 dc3 pm3 an3 cd3 ct3), sl3⟩) (c3 : PySem.W.codeIn K cd3 "_law_size" = true) (k3 : PySem.W.keepIn K (.ref f3) = true)
    {f4 : Addr} {od4 an4 : Option Addr} {sl4 : Array (Option Value)} {oc4 kV4 dc4 pm4 cd4 ct4 : Value}
    (a4 : PySem.W.nsIn K mainGlobals "_law_book" = some (some (.ref f4))) (l4 : K.lookup f4 = some ⟨oc4, od4, .func (PySem.W.fnOf "_law_book" "_law_book" (defArgs s__law_book) (defBody s__law_book) (defScope s__law_book) .none kV4 dc4 pm4 an4 cd4 ct4), sl4⟩) (c4 : PySem.W.codeIn K cd4 "_law_book" = true) (k4 : PySem.W.keepIn K (.ref f4) = true)
    {f5 : Addr} {od5 an5 : Option Addr} {sl5 : Array (Option Value)} {oc5 kV5 dc5 pm5 cd5 ct5 : Value}
    (a5 : PySem.W.nsIn K mainGlobals "_law_record" = some (some (.ref f5))) (l5 : K.lookup f5 = some ⟨oc5, od5, .func (PySem.W.fnOf "_law_record" "_law_record" (defArgs s__law_record) (defBody s__law_record) (defScope s__law_record) .none kV5 dc5 pm5 an5 cd5 ct5), sl5⟩) (c5 : PySem.W.codeIn K cd5 "_law_record" = true) (k5 : PySem.W.keepIn K (.ref f5) = true)
    {f7 : Addr} {od7 an7 : Option Addr} {sl7 : Array (Option Value)} {oc7 kV7 dc7 pm7 cd7 ct7 : Value}
    (a7 : PySem.W.nsIn K mainGlobals "_law_far" = some (some (.ref f7))) (l7 : K.lookup f7 = some ⟨oc7, od7, .func (PySem.W.fnOf "_law_far" "_law_far" (defArgs s__law_far) (defBody s__law_far) (defScope s__law_far) .none kV7 dc7 pm7 an7 cd7 ct7), sl7⟩) (c7 : PySem.W.codeIn K cd7 "_law_far" = true) (k7 : PySem.W.keepIn K (.ref f7) = true)
    {f8 : Addr} {od8 an8 : Option Addr} {sl8 : Array (Option Value)} {oc8 kV8 dc8 pm8 cd8 ct8 : Value}
    (a8 : PySem.W.nsIn K mainGlobals "_law_odd" = some (some (.ref f8))) (l8 : K.lookup f8 = some ⟨oc8, od8, .func (PySem.W.fnOf "_law_odd" "_law_odd" (defArgs s__law_odd) (defBody s__law_odd) (defScope s__law_odd) .none kV8 dc8 pm8 an8 cd8 ct8), sl8⟩) (c8 : PySem.W.codeIn K cd8 "_law_odd" = true) (k8 : PySem.W.keepIn K (.ref f8) = true)
    {f9 : Addr} {od9 an9 : Option Addr} {sl9 : Array (Option Value)} {oc9 kV9 dc9 pm9 cd9 ct9 : Value}
    (a9 : PySem.W.nsIn K mainGlobals "_law_is_int" = some (some (.ref f9))) (l9 : K.lookup f9 = some ⟨oc9, od9, .func (PySem.W.fnOf "_law_is_int" "_law_is_int" (defArgs s__law_is_int) (defBody s__law_is_int) (defScope s__law_is_int) .none kV9 dc9 pm9 an9 cd9 ct9), sl9⟩) (c9 : PySem.W.codeIn K cd9 "_law_is_int" = true) (k9 : PySem.W.keepIn K (.ref f9) = true)
    {f10 : Addr} {od10 an10 : Option Addr} {sl10 : Array (Option Value)} {oc10 kV10 dc10 pm10 cd10 ct10 : Value}
    (a10 : PySem.W.nsIn K mainGlobals "_law_row_fault" = some (some (.ref f10))) (l10 : K.lookup f10 = some ⟨oc10, od10, .func (PySem.W.fnOf "_law_row_fault" "_law_row_fault" (defArgs s__law_row_fault) (defBody s__law_row_fault) (defScope s__law_row_fault) .none kV10 dc10 pm10 an10 cd10 ct10), sl10⟩) (c10 : PySem.W.codeIn K cd10 "_law_row_fault" = true) (k10 : PySem.W.keepIn K (.ref f10) = true)
    {f11 : Addr} {od11 an11 : Option Addr} {sl11 : Array (Option Value)} {oc11 kV11 dc11 pm11 cd11 ct11 : Value}
    (a11 : PySem.W.nsIn K mainGlobals "_law_pieces_fault" = some (some (.ref f11))) (l11 : K.lookup f11 = some ⟨oc11, od11, .func (PySem.W.fnOf "_law_pieces_fault" "_law_pieces_fault" (defArgs s__law_pieces_fault) (defBody s__law_pieces_fault) (defScope s__law_pieces_fault) .none kV11 dc11 pm11 an11 cd11 ct11), sl11⟩) (c11 : PySem.W.codeIn K cd11 "_law_pieces_fault" = true) (k11 : PySem.W.keepIn K (.ref f11) = true)
    {f12 : Addr} {od12 an12 : Option Addr} {sl12 : Array (Option Value)} {oc12 kV12 dc12 pm12 cd12 ct12 : Value}
    (a12 : PySem.W.nsIn K mainGlobals "_law_record_fault" = some (some (.ref f12))) (l12 : K.lookup f12 = some ⟨oc12, od12, .func (PySem.W.fnOf "_law_record_fault" "_law_record_fault" (defArgs s__law_record_fault) (defBody s__law_record_fault) (defScope s__law_record_fault) .none kV12 dc12 pm12 an12 cd12 ct12), sl12⟩) (c12 : PySem.W.codeIn K cd12 "_law_record_fault" = true) (k12 : PySem.W.keepIn K (.ref f12) = true)
    {f13 : Addr} {od13 an13 : Option Addr} {sl13 : Array (Option Value)} {oc13 kV13 dc13 pm13 cd13 ct13 : Value}
    (a13 : PySem.W.nsIn K mainGlobals "is_tuple_within" = some (some (.ref f13))) (l13 : K.lookup f13 = some ⟨oc13, od13, .func (PySem.W.fnOf "is_tuple_within" "is_tuple_within" (defArgs s_is_tuple_within) (defBody s_is_tuple_within) (defScope s_is_tuple_within) .none kV13 dc13 pm13 an13 cd13 ct13), sl13⟩) (c13 : PySem.W.codeIn K cd13 "is_tuple_within" = true) (k13 : PySem.W.keepIn K (.ref f13) = true)
    {f14 : Addr} {od14 an14 : Option Addr} {sl14 : Array (Option Value)} {oc14 kV14 dc14 pm14 cd14 ct14 : Value}
    (a14 : PySem.W.nsIn K mainGlobals "is_integer" = some (some (.ref f14))) (l14 : K.lookup f14 = some ⟨oc14, od14, .func (PySem.W.fnOf "is_integer" "is_integer" (defArgs s_is_integer) (defBody s_is_integer) (defScope s_is_integer) .none kV14 dc14 pm14 an14 cd14 ct14), sl14⟩) (c14 : PySem.W.codeIn K cd14 "is_integer" = true) (k14 : PySem.W.keepIn K (.ref f14) = true)
    {f15 : Addr} {od15 an15 : Option Addr} {sl15 : Array (Option Value)} {oc15 kV15 dc15 pm15 cd15 ct15 : Value}
    (a15 : PySem.W.nsIn K mainGlobals "is_integer_within" = some (some (.ref f15))) (l15 : K.lookup f15 = some ⟨oc15, od15, .func (PySem.W.fnOf "is_integer_within" "is_integer_within" (defArgs s_is_integer_within) (defBody s_is_integer_within) (defScope s_is_integer_within) .none kV15 dc15 pm15 an15 cd15 ct15), sl15⟩) (c15 : PySem.W.codeIn K cd15 "is_integer_within" = true) (k15 : PySem.W.keepIn K (.ref f15) = true)
    {f16 : Addr} {od16 an16 : Option Addr} {sl16 : Array (Option Value)} {oc16 kV16 dc16 pm16 cd16 ct16 : Value}
    (a16 : PySem.W.nsIn K mainGlobals "record_error" = some (some (.ref f16))) (l16 : K.lookup f16 = some ⟨oc16, od16, .func (PySem.W.fnOf "record_error" "record_error" (defArgs s_record_error) (defBody s_record_error) (defScope s_record_error) .none kV16 dc16 pm16 an16 cd16 ct16), sl16⟩) (c16 : PySem.W.codeIn K cd16 "record_error" = true) (k16 : PySem.W.keepIn K (.ref f16) = true)
    {f17 : Addr} {od17 an17 : Option Addr} {sl17 : Array (Option Value)} {oc17 kV17 dc17 pm17 cd17 ct17 : Value}
    (a17 : PySem.W.nsIn K mainGlobals "is_place" = some (some (.ref f17))) (l17 : K.lookup f17 = some ⟨oc17, od17, .func (PySem.W.fnOf "is_place" "is_place" (defArgs s_is_place) (defBody s_is_place) (defScope s_is_place) .none kV17 dc17 pm17 an17 cd17 ct17), sl17⟩) (c17 : PySem.W.codeIn K cd17 "is_place" = true) (k17 : PySem.W.keepIn K (.ref f17) = true)
    {f18 : Addr} {od18 an18 : Option Addr} {sl18 : Array (Option Value)} {oc18 kV18 dc18 pm18 cd18 ct18 : Value}
    (a18 : PySem.W.nsIn K mainGlobals "row_error" = some (some (.ref f18))) (l18 : K.lookup f18 = some ⟨oc18, od18, .func (PySem.W.fnOf "row_error" "row_error" (defArgs s_row_error) (defBody s_row_error) (defScope s_row_error) .none kV18 dc18 pm18 an18 cd18 ct18), sl18⟩) (c18 : PySem.W.codeIn K cd18 "row_error" = true) (k18 : PySem.W.keepIn K (.ref f18) = true)
    {f19 : Addr} {od19 an19 : Option Addr} {sl19 : Array (Option Value)} {oc19 kV19 dc19 pm19 cd19 ct19 : Value}
    (a19 : PySem.W.nsIn K mainGlobals "is_piece" = some (some (.ref f19))) (l19 : K.lookup f19 = some ⟨oc19, od19, .func (PySem.W.fnOf "is_piece" "is_piece" (defArgs s_is_piece) (defBody s_is_piece) (defScope s_is_piece) .none kV19 dc19 pm19 an19 cd19 ct19), sl19⟩) (c19 : PySem.W.codeIn K cd19 "is_piece" = true) (k19 : PySem.W.keepIn K (.ref f19) = true)
    {f20 : Addr} {od20 an20 : Option Addr} {sl20 : Array (Option Value)} {oc20 kV20 dc20 pm20 cd20 ct20 : Value}
    (a20 : PySem.W.nsIn K mainGlobals "pieces_error" = some (some (.ref f20))) (l20 : K.lookup f20 = some ⟨oc20, od20, .func (PySem.W.fnOf "pieces_error" "pieces_error" (defArgs s_pieces_error) (defBody s_pieces_error) (defScope s_pieces_error) .none kV20 dc20 pm20 an20 cd20 ct20), sl20⟩) (c20 : PySem.W.codeIn K cd20 "pieces_error" = true) (k20 : PySem.W.keepIn K (.ref f20) = true)
    {f21 : Addr} {od21 an21 : Option Addr} {sl21 : Array (Option Value)} {oc21 kV21 dc21 pm21 cd21 ct21 : Value}
    (a21 : PySem.W.nsIn K mainGlobals "_law_told" = some (some (.ref f21))) (l21 : K.lookup f21 = some ⟨oc21, od21, .func (PySem.W.fnOf "_law_told" "_law_told" (defArgs s__law_told) (defBody s__law_told) (defScope s__law_told) .none kV21 dc21 pm21 an21 cd21 ct21), sl21⟩) (c21 : PySem.W.codeIn K cd21 "_law_told" = true) (k21 : PySem.W.keepIn K (.ref f21) = true)
    {f22 : Addr} {od22 an22 : Option Addr} {sl22 : Array (Option Value)} {oc22 kV22 dc22 pm22 cd22 ct22 : Value}
    (a22 : PySem.W.nsIn K mainGlobals "_law_is_told" = some (some (.ref f22))) (l22 : K.lookup f22 = some ⟨oc22, od22, .func (PySem.W.fnOf "_law_is_told" "_law_is_told" (defArgs s__law_is_told) (defBody s__law_is_told) (defScope s__law_is_told) .none kV22 dc22 pm22 an22 cd22 ct22), sl22⟩) (c22 : PySem.W.codeIn K cd22 "_law_is_told" = true) (k22 : PySem.W.keepIn K (.ref f22) = true)
    {f23 : Addr} {od23 an23 : Option Addr} {sl23 : Array (Option Value)} {oc23 kV23 dc23 pm23 cd23 ct23 : Value}
    (a23 : PySem.W.nsIn K mainGlobals "_law_row" = some (some (.ref f23))) (l23 : K.lookup f23 = some ⟨oc23, od23, .func (PySem.W.fnOf "_law_row" "_law_row" (defArgs s__law_row) (defBody s__law_row) (defScope s__law_row) .none kV23 dc23 pm23 an23 cd23 ct23), sl23⟩) (c23 : PySem.W.codeIn K cd23 "_law_row" = true) (k23 : PySem.W.keepIn K (.ref f23) = true)
    {f24 : Addr} {od24 an24 : Option Addr} {sl24 : Array (Option Value)} {oc24 kV24 dc24 pm24 cd24 ct24 : Value}
    (a24 : PySem.W.nsIn K mainGlobals "_law_odd_piece" = some (some (.ref f24))) (l24 : K.lookup f24 = some ⟨oc24, od24, .func (PySem.W.fnOf "_law_odd_piece" "_law_odd_piece" (defArgs s__law_odd_piece) (defBody s__law_odd_piece) (defScope s__law_odd_piece) .none kV24 dc24 pm24 an24 cd24 ct24), sl24⟩) (c24 : PySem.W.codeIn K cd24 "_law_odd_piece" = true) (k24 : PySem.W.keepIn K (.ref f24) = true)
    {f25 : Addr} {od25 an25 : Option Addr} {sl25 : Array (Option Value)} {oc25 kV25 dc25 pm25 cd25 ct25 : Value}
    (a25 : PySem.W.nsIn K mainGlobals "is_size" = some (some (.ref f25))) (l25 : K.lookup f25 = some ⟨oc25, od25, .func (PySem.W.fnOf "is_size" "is_size" (defArgs s_is_size) (defBody s_is_size) (defScope s_is_size) .none kV25 dc25 pm25 an25 cd25 ct25), sl25⟩) (c25 : PySem.W.codeIn K cd25 "is_size" = true) (k25 : PySem.W.keepIn K (.ref f25) = true)
    {f26 : Addr} {od26 an26 : Option Addr} {sl26 : Array (Option Value)} {oc26 kV26 dc26 pm26 cd26 ct26 : Value}
    (a26 : PySem.W.nsIn K mainGlobals "is_alignment" = some (some (.ref f26))) (l26 : K.lookup f26 = some ⟨oc26, od26, .func (PySem.W.fnOf "is_alignment" "is_alignment" (defArgs s_is_alignment) (defBody s_is_alignment) (defScope s_is_alignment) .none kV26 dc26 pm26 an26 cd26 ct26), sl26⟩) (c26 : PySem.W.codeIn K cd26 "is_alignment" = true) (k26 : PySem.W.keepIn K (.ref f26) = true)
    {f27 : Addr} {od27 an27 : Option Addr} {sl27 : Array (Option Value)} {oc27 kV27 dc27 pm27 cd27 ct27 : Value}
    (a27 : PySem.W.nsIn K mainGlobals "is_kind" = some (some (.ref f27))) (l27 : K.lookup f27 = some ⟨oc27, od27, .func (PySem.W.fnOf "is_kind" "is_kind" (defArgs s_is_kind) (defBody s_is_kind) (defScope s_is_kind) .none kV27 dc27 pm27 an27 cd27 ct27), sl27⟩) (c27 : PySem.W.codeIn K cd27 "is_kind" = true) (k27 : PySem.W.keepIn K (.ref f27) = true)
    {f28 : Addr} {od28 an28 : Option Addr} {sl28 : Array (Option Value)} {oc28 kV28 dc28 pm28 cd28 ct28 : Value}
    (a28 : PySem.W.nsIn K mainGlobals "book_error" = some (some (.ref f28))) (l28 : K.lookup f28 = some ⟨oc28, od28, .func (PySem.W.fnOf "book_error" "book_error" (defArgs s_book_error) (defBody s_book_error) (defScope s_book_error) .none kV28 dc28 pm28 an28 cd28 ct28), sl28⟩) (c28 : PySem.W.codeIn K cd28 "book_error" = true) (k28 : PySem.W.keepIn K (.ref f28) = true)
    {f29 : Addr} {od29 an29 : Option Addr} {sl29 : Array (Option Value)} {oc29 kV29 dc29 pm29 cd29 ct29 : Value}
    {C_Desk : Addr} (xa_Desk : PySem.W.nsIn K mainGlobals "Desk" = some (some (.ref C_Desk))) (xk_Desk : PySem.W.keepIn K (.ref C_Desk) = true) (ca_Desk : CA K "Desk" = some C_Desk)
    (a29 : PySem.W.findIn K (.ref C_Desk) "__init__" = some (some (.ref f29))) (l29 : K.lookup f29 = some ⟨oc29, od29, .func (PySem.W.fnOf "__init__" "Desk.__init__" (defArgs s_Desk____init__) (defBody s_Desk____init__) (defScope s_Desk____init__) .none kV29 dc29 pm29 an29 cd29 ct29), sl29⟩) (c29 : PySem.W.codeIn K cd29 "Desk.__init__" = true) (k29 : PySem.W.keepIn K (.ref f29) = true)
    (im29 : PySem.W.makesIn K C_Desk = true) (ifn29 : PySem.W.isFn K (.ref f29) = true)
    {f30 : Addr} {od30 an30 : Option Addr} {sl30 : Array (Option Value)} {oc30 kV30 dc30 pm30 cd30 ct30 : Value}
    (a30 : PySem.W.nsIn K mainGlobals "_law_are_refused" = some (some (.ref f30))) (l30 : K.lookup f30 = some ⟨oc30, od30, .func (PySem.W.fnOf "_law_are_refused" "_law_are_refused" (defArgs s__law_are_refused) (defBody s__law_are_refused) (defScope s__law_are_refused) .none kV30 dc30 pm30 an30 cd30 ct30), sl30⟩) (c30 : PySem.W.codeIn K cd30 "_law_are_refused" = true) (k30 : PySem.W.keepIn K (.ref f30) = true)
    {f31 : Addr} {od31 an31 : Option Addr} {sl31 : Array (Option Value)} {oc31 kV31 dc31 pm31 cd31 ct31 : Value}
    (a31 : PySem.W.nsIn K mainGlobals "law" = some (some (.ref f31))) (l31 : K.lookup f31 = some ⟨oc31, od31, .func (PySem.W.fnOf "law" "law" (defArgs s_law) (defBody s_law) (defScope s_law) .none kV31 dc31 pm31 an31 cd31 ct31), sl31⟩) (c31 : PySem.W.codeIn K cd31 "law" = true) (k31 : PySem.W.keepIn K (.ref f31) = true)
    (z_isinstance : PySem.W.nsIn K mainGlobals "isinstance" = some none)
    (z_int : PySem.W.nsIn K mainGlobals "int" = some none)
    (z_bool : PySem.W.nsIn K mainGlobals "bool" = some none)
    (z_tuple : PySem.W.nsIn K mainGlobals "tuple" = some none)
    (z_len : PySem.W.nsIn K mainGlobals "len" = some none)
    (z_enumerate : PySem.W.nsIn K mainGlobals "enumerate" = some none)
    (z_sum : PySem.W.nsIn K mainGlobals "sum" = some none)
    (z_range : PySem.W.nsIn K mainGlobals "range" = some none)
    (z_max : PySem.W.nsIn K mainGlobals "max" = some none)
    (z_min : PySem.W.nsIn K mainGlobals "min" = some none)
    (z_list : PySem.W.nsIn K mainGlobals "list" = some none)
    (z_str : PySem.W.nsIn K mainGlobals "str" = some none)
    (z_repr : PySem.W.nsIn K mainGlobals "repr" = some none)
    {gt_MAX_SIZE : Tok} (g_MAX_SIZE : PySem.W.nsIn K mainGlobals "MAX_SIZE" = some (some (.int 1000000000000000000000000000000 gt_MAX_SIZE)))
    {ga_ALIGNMENTS : Addr} {gn_ALIGNMENTS : Nat} {gs_ALIGNMENTS : Array (Option Value)} {gt0_ALIGNMENTS gt1_ALIGNMENTS gt2_ALIGNMENTS gt3_ALIGNMENTS gt4_ALIGNMENTS gt5_ALIGNMENTS gt6_ALIGNMENTS : Tok} (g_ALIGNMENTS : PySem.W.nsIn K mainGlobals "ALIGNMENTS" = some (some (.ref ga_ALIGNMENTS)))
    (gl_ALIGNMENTS : K.lookup ga_ALIGNMENTS = some ⟨.type "tuple", none, .seq #[.int 1 gt0_ALIGNMENTS, .int 2 gt1_ALIGNMENTS, .int 4 gt2_ALIGNMENTS, .int 8 gt3_ALIGNMENTS, .int 16 gt4_ALIGNMENTS, .int 32 gt5_ALIGNMENTS, .int 64 gt6_ALIGNMENTS] gn_ALIGNMENTS, gs_ALIGNMENTS⟩)
    {gt_MAX_MANY : Tok} (g_MAX_MANY : PySem.W.nsIn K mainGlobals "MAX_MANY" = some (some (.int 1000000000000000000000000000000 gt_MAX_MANY)))
    {gt_MAX_KINDS : Tok} (g_MAX_KINDS : PySem.W.nsIn K mainGlobals "MAX_KINDS" = some (some (.int 6 gt_MAX_KINDS)))
    {gt_MAX_ROW : Tok} (g_MAX_ROW : PySem.W.nsIn K mainGlobals "MAX_ROW" = some (some (.int 100 gt_MAX_ROW)))
    {gt_MAX_PIECES : Tok} (g_MAX_PIECES : PySem.W.nsIn K mainGlobals "MAX_PIECES" = some (some (.int 20 gt_MAX_PIECES)))
    (qx_all : ((qt_tuple : List (Str × Bool)).map (·.1)).all (exqB K) = true)
    (qt_tuple : isqB K (.type "tuple") qt_tuple = true)
    (qj_tuple : isjB K "tuple" [("Desk", false)] = true)
    {C_Unfit : Addr}
    (xa_Unfit : PySem.W.nsIn K mainGlobals "Unfit" = some (some (.ref C_Unfit)))
    (xk_Unfit : PySem.W.keepIn K (.ref C_Unfit) = true)
    (xs_Unfit : PySem.W.subIn K (.ref C_Unfit) (.type "BaseException") = some true)
    (xt_Unfit : PySem.W.typeIn K (.ref C_Unfit) = some (.type "type"))
    (xi_Unfit : PySem.W.isClsIn K C_Unfit = true)
    (xg_Unfit : PySem.W.findIn K (.ref C_Unfit) "__getattribute__" = some (some (.builtin "BaseException.__getattribute__")))
    (xh_Unfit : PySem.W.findIn K (.ref C_Unfit) "__getattr__" = some none)
    (xc_Unfit : PySem.W.findIn K (.ref C_Unfit) "__class__" = some (some (.builtin "object.__class__")))
    (xm_Unfit : PySem.W.mroIn K C_Unfit (.type "object") = some true)
    (xsp : PySem.W.specialIn K (.builtin "object.__class__") "__get__" = some (some (.builtin "getset_descriptor.__get__")))
    (xtk : PySem.W.takesIn K (.builtin "object.__class__") = some true)
    (ca_Unfit : CA K "Unfit" = some C_Unfit)
    (xe_Unfit : PySem.W.excIn K C_Unfit tailVE "ValueError.__new__" = true)
    (qt_int : isqB K (.type "int") qt_int = true)
    (qj_int : isjB K "int" [("Desk", false)] = true)
    (qt_bool : isqB K (.type "bool") qt_bool = true)
    (qj_bool : isjB K "bool" [("Desk", false)] = true)
    (ipg_Desk : PySem.W.plainGet K C_Desk Str.empty = true)
    (ihd_Desk : PySem.W.hasDictIn K C_Desk = true)
    (ipo_Desk : PySem.W.plainOver K C_Desk = true)
    (isa_Desk : PySem.W.findIn K (.ref C_Desk) "__setattr__" = some (some (.builtin "object.__setattr__")))
    (ina_Desk__books : PySem.W.findIn K (.ref C_Desk) "_books" = some none)
    (ina_Desk__edits : PySem.W.findIn K (.ref C_Desk) "_edits" = some none)
    (ina_Desk__undone : PySem.W.findIn K (.ref C_Desk) "_undone" = some none)
    : ∃ fd : FuncData, (∀ (s : Shared) (v : Value), BindsTo s fd ⟨[v], []⟩ [("script", v)]) ∧ ∀ base : Heap, K.In base → base.Ns mainGlobals mg → FnG P w K mg base 9 fa fd ["script"] (spM K d_law) := by
  cases hfa.symm.trans (PySem.W.mg_of X G a31)
  have E_Unfit : ExF K C_Unfit := exf_of xk_Unfit xs_Unfit xt_Unfit xi_Unfit xg_Unfit xh_Unfit xc_Unfit xsp xtk xm_Unfit
  have Z : Zs K mg := ⟨PySem.W.mg_none_of X G z_isinstance, PySem.W.mg_none_of X G z_int, PySem.W.mg_none_of X G z_bool, PySem.W.mg_none_of X G z_tuple, PySem.W.mg_none_of X G z_len, PySem.W.mg_none_of X G z_enumerate, PySem.W.mg_none_of X G z_sum, PySem.W.mg_none_of X G z_range, PySem.W.mg_none_of X G z_max, PySem.W.mg_none_of X G z_min, PySem.W.mg_none_of X G z_list, PySem.W.mg_none_of X G z_str, PySem.W.mg_none_of X G z_repr, glc_int X G g_MAX_SIZE, glc_tup (is := [1, 2, 4, 8, 16, 32, 64]) X G g_ALIGNMENTS gl_ALIGNMENTS (show 7 ≤ sizeLine by decide) (.cons ⟨_, rfl⟩ (.cons ⟨_, rfl⟩ (.cons ⟨_, rfl⟩ (.cons ⟨_, rfl⟩ (.cons ⟨_, rfl⟩ (.cons ⟨_, rfl⟩ (.cons ⟨_, rfl⟩ .nil))))))), glc_int X G g_MAX_MANY, glc_int X G g_MAX_KINDS, glc_int X G g_MAX_ROW, glc_int X G g_MAX_PIECES, isqT_of (fun _ h => h) qx_all qt_tuple, isjT_of qj_tuple, ⟨C_Unfit, (PySem.W.mg_of X G xa_Unfit), ca_Unfit, xk_Unfit, xe_Unfit⟩, isqT_of (fun _ h => h) qx_all qt_int, isjT_of qj_int, isqT_of (fun _ h => h) qx_all qt_bool, isjT_of qj_bool, fun C h => by cases ca_Desk.symm.trans h; exact ⟨ipg_Desk, ihd_Desk, ipo_Desk, isa_Desk⟩, fun C h => by cases ca_Desk.symm.trans h; exact ina_Desk__books, fun C h => by cases ca_Desk.symm.trans h; exact ina_Desk__edits, fun C h => by cases ca_Desk.symm.trans h; exact ina_Desk__undone⟩
  refine ⟨PySem.W.fnOf "law" "law" (defArgs s_law) (defBody s_law) (defScope s_law) .none kV31 dc31 pm31 an31 cd31 ct31, fun s v => .of_eq rfl, fun base _ _ => ?_⟩
  have F0 := fun_mk (st := s__law_reel) l0 c0 k0
  have h0 : Kn P w K mg base 1 "_law_reel" s__law_reel ["script"] d__law_reel := ⟨_, _, ok__law_reel Z  F0, PySem.W.mg_of X G a0, F0, F0.binds fun _ _ _ _ _ _ us hl => match us, hl with | [_], _ => rfl⟩
  have F1 := fun_mk (st := s__law_draw) l1 c1 k1
  have h1 : Kn P w K mg base 1 "_law_draw" s__law_draw ["reel", "many"] d__law_draw := ⟨_, _, ok__law_draw Z  F1, PySem.W.mg_of X G a1, F1, F1.binds fun _ _ _ _ _ _ us hl => match us, hl with | [_, _], _ => rfl⟩
  have F2 := fun_mk (st := s__law_pick) l2 c2 k2
  have h2 : Kn P w K mg base 2 "_law_pick" s__law_pick ["reel", "things"] d__law_pick := ⟨_, _, ok__law_pick Z h1 F2, PySem.W.mg_of X G a2, F2, F2.binds fun _ _ _ _ _ _ us hl => match us, hl with | [_, _], _ => rfl⟩
  have F3 := fun_mk (st := s__law_size) l3 c3 k3
  have h3 : Kn P w K mg base 3 "_law_size" s__law_size ["reel", "step"] d__law_size := ⟨_, _, ok__law_size Z h1 h2 F3, PySem.W.mg_of X G a3, F3, F3.binds fun _ _ _ _ _ _ us hl => match us, hl with | [_, _], _ => rfl⟩
  have F4 := fun_mk (st := s__law_book) l4 c4 k4
  have h4 : Kn P w K mg base 4 "_law_book" s__law_book ["reel", "many"] d__law_book := ⟨_, _, ok__law_book Z h2 h3 h1 F4, PySem.W.mg_of X G a4, F4, F4.binds fun _ _ _ _ _ _ us hl => match us, hl with | [_, _], _ => rfl⟩
  have F5 := fun_mk (st := s__law_record) l5 c5 k5
  have h5 : Kn P w K mg base 3 "_law_record" s__law_record ["reel", "book"] d__law_record := ⟨_, _, ok__law_record Z h1 h2 F5, PySem.W.mg_of X G a5, F5, F5.binds fun _ _ _ _ _ _ us hl => match us, hl with | [_, _], _ => rfl⟩
  have F6 := fun_mk (st := s__law_pick_v) l2 c2 k2
  have h6 : Kn P w K mg base 2 "_law_pick" s__law_pick_v ["reel", "things"] d__law_pick_v := ⟨_, _, ok__law_pick_v Z h1 F6, PySem.W.mg_of X G a2, F6, F6.binds fun _ _ _ _ _ _ us hl => match us, hl with | [_, _], _ => rfl⟩
  have F7 := fun_mk (st := s__law_far) l7 c7 k7
  have h7 : Kn P w K mg base 1 "_law_far" s__law_far [] d__law_far := ⟨_, _, ok__law_far Z  F7, PySem.W.mg_of X G a7, F7, F7.binds fun _ _ _ _ _ _ us hl => match us, hl with | [], _ => rfl⟩
  have F8 := fun_mk (st := s__law_odd) l8 c8 k8
  have h8 : Kn P w K mg base 3 "_law_odd" s__law_odd ["reel", "row", "ends"] d__law_odd := ⟨_, _, ok__law_odd Z h1 h6 h7 F8, PySem.W.mg_of X G a8, F8, F8.binds fun _ _ _ _ _ _ us hl => match us, hl with | [_, _, _], _ => rfl⟩
  have F9 := fun_mk (st := s__law_is_int) l9 c9 k9
  have h9 : Kn P w K mg base 1 "_law_is_int" s__law_is_int ["value", "low", "high"] d__law_is_int := ⟨_, _, ok__law_is_int Z  F9, PySem.W.mg_of X G a9, F9, F9.binds fun _ _ _ _ _ _ us hl => match us, hl with | [_, _, _], _ => rfl⟩
  have F10 := fun_mk (st := s__law_row_fault) l10 c10 k10
  have h10 : Kn P w K mg base 2 "_law_row_fault" s__law_row_fault ["book", "value"] d__law_row_fault := ⟨_, _, ok__law_row_fault Z h9 F10, PySem.W.mg_of X G a10, F10, F10.binds fun _ _ _ _ _ _ us hl => match us, hl with | [_, _], _ => rfl⟩
  have F11 := fun_mk (st := s__law_pieces_fault) l11 c11 k11
  have h11 : Kn P w K mg base 3 "_law_pieces_fault" s__law_pieces_fault ["book", "value"] d__law_pieces_fault := ⟨_, _, ok__law_pieces_fault Z h10 h9 F11, PySem.W.mg_of X G a11, F11, F11.binds fun _ _ _ _ _ _ us hl => match us, hl with | [_, _], _ => rfl⟩
  have F12 := fun_mk (st := s__law_record_fault) l12 c12 k12
  have h12 : Kn P w K mg base 2 "_law_record_fault" s__law_record_fault ["book", "value"] d__law_record_fault := ⟨_, _, ok__law_record_fault Z h9 F12, PySem.W.mg_of X G a12, F12, F12.binds fun _ _ _ _ _ _ us hl => match us, hl with | [_, _], _ => rfl⟩
  have F13 := fun_mk (st := s_is_tuple_within) l13 c13 k13
  have h13 : Kn P w K mg base 1 "is_tuple_within" s_is_tuple_within ["value", "fewest", "most"] d_is_tuple_within := ⟨_, _, ok_is_tuple_within Z  F13, PySem.W.mg_of X G a13, F13, F13.binds fun _ _ _ _ _ _ us hl => match us, hl with | [_, _, _], _ => rfl⟩
  have F14 := fun_mk (st := s_is_integer) l14 c14 k14
  have h14 : Kn P w K mg base 1 "is_integer" s_is_integer ["value"] d_is_integer := ⟨_, _, ok_is_integer Z  F14, PySem.W.mg_of X G a14, F14, F14.binds fun _ _ _ _ _ _ us hl => match us, hl with | [_], _ => rfl⟩
  have F15 := fun_mk (st := s_is_integer_within) l15 c15 k15
  have h15 : Kn P w K mg base 2 "is_integer_within" s_is_integer_within ["value", "least", "greatest"] d_is_integer_within := ⟨_, _, ok_is_integer_within Z h14 F15, PySem.W.mg_of X G a15, F15, F15.binds fun _ _ _ _ _ _ us hl => match us, hl with | [_, _, _], _ => rfl⟩
  have F16 := fun_mk (st := s_record_error) l16 c16 k16
  have h16 : Kn P w K mg base 3 "record_error" s_record_error ["book", "value"] d_record_error := ⟨_, _, ok_record_error Z h13 h15 F16, PySem.W.mg_of X G a16, F16, F16.binds fun _ _ _ _ _ _ us hl => match us, hl with | [_, _], _ => rfl⟩
  have F17 := fun_mk (st := s_is_place) l17 c17 k17
  have h17 : Kn P w K mg base 3 "is_place" s_is_place ["book", "value"] d_is_place := ⟨_, _, ok_is_place Z h15 F17, PySem.W.mg_of X G a17, F17, F17.binds fun _ _ _ _ _ _ us hl => match us, hl with | [_, _], _ => rfl⟩
  have F18 := fun_mk (st := s_row_error) l18 c18 k18
  have h18 : Kn P w K mg base 4 "row_error" s_row_error ["book", "value"] d_row_error := ⟨_, _, ok_row_error Z h13 h17 F18, PySem.W.mg_of X G a18, F18, F18.binds fun _ _ _ _ _ _ us hl => match us, hl with | [_, _], _ => rfl⟩
  have F19 := fun_mk (st := s_is_piece) l19 c19 k19
  have h19 : Kn P w K mg base 5 "is_piece" s_is_piece ["book", "value"] d_is_piece := ⟨_, _, ok_is_piece Z h13 h18 h15 F19, PySem.W.mg_of X G a19, F19, F19.binds fun _ _ _ _ _ _ us hl => match us, hl with | [_, _], _ => rfl⟩
  have F20 := fun_mk (st := s_pieces_error) l20 c20 k20
  have h20 : Kn P w K mg base 6 "pieces_error" s_pieces_error ["book", "value"] d_pieces_error := ⟨_, _, ok_pieces_error Z h13 h19 F20, PySem.W.mg_of X G a20, F20, F20.binds fun _ _ _ _ _ _ us hl => match us, hl with | [_, _], _ => rfl⟩
  have F21 := fun_mk (st := s__law_told) l21 c21 k21
  have h21 : Kn P w K mg base 7 "_law_told" s__law_told ["word", "book", "value", "is_named"] d__law_told := ⟨_, _, ok__law_told Z h16 h18 h20 F21, PySem.W.mg_of X G a21, F21, F21.binds fun _ _ _ _ _ _ us hl => match us, hl with | [_, _, _, _], _ => rfl⟩
  have F22 := fun_mk (st := s__law_is_told) l22 c22 k22
  have h22 : Kn P w K mg base 8 "_law_is_told" s__law_is_told ["word", "book", "value", "is_named"] d__law_is_told := ⟨_, _, ok__law_is_told Z h10 h11 h12 h21 F22, PySem.W.mg_of X G a22, F22, F22.binds fun _ _ _ _ _ _ us hl => match us, hl with | [_, _, _, _], _ => rfl⟩
  have F23 := fun_mk (st := s__law_row) l23 c23 k23
  have h23 : Kn P w K mg base 2 "_law_row" s__law_row ["reel", "book", "many"] d__law_row := ⟨_, _, ok__law_row Z h1 F23, PySem.W.mg_of X G a23, F23, F23.binds fun _ _ _ _ _ _ us hl => match us, hl with | [_, _, _], _ => rfl⟩
  have F24 := fun_mk (st := s__law_odd_piece) l24 c24 k24
  have h24 : Kn P w K mg base 4 "_law_odd_piece" s__law_odd_piece ["reel", "book", "piece"] d__law_odd_piece := ⟨_, _, ok__law_odd_piece Z h8 h7 h6 F24, PySem.W.mg_of X G a24, F24, F24.binds fun _ _ _ _ _ _ us hl => match us, hl with | [_, _, _], _ => rfl⟩
  have F25 := fun_mk (st := s_is_size) l25 c25 k25
  have h25 : Kn P w K mg base 3 "is_size" s_is_size ["value"] d_is_size := ⟨_, _, ok_is_size Z h15 F25, PySem.W.mg_of X G a25, F25, F25.binds fun _ _ _ _ _ _ us hl => match us, hl with | [_], _ => rfl⟩
  have F26 := fun_mk (st := s_is_alignment) l26 c26 k26
  have h26 : Kn P w K mg base 2 "is_alignment" s_is_alignment ["value"] d_is_alignment := ⟨_, _, ok_is_alignment Z h14 F26, PySem.W.mg_of X G a26, F26, F26.binds fun _ _ _ _ _ _ us hl => match us, hl with | [_], _ => rfl⟩
  have F27 := fun_mk (st := s_is_kind) l27 c27 k27
  have h27 : Kn P w K mg base 4 "is_kind" s_is_kind ["value"] d_is_kind := ⟨_, _, ok_is_kind Z h13 h25 h26 F27, PySem.W.mg_of X G a27, F27, F27.binds fun _ _ _ _ _ _ us hl => match us, hl with | [_], _ => rfl⟩
  have F28 := fun_mk (st := s_book_error) l28 c28 k28
  have h28 : Kn P w K mg base 5 "book_error" s_book_error ["value"] d_book_error := ⟨_, _, ok_book_error Z h13 h27 F28, PySem.W.mg_of X G a28, F28, F28.binds fun _ _ _ _ _ _ us hl => match us, hl with | [_], _ => rfl⟩
  have F29 := fun_mk (st := s_Desk____init__) l29 c29 k29
  have h29 : KnI P w K mg base 6 "Desk" ["self", "book"] d_Desk____init__ := ⟨C_Desk, _, _, PySem.W.mg_of X G xa_Desk, ca_Desk, ⟨im29, a29, ifn29, xk_Desk⟩, ok_Desk____init__ Z h28 F29, F29.binds fun _ _ _ _ _ _ us hl => match us, hl with | [_, _], _ => rfl⟩
  have F30 := fun_mk (st := s__law_are_refused) l30 c30 k30
  have h30 : Kn P w K mg base 8 "_law_are_refused" s__law_are_refused ["book"] d__law_are_refused := ⟨_, _, ok__law_are_refused Z h29 h20 h18 h16 F30, PySem.W.mg_of X G a30, F30, F30.binds fun _ _ _ _ _ _ us hl => match us, hl with | [_], _ => rfl⟩
  have F31 := fun_mk (st := s_law) l31 c31 k31
  exact ok_law Z h0 h4 h1 h5 h8 h22 h23 h2 h24 h30 F31
end K02
set_option Elab.async false
set_option linter.all false
set_option maxRecDepth 100000
namespace Yq
open PySem PySem.Spec L2 L3 Sh Wm
structure Wq (w k : Nat) (x : Dt) : Prop where
  ex : ∃ y, pd x = some y ∧ y.showable = true ∧ y.leavesShort 410 = true ∧ y.weight ≤ w ∧ y.depth ≤ k
structure WqA (w k : Nat) (xs : List Dt) : Prop where
  ex : ∃ ys, pds xs = some ys ∧ PyData.showableAll ys = true ∧ PyData.leavesShortAll 410 ys = true ∧ PyData.weightAll ys ≤ w ∧ PyData.depthAll ys ≤ k
theorem Wq.mono {w w' k k' : Nat} {x : Dt} (h : Wq w k x) (hw : w ≤ w') (hk : k ≤ k') : Wq w' k' x := by
  obtain ⟨y, h1, h2, h3, h4, h5⟩ := h.ex
  exact ⟨y, h1, h2, h3, by omega, by omega⟩
theorem WqA.mono {w w' k k' : Nat} {x : List Dt} (h : WqA w k x) (hw : w ≤ w') (hk : k ≤ k') : WqA w' k' x := by
  obtain ⟨y, h1, h2, h3, h4, h5⟩ := h.ex
  exact ⟨y, h1, h2, h3, by omega, by omega⟩
theorem Wq.ok {w k : Nat} {x : Dt} (h : Wq w k x) (hw : w ≤ 30000) (hk : k ≤ 100) : ∃ y, pd x = some y ∧ OkShowQ y := by
  obtain ⟨y, h1, h2, h3, h4, h5⟩ := h.ex
  refine ⟨y, h1, h2, Nat.le_trans h5 hk, ?_⟩
  have := PyData.shown_le 410 (by omega) y h3
  rw [sizeLine_eq]
  have : (410 + 2) * y.weight ≤ 412 * 30000 := Nat.mul_le_mul (by omega) (by omega)
  omega
theorem ups_map {α : Type} (f : α → PyData) : ∀ l : List α, ups (l.map f) = l.map fun x => up (f x)
  | [] => rfl
  | x :: l => by
    show up (f x) :: ups (l.map f) = _
    rw [ups_map f l]
    rfl
@[simp] theorem noL_inj (x : Dt) : noL (inj x) = true := by cases x <;> rfl
@[simp] theorem noL_q (x : Dt) : noL (.q x) = true := rfl
@[simp] theorem tq_q (x : Dt) : tq (.q x) = some x := rfl
theorem tqs_c {t : T} {x : Dt} {ts : List T} {xs : List Dt} (h : tq t = some x) (g : tqs ts = some xs) : tqs (t :: ts) = some (x :: xs) := by
  unfold tqs
  rw [h, g]
theorem w_qlst {r : Ma} {τ : En} {M : Mem} {Q : Kt} (h : r τ M fun ts M1 => ∃ ds, tqs ts = some ds ∧ ds.length ≤ sizeLine ∧ Q (.q (.lst ds)) M1) : mQLst r τ M Q := h
theorem w_qtup {r : Ma} {τ : En} {M : Mem} {Q : Kt} (h : r τ M fun ts M1 => ∃ ds, tqs ts = some ds ∧ ds.length ≤ sizeLine ∧ Q (.q (.tup ds)) M1) : mQTup r τ M Q := h
theorem w_qlc {i : Mi} {g : Mg} {c : Mb} {m : Me} {vs : List Nat} {τ : En} {M : Mem} {Q : Kt} (h : i τ M fun ts M1 => goLcQ g c m (wipeT τ vs) (fun acc M2 => Q (.q (.lst acc)) M2) ts [] M1) : mQLc i g c m vs τ M Q := h
theorem tqM_of {t : T} {x : Dt} {M : Mem} (e : tq t = some x) : tqM t M = some x := by
  cases t with
  | mr n => cases e
  | d x => exact e
  | lr i => cases e
  | scr ns => cases e
  | wt xs => cases e
  | exo a c d e' => cases e
  | q x => exact e
theorem w_qrepr {t : T} {x : Dt} {y : PyData} {M : Mem} {Q : Kt} (e : tq t = some x) (p : pd x = some y) (o : OkShowQ y) (q : Q (.str y.shown) M) : fQRepr [t] M Q := ⟨x, y, tqM_of e, p, o, q⟩
theorem w_qreprM {t : T} {x : Dt} {y : PyData} {M : Mem} {Q : Kt} (e : tqM t M = some x) (p : pd x = some y) (o : OkShowQ y) (q : Q (.str y.shown) M) : fQRepr [t] M Q := ⟨x, y, e, p, o, q⟩
theorem w_qadd {a b : List Dt} {t u : T} {M : Mem} {Q : Kt} (e1 : tq t = some (.lst a)) (e2 : tq u = some (.lst b)) (hl : a.length + b.length ≤ sizeLine) (q : Q (.q (.lst (a ++ b))) M) : oQAdd t u M Q := by
  unfold oQAdd
  rw [e1, e2]
  exact ⟨hl, q⟩
theorem w_qaddT {a b : List Dt} {t u : T} {M : Mem} {Q : Kt} (e1 : tq t = some (.tup a)) (e2 : tq u = some (.tup b)) (hl : a.length + b.length ≤ sizeLine) (q : Q (.q (.tup (a ++ b))) M) : oQAdd t u M Q := by
  unfold oQAdd
  rw [e1, e2]
  exact ⟨hl, q⟩
theorem w_qix {a : List Dt} {t : T} {i : Nat} {M : Mem} {Q : Kt} (e : tq t = some (.lst a)) (hi : i < a.length) (q : Q (inj a[i]) M) : oQIx t (.d (.int (i : Int))) M Q := by
  unfold oQIx
  rw [e]
  exact ⟨_, atI_nat (List.getElem?_eq_getElem hi), q⟩
theorem w_qixT {a : List Dt} {t : T} {i : Nat} {M : Mem} {Q : Kt} (e : tq t = some (.tup a)) (hi : i < a.length) (q : Q (inj a[i]) M) : oQIx t (.d (.int (i : Int))) M Q := by
  unfold oQIx
  rw [e]
  exact ⟨_, atI_nat (List.getElem?_eq_getElem hi), q⟩
theorem w_qlen {a : List Dt} {t : T} {M : Mem} {Q : Kt} (e : tq t = some (.lst a)) (q : Q (.int a.length) M) : fQLen [t] M Q := by
  unfold fQLen
  simp only [e]
  exact q
theorem lcQ_all {g : Mg} {c : Mb} {m : Me} {τ0 : En} {F : List Dt → Mem → Prop} {ts : List T} {M : Mem} (I : Nat → List Dt → Mem → Prop) (h0 : I 0 [] M)
    (step : ∀ (i : Nat) (acc : List Dt) (M : Mem) (t : T) (R : List Dt → Mem → Prop), ts[i]? = some t → I i acc M → (∀ acc' M', I (i + 1) acc' M' → R acc' M') →
      g t τ0 M fun τ1 M1 => c τ1 M1 fun k M2 => if k = true then m τ1 M2 fun y M3 => ∃ z, tq y = some z ∧ acc.length < sizeLine ∧ R (acc ++ [z]) M3 else R acc M2)
    (done : ∀ acc M, I ts.length acc M → F acc M) : goLcQ g c m τ0 F ts [] M := by
  have key : ∀ (rest : List T) (i : Nat) (acc : List Dt) (M : Mem), ts.drop i = rest → i ≤ ts.length → I i acc M → goLcQ g c m τ0 F rest acc M := by
    intro rest
    induction rest with
    | nil =>
      intro i acc M e hi h
      have : i = ts.length := by
        have := congrArg List.length e
        simp at this
        omega
      subst this
      exact done acc M h
    | cons t rest ih =>
      intro i acc M e hi h
      have hlt : i < ts.length := by
        rcases Nat.lt_or_ge i ts.length with q | q
        · exact q
        · rw [List.drop_eq_nil_of_le q] at e; cases e
      rw [drop_at hlt] at e
      obtain ⟨e1, e2⟩ := List.cons.inj e
      subst e1
      exact step i acc M _ _ (List.getElem?_eq_getElem hlt) h fun acc' M' h' => ih (i + 1) acc' M' e2 hlt h'
  exact key ts 0 [] M rfl (Nat.zero_le _) h0
end Yq
set_option Elab.async false
set_option linter.all false
set_option maxRecDepth 100000
set_option maxHeartbeats 1000000
namespace K02
open PySem PySem.Spec L2 L3 Sh Wm Yq Wl
/-- an object that may be asked for -/
def obC (c : Str) (fs : List Str) (xs : List Dt) : Bool := (c == "Unfit" && (fs.isEmpty && xs.isEmpty)) || (c == "Desk" && (fs == [("!" : Str)] && xs.isEmpty))
mutual
def obB : Dt → Bool
  | .obj c fs xs => obC c fs xs
  | .lst xs => obBs xs
  | .tup xs => obBs xs
  | _ => true
def obBs : List Dt → Bool
  | [] => true
  | x :: xs => obB x && obBs xs
end
theorem ob_mem : ∀ {xs : List Dt} {x : Dt}, obBs xs = true → x ∈ xs → obB x = true
  | [], _, _, h => by cases h
  | y :: ys, x, h, hx => by
    unfold obBs at h
    rw [Bool.and_eq_true] at h
    rcases List.mem_cons.mp hx with e | e
    · rw [e]; exact h.1
    · exact ob_mem h.2 e
theorem ob_all : ∀ {xs : List Dt}, (∀ x ∈ xs, obB x = true) → obBs xs = true
  | [], _ => rfl
  | y :: ys, h => by
    unfold obBs
    rw [h y List.mem_cons_self, ob_all fun x hx => h x (List.mem_cons_of_mem _ hx)]
    rfl
mutual
theorem ob_up : ∀ d : PyData, obB (up d) = true
  | .none => rfl
  | .bool _ => rfl
  | .int _ => rfl
  | .str _ => rfl
  | .list xs => ob_ups xs
  | .tuple xs => ob_ups xs
  | .dict _ => rfl
theorem ob_ups : ∀ xs : List PyData, obBs (ups xs) = true
  | [] => rfl
  | x :: xs => by
    show (obB (up x) && obBs (ups xs)) = true
    rw [ob_up x, ob_ups xs]
    rfl
end
/-- a T that stands for a value -/
def Tv (t : T) (x : Dt) : Prop := t = inj x ∨ ∃ d, t = .d d ∧ x = up d
theorem tv_inj (x : Dt) : Tv (inj x) x := .inl rfl
theorem tv_d (d : PyData) : Tv (.d d) (up d) := .inr ⟨d, rfl, rfl⟩
theorem Tv.tq {t : T} {x : Dt} (h : Tv t x) : tq t = some x := by
  rcases h with rfl | ⟨d, rfl, rfl⟩
  · exact tq_inj x
  · rfl
theorem up_int {d : PyData} {i : Int} (h : Dt.int i = up d) : d = .int i := by
  cases d with
  | int j => cases h; rfl
  | _ => cases h
theorem Tv.int {t : T} {i : Int} (h : Tv t (.int i)) : t = .int i := by
  rcases h with rfl | ⟨d, rfl, e⟩
  · rfl
  · rw [up_int e]
theorem noL_tv {t : T} {x : Dt} (h : Tv t x) : noL t = true := by
  rcases h with rfl | ⟨d, rfl, e⟩
  · exact noL_inj x
  · rfl
theorem lo_tv {t : T} {x : Dt} (h : Tv t x) (n : Nat) : T.lo n t = true := by
  rcases h with rfl | ⟨d, rfl, e⟩
  · cases x <;> rfl
  · rfl
def isI : Dt → Bool
  | .int _ => true
  | .bl _ => true
  | _ => false
def isBl : Dt → Bool
  | .bl _ => true
  | _ => false
def isT : Dt → Bool
  | .tup _ => true
  | _ => false
theorem kit_tab : (["NoneType", "bool", "int", "str", "list", "tuple", "dict"].all fun a => kitB a "int" == some (a == "bool" || a == "int") && (kitB a "bool" == some (a == "bool") && kitB a "tuple" == some (a == "tuple"))) = true := by decide +kernel
theorem kit_at {a : String} (h : a ∈ ["NoneType", "bool", "int", "str", "list", "tuple", "dict"]) : kitB a "int" = some (a == "bool" || a == "int") ∧ kitB a "bool" = some (a == "bool") ∧ kitB a "tuple" = some (a == "tuple") := by
  have := kit_tab
  rw [List.all_eq_true] at this
  have := this a h
  simp only [Bool.and_eq_true, beq_iff_eq] at this
  exact ⟨this.1, this.2.1, this.2.2⟩
theorem obj_of {c : Str} {fs : List Str} {xs : List Dt} (h : obB (.obj c fs xs) = true) : (c = "Unfit" ∧ fs = [] ∧ xs = []) ∨ (c = "Desk" ∧ fs = [("!" : Str)] ∧ xs = []) := by
  have h : obC c fs xs = true := h
  unfold obC at h
  simp only [Bool.or_eq_true, Bool.and_eq_true, beq_iff_eq, List.isEmpty_iff] at h
  rcases h with ⟨h1, h2, h3⟩ | ⟨h1, h2, h3⟩
  · exact .inl ⟨h1, h2, h3⟩
  · exact .inr ⟨h1, h2, h3⟩
theorem w_isi {T0 : String} {tab : List (Str × Bool)} {f : Dt → Bool} {i : Nat} {x : Dt} {t : T} {τ : En} {M : Mem} {Q : Kt} (ht : τ[i]? = some (some t)) (hv : Tv t x) (ho : obB x = true) (htab : tab = [(("Unfit" : Str), false)])
    (hk : ∀ a, tyQ x = some a → kitB a T0 = some (f x)) (hf : tyQ x = none → f x = false) (q : Q (.bl (f x)) M) : mQIsj T0 tab [("Desk", false)] (mVar i) τ M Q := by
  refine ⟨_, ht, x, hv.tq, ?_⟩
  cases e : tyQ x with
  | some a => exact .inl ⟨a, _, rfl, hk a e, q⟩
  | none =>
    have hx := hf e
    rw [hx] at q
    cases x with
    | obj c fs xs =>
      rcases obj_of ho with ⟨rfl, rfl, rfl⟩ | ⟨rfl, rfl, rfl⟩
      · exact .inr (.inl ⟨_, _, _, false, rfl, by rw [htab]; exact List.mem_cons_self, rfl, q⟩)
      · exact .inr (.inr ⟨_, _, _, false, rfl, List.mem_cons_self, q⟩)
    | _ => cases e
theorem w_isInt {i : Nat} {x : Dt} {t : T} {τ : En} {M : Mem} {Q : Kt} (ht : τ[i]? = some (some t)) (hv : Tv t x) (ho : obB x = true) (q : Q (.bl (isI x)) M) : mQIsj "int" qt_int [("Desk", false)] (mVar i) τ M Q := by
  refine w_isi (f := isI) ht hv ho rfl (fun a e => ?_) (fun e => ?_) q
  · cases x <;> cases e <;> exact (kit_at (by decide)).1
  · cases x <;> first | rfl | cases e
theorem w_isBool {i : Nat} {x : Dt} {t : T} {τ : En} {M : Mem} {Q : Kt} (ht : τ[i]? = some (some t)) (hv : Tv t x) (ho : obB x = true) (q : Q (.bl (isBl x)) M) : mQIsj "bool" qt_bool [("Desk", false)] (mVar i) τ M Q := by
  refine w_isi (f := isBl) ht hv ho rfl (fun a e => ?_) (fun e => ?_) q
  · cases x <;> cases e <;> exact (kit_at (by decide)).2.1
  · cases x <;> first | rfl | cases e
theorem w_isTup {i : Nat} {x : Dt} {t : T} {τ : En} {M : Mem} {Q : Kt} (ht : τ[i]? = some (some t)) (hv : Tv t x) (ho : obB x = true) (q : Q (.bl (isT x)) M) : mQIsj "tuple" qt_tuple [("Desk", false)] (mVar i) τ M Q := by
  refine w_isi (f := isT) ht hv ho rfl (fun a e => ?_) (fun e => ?_) q
  · cases x <;> cases e <;> exact (kit_at (by decide)).2.2
  · cases x <;> first | rfl | cases e
def inB (lo hi : Int) : Dt → Bool
  | .int i => decide (lo ≤ i) && decide (i ≤ hi)
  | _ => false
def isZ : Dt → Bool
  | .int _ => true
  | _ => false
theorem chain_int {lo hi i : Int} {a b c : Me} {τ : En} {M : Mem} {Q : Kt} (ha : ∀ R : Kt, R (.int lo) M → a τ M R) (hb : ∀ R : Kt, R (.int i) M → b τ M R) (hc : ∀ R : Kt, R (.int hi) M → c τ M R) (q : Q (.bl (decide (lo ≤ i) && decide (i ≤ hi))) M) : mChain oLe oLe a b c τ M Q := by
  unfold mChain
  refine ha _ (hb _ ?_)
  refine ⟨trivial, ?_⟩
  by_cases h : lo ≤ i
  · rw [decide_eq_true h, Bool.true_and] at q
    dsimp only
    rw [decide_eq_true h]
    exact hc _ ⟨trivial, q⟩
  · rw [decide_eq_false h, Bool.false_and] at q
    dsimp only
    rw [decide_eq_false h]
    exact q
theorem v_at {i : Nat} {t : T} {τ : En} {M : Mem} (h : τ[i]? = some (some t)) : ∀ R : Kt, R t M → mVar i τ M R := fun R r => ⟨t, h, r⟩
theorem sp_isinteger {D : List Cell} {x : Dt} {t : T} {Q : T → List Cell → Prop} (hv : Tv t x) (ho : obB x = true) (q : Q (.bl (isZ x)) D) : d_is_integer [t] D Q := by
  refine ⟨rfl, w_ret (w_and (w_isInt rfl hv ho ?_))⟩
  have e : isZ x = (isI x && !isBl x) := by cases x <;> rfl
  rw [e] at q
  cases h : isI x with
  | false =>
    rw [h] at q
    exact ⟨rfl, q⟩
  | true =>
    rw [h] at q
    show mNot _ _ _ _
    exact w_isBool rfl hv ho ⟨rfl, q⟩
theorem sp_intwithin {D : List Cell} {x : Dt} {t : T} {lo hi : Int} {Q : T → List Cell → Prop} (hv : Tv t x) (ho : obB x = true) (q : Q (.bl (inB lo hi x)) D) : d_is_integer_within [t, .int lo, .int hi] D Q := by
  refine ⟨rfl, w_ret (w_and ?_)⟩
  simp only [x_call, x_acons, x_anil, x_var, x_def]
  refine ⟨_, rfl, by simp [noL_tv hv], ?_⟩
  refine sp_isinteger hv ho ?_
  cases x with
  | int i =>
    have e := hv.int
    subst e
    exact chain_int (v_at rfl) (v_at rfl) (v_at rfl) ⟨rfl, q⟩
  | _ => exact ⟨rfl, q⟩
theorem sp_lint {D : List Cell} {x : Dt} {t : T} {lo hi : Int} {Q : T → List Cell → Prop} (hv : Tv t x) (ho : obB x = true) (q : Q (.bl (inB lo hi x)) D) : d__law_is_int [t, .int lo, .int hi] D Q := by
  refine ⟨rfl, w_ret (w_and (w_isInt rfl hv ho ?_))⟩
  cases x with
  | int i =>
    have e := hv.int
    subst e
    refine w_and ?_
    show mNot _ _ _ _
    refine w_isBool (x := .int i) rfl hv ho ?_
    exact chain_int (v_at rfl) (v_at rfl) (v_at rfl) ⟨rfl, q⟩
  | bl b =>
    refine w_and ?_
    show mNot _ _ _ _
    refine w_isBool (x := .bl b) rfl hv ho ?_
    exact ⟨rfl, q⟩
  | _ => exact ⟨rfl, q⟩
def tupB (a b : Int) : Dt → Bool
  | .tup xs => decide (a ≤ (xs.length : Int)) && decide ((xs.length : Int) ≤ b)
  | _ => false
theorem w_qlenT {a : List Dt} {t : T} {M : Mem} {Q : Kt} (e : tq t = some (.tup a)) (q : Q (.int a.length) M) : fQLen [t] M Q := by
  unfold fQLen
  simp only [e]
  exact q
theorem sp_tupwithin {D : List Cell} {x : Dt} {t : T} {a b : Int} {Q : T → List Cell → Prop} (hv : Tv t x) (ho : obB x = true) (q : Q (.bl (tupB a b x)) D) : d_is_tuple_within [t, .int a, .int b] D Q := by
  refine ⟨rfl, w_ret (w_and (w_isTup rfl hv ho ?_))⟩
  cases x with
  | tup xs => exact chain_int (v_at rfl) (fun R r => ⟨_, rfl, w_qlenT hv.tq r⟩) (v_at rfl) ⟨rfl, q⟩
  | _ => exact ⟨rfl, q⟩
def badP (p : Dt → Bool) : Nat → List Dt → Option Nat
  | _, [] => none
  | k, x :: xs => if p x = true then badP p (k + 1) xs else some k
theorem enQ_bad {i j : Nat} {b : Ms} {E : Es} {M : Mem} {p : Dt → Bool} {w : Str} (F : Option T → Option T → En) (hF : ∀ a c x y, ((F a c).set i x).set j y = F x y)
    (step : ∀ (E2 : Es) (k : Nat) (x : Dt), obB x = true → (p x = true → E2.nx (F (some (.int (k : Int))) (some (inj x))) M) → (p x = false → E2.rt (.q (.tup [.str w, .int k])) M) → b E2 (F (some (.int (k : Int))) (some (inj x))) M) :
    ∀ (xs : List Dt) (k : Nat) {a c : Option T}, obBs xs = true → (∀ n, badP p k xs = some n → E.rt (.q (.tup [.str w, .int n])) M) → (∀ a' c', badP p k xs = none → E.nx (F a' c') M) → goEnQ i j b E k xs (F a c) M
  | [], k, a, c, _, _, qn => qn a c rfl
  | x :: xs, k, a, c, ho, qr, qn => by
    unfold obBs at ho
    rw [Bool.and_eq_true] at ho
    show b _ (((F a c).set i (some (.int (k : Int)))).set j (some (inj x))) M
    rw [hF]
    refine step _ k x ho.1 (fun e => ?_) fun e => ?_
    · show goEnQ i j b E (k + 1) xs _ M
      refine enQ_bad F hF step xs (k + 1) ho.2 (fun n h => qr n ?_) fun a' c' h => qn a' c' ?_
      · unfold badP
        rw [if_pos e]
        exact h
      · unfold badP
        rw [if_pos e]
        exact h
    · refine qr k ?_
      unfold badP
      rw [if_neg (by rw [e]; exact Bool.false_ne_true)]
theorem badP_lt {p : Dt → Bool} : ∀ {xs : List Dt} {k n : Nat}, badP p k xs = some n → n < k + xs.length
  | [], k, n, e => by cases e
  | x :: xs, k, n, e => by
    unfold badP at e
    split at e
    · have := badP_lt e
      rw [List.length_cons]
      omega
    · cases e
      rw [List.length_cons]
      omega
theorem badP_none {p : Dt → Bool} : ∀ {xs : List Dt} {k : Nat}, badP p k xs = none → ∀ x ∈ xs, p x = true
  | [], _, _, _, h => by cases h
  | y :: xs, k, e, x, h => by
    unfold badP at e
    split at e
    · rename_i e1
      rcases List.mem_cons.mp h with z | z
      · rw [z]
        exact e1
      · exact badP_none e x z
    · cases e
theorem ob_pair {a b : Dt} (h : obB (.tup [a, b]) = true) : obB a = true ∧ obB b = true := ⟨ob_mem (xs := [a, b]) h (by simp), ob_mem (xs := [a, b]) h (by simp)⟩
end K02
set_option Elab.async false
set_option linter.all false
set_option maxRecDepth 100000
set_option maxHeartbeats 1000000
namespace K02
open PySem PySem.Spec L2 L3 Sh Wm Yq Wl
def numOf : Dt → Int
  | .int i => i
  | _ => 0
theorem ints_of {lo hi : Int} : ∀ {xs : List Dt}, (∀ x ∈ xs, inB lo hi x = true) → xs = (xs.map numOf).map Dt.int
  | [], _ => rfl
  | x :: xs, h => by
    have h1 := h x List.mem_cons_self
    rw [List.map_cons, List.map_cons, ← ints_of fun y hy => h y (List.mem_cons_of_mem _ hy)]
    cases x with
    | int i => rfl
    | _ => cases h1
theorem downs_ints : ∀ is : List Int, downs (is.map Dt.int) = some (is.map .int)
  | [] => rfl
  | i :: is => by
    show (match down (.int i), downs (is.map Dt.int) with
    | some y, some ys => some (y :: ys)
    | _, _ => none) = _
    rw [downs_ints is]
    rfl
theorem ups_ints : ∀ {ds : List PyData} {is : List Int}, is.map Dt.int = ups ds → ds = is.map .int
  | [], [], _ => rfl
  | [], _ :: _, e => by cases e
  | _ :: _, [], e => by cases e
  | d :: ds, i :: is, e => by
    have e : Dt.int i :: is.map Dt.int = up d :: ups ds := e
    obtain ⟨e1, e2⟩ := List.cons.inj e
    rw [up_int e1, ups_ints e2]
    rfl
theorem w_sumQ {t : T} {xs : List Dt} {lo hi : Int} {M : Mem} {Q : Kt} (hv : Tv t (.tup xs)) (h : ∀ x ∈ xs, inB lo hi x = true) (q : Q (.int (xs.map numOf).sum) M) : fDn fSumT [t] M Q := by
  have e := ints_of h
  generalize xs.map numOf = is at e q
  subst e
  have key : tdns [t] = some [.tuple (is.map .int)] := by
    have : tdn t = some (.tuple (is.map .int)) := by
      rcases hv with rfl | ⟨d, rfl, e⟩
      · show (downs (is.map Dt.int)).map PyData.tuple = _
        rw [downs_ints]
        rfl
      · cases d with
        | tuple ds =>
          have : is.map Dt.int = ups ds := Dt.tup.inj e
          rw [ups_ints this]
          rfl
        | _ => cases e
    unfold tdns
    rw [this]
    rfl
  refine ⟨_, key, ?_⟩
  show (match intsOf (is.map PyData.int) with
    | some ns => Q (.int ns.sum) M
    | none => False)
  rw [intsOf_map]
  exact q
def wrd (w : Str) : Option Nat → Dt
  | some k => .tup [.str w, .int k]
  | none => .non
def recF (n : Nat) : Dt → Dt
  | .tup xs => if xs.length = n then (match badP (inB 0 1000000000000000000000000000000) 0 xs with
    | some k => .tup [.str "number", .int k]
    | none => if (xs.map numOf).sum = 0 then .str "empty" else .non) else .str "form"
  | _ => .str "form"
def rowF (n : Nat) : Dt → Dt
  | .tup xs => if 1 ≤ xs.length ∧ xs.length ≤ 100 then wrd "place" (badP (inB 0 ((n : Int) - 1)) 0 xs) else .str "form"
  | _ => .str "form"
def isNo : Dt → Bool
  | .non => true
  | _ => false
def pieceB (n : Nat) : Dt → Bool
  | .tup [r, t] => isNo (rowF n r) && inB 1 1000000000000000000000000000000 t
  | _ => false
def pcF (n : Nat) : Dt → Dt
  | .tup xs => if 1 ≤ xs.length ∧ xs.length ≤ 20 then wrd "piece" (badP (pieceB n) 0 xs) else .str "form"
  | _ => .str "form"
theorem piece_no {n : Nat} {x : Dt} (h : tupB 2 2 x = false) : pieceB n x = false := by
  unfold pieceB
  split
  · rename_i a b
    simp [tupB] at h
  · rfl
theorem piece_tup {x : Dt} (h : tupB 2 2 x = true) : ∃ a b, x = .tup [a, b] := by
  cases x with
  | tup xs =>
    simp [tupB] at h
    have : xs.length = 2 := by omega
    match xs, this with
    | [a, b], _ => exact ⟨a, b, rfl⟩
  | _ => cases h
theorem w_isnon {x : Dt} {M : Mem} {Q : Kt} (q : Q (.bl (isNo x)) M) : oIsN (inj x) (.d .none) M Q := by
  refine ⟨rfl, ?_⟩
  have e : isNonT (inj x) = isNo x := by cases x <;> rfl
  rw [e]
  exact q
theorem w_notnon {x : Dt} {M : Mem} {Q : Kt} (q : Q (.bl (!isNo x)) M) : oNotN (inj x) (.d .none) M Q := by
  refine ⟨rfl, ?_⟩
  have e : isNonT (inj x) = isNo x := by cases x <;> rfl
  rw [e]
  exact q
theorem w_lenb {bt : T} {bs : List Dt} {M : Mem} {Q : Kt} (hb : tq bt = some (.tup bs)) (q : Q (.int bs.length) M) : fQLen [bt] M Q := w_qlenT hb q
theorem noL_tq {t : T} {x : Dt} (e : tq t = some x) : noL t = true := by
  cases t with
  | d y => rfl
  | q y => rfl
  | _ => cases e
theorem lo_tq {t : T} {x : Dt} (n : Nat) (e : tq t = some x) : T.lo n t = true := by
  cases t with
  | d y => rfl
  | q y => rfl
  | _ => cases e
section
variable {D : List Cell} {x : Dt} {t bt : T} {bs : List Dt} {Q : T → List Cell → Prop}
theorem sp_place (hb : tq bt = some (.tup bs)) (hv : Tv t x) (ho : obB x = true) (q : Q (.bl (inB 0 ((bs.length : Int) - 1) x)) D) : d_is_place [bt, t] D Q := by
  refine ⟨rfl, w_ret (w_call ?_)⟩
  simp only [x_acons, x_anil, x_var, x_c, x_call, x_op, List.getElem?_cons_succ, List.getElem?_cons_zero]
  refine ⟨_, rfl, _, rfl, w_lenb hb ⟨trivial, ?_⟩⟩
  exact ⟨by simp [noL_tv hv], sp_intwithin hv ho ⟨rfl, q⟩⟩
theorem sp_rowerr (hb : tq bt = some (.tup bs)) (hv : Tv t x) (ho : obB x = true) (q : Q (inj (rowF bs.length x)) D) : d_row_error [bt, t] D Q := by
  refine ⟨rfl, ?_⟩
  show b_row_error_5 _ [some bt, some t, none, none] _
  refine w_seq (w_if (w_bnot (w_test ?_)))
  simp only [x_call, x_acons, x_anil, x_var, x_c, x_def, List.getElem?_cons_succ, List.getElem?_cons_zero]
  refine ⟨_, rfl, by simp [noL_tv hv], sp_tupwithin hv ho ⟨_, rfl, ?_⟩⟩
  cases h : tupB 1 100 x with
  | false =>
    rw [Bool.not_false, if_pos rfl]
    have e : rowF bs.length x = .str "form" := by
      cases x with
      | tup xs =>
        show (if _ then _ else _) = _
        rw [if_neg]
        intro z
        simp [tupB] at h
        omega
      | _ => rfl
    rw [e] at q
    exact ⟨rfl, q⟩
  | true =>
    rw [Bool.not_true, if_neg Bool.false_ne_true]
    cases x with
    | tup xs =>
      have e : rowF bs.length (.tup xs) = wrd "place" (badP (inB 0 ((bs.length : Int) - 1)) 0 xs) := by
        show (if _ then _ else _) = _
        rw [if_pos]
        simp [tupB] at h
        omega
      rw [e] at q
      show b_row_error_4 _ [some bt, some t, none, none] _
      refine w_seq ⟨_, rfl, ?_⟩
      dsimp only
      rw [hv.tq]
      show goEnQ 2 3 b_row_error_2 _ 0 xs [some bt, some t, none, none] _
      refine enQ_bad (w := "place") (p := inB 0 ((bs.length : Int) - 1)) (fun a c => [some bt, some t, a, c]) (fun _ _ _ _ => rfl) (fun E2 k y hy qn qr => ?_) xs 0 ho (fun n e => ?_) fun a c e => ?_
      · refine w_if (w_bnot (w_test (w_call ?_)))
        simp only [x_acons, x_anil, x_var, x_def, List.getElem?_cons_succ, List.getElem?_cons_zero]
        refine ⟨_, rfl, _, rfl, by simp [noL_tq hb], sp_place hb (tv_inj y) hy ⟨_, rfl, ?_⟩⟩
        cases hp : inB 0 ((bs.length : Int) - 1) y with
        | true =>
          rw [Bool.not_true, if_neg Bool.false_ne_true]
          exact qn hp
        | false =>
          rw [Bool.not_false, if_pos rfl]
          refine w_ret (w_qtup ?_)
          simp only [x_acons, x_anil, x_var, x_c, List.getElem?_cons_succ, List.getElem?_cons_zero]
          exact ⟨_, rfl, [.str "place", .int k], rfl, two_ok, qr hp⟩
      · rw [e] at q
        exact ⟨rfl, q⟩
      · rw [e] at q
        exact ⟨rfl, q⟩
    | _ => cases h
theorem sp_piece (hb : tq bt = some (.tup bs)) (hv : Tv t x) (ho : obB x = true) (q : Q (.bl (pieceB bs.length x)) D) : d_is_piece [bt, t] D Q := by
  refine ⟨rfl, ?_⟩
  show b_is_piece_3 _ [some bt, some t, none, none] _
  refine w_seq (w_if (w_bnot (w_test ?_)))
  simp only [x_call, x_acons, x_anil, x_var, x_c, x_def, List.getElem?_cons_succ, List.getElem?_cons_zero]
  refine ⟨_, rfl, by simp [noL_tv hv], sp_tupwithin hv ho ⟨_, rfl, ?_⟩⟩
  cases h : tupB 2 2 x with
  | false =>
    rw [piece_no h] at q
    rw [Bool.not_false, if_pos rfl]
    exact ⟨rfl, q⟩
  | true =>
    rw [Bool.not_true, if_neg Bool.false_ne_true]
    obtain ⟨r, m, rfl⟩ := piece_tup h
    obtain ⟨o1, o2⟩ := ob_pair ho
    have q : Q (.bl (isNo (rowF bs.length r) && inB 1 1000000000000000000000000000000 m)) D := q
    show b_is_piece_2 _ [some bt, some t, none, none] _
    refine w_seq (w_asg ⟨_, rfl, ?_⟩)
    unfold gQTu
    dsimp only
    rw [hv.tq]
    refine ⟨rfl, rfl, ?_⟩
    show b_is_piece_1 _ [some bt, some t, some (inj r), some (inj m)] _
    refine w_ret (w_and (w_op (w_call ?_)))
    simp only [x_acons, x_anil, x_var, x_c, x_def, List.getElem?_cons_succ, List.getElem?_cons_zero]
    refine ⟨_, rfl, _, rfl, by simp [noL_tq hb], sp_rowerr hb (tv_inj r) o1 (w_isnon ?_)⟩
    cases h2 : isNo (rowF bs.length r) with
    | false =>
      rw [h2] at q
      exact ⟨rfl, q⟩
    | true =>
      rw [h2, Bool.true_and] at q
      simp only [x_call, x_acons, x_anil, x_var, x_c, x_def, List.getElem?_cons_succ, List.getElem?_cons_zero]
      exact ⟨_, rfl, by simp, sp_intwithin (tv_inj m) o2 ⟨rfl, q⟩⟩
theorem sp_pieceserr (hb : tq bt = some (.tup bs)) (hv : Tv t x) (ho : obB x = true) (q : Q (inj (pcF bs.length x)) D) : d_pieces_error [bt, t] D Q := by
  refine ⟨rfl, ?_⟩
  show b_pieces_error_5 _ [some bt, some t, none, none] _
  refine w_seq (w_if (w_bnot (w_test ?_)))
  simp only [x_call, x_acons, x_anil, x_var, x_c, x_def, List.getElem?_cons_succ, List.getElem?_cons_zero]
  refine ⟨_, rfl, by simp [noL_tv hv], sp_tupwithin hv ho ⟨_, rfl, ?_⟩⟩
  cases h : tupB 1 20 x with
  | false =>
    rw [Bool.not_false, if_pos rfl]
    have e : pcF bs.length x = .str "form" := by
      cases x with
      | tup xs =>
        show (if _ then _ else _) = _
        rw [if_neg]
        intro z
        simp [tupB] at h
        omega
      | _ => rfl
    rw [e] at q
    exact ⟨rfl, q⟩
  | true =>
    rw [Bool.not_true, if_neg Bool.false_ne_true]
    cases x with
    | tup xs =>
      have e : pcF bs.length (.tup xs) = wrd "piece" (badP (pieceB bs.length) 0 xs) := by
        show (if _ then _ else _) = _
        rw [if_pos]
        simp [tupB] at h
        omega
      rw [e] at q
      show b_pieces_error_4 _ [some bt, some t, none, none] _
      refine w_seq ⟨_, rfl, ?_⟩
      dsimp only
      rw [hv.tq]
      show goEnQ 2 3 b_pieces_error_2 _ 0 xs [some bt, some t, none, none] _
      refine enQ_bad (w := "piece") (p := pieceB bs.length) (fun a c => [some bt, some t, a, c]) (fun _ _ _ _ => rfl) (fun E2 k y hy qn qr => ?_) xs 0 ho (fun n e => ?_) fun a c e => ?_
      · refine w_if (w_bnot (w_test (w_call ?_)))
        simp only [x_acons, x_anil, x_var, x_def, List.getElem?_cons_succ, List.getElem?_cons_zero]
        refine ⟨_, rfl, _, rfl, by simp [noL_tq hb], sp_piece hb (tv_inj y) hy ⟨_, rfl, ?_⟩⟩
        cases hp : pieceB bs.length y with
        | true =>
          rw [Bool.not_true, if_neg Bool.false_ne_true]
          exact qn hp
        | false =>
          rw [Bool.not_false, if_pos rfl]
          refine w_ret (w_qtup ?_)
          simp only [x_acons, x_anil, x_var, x_c, List.getElem?_cons_succ, List.getElem?_cons_zero]
          exact ⟨_, rfl, [.str "piece", .int k], rfl, two_ok, qr hp⟩
      · rw [e] at q
        exact ⟨rfl, q⟩
      · rw [e] at q
        exact ⟨rfl, q⟩
    | _ => cases h
theorem sp_recerr (hb : tq bt = some (.tup bs)) (hv : Tv t x) (ho : obB x = true) (q : Q (inj (recF bs.length x)) D) : d_record_error [bt, t] D Q := by
  refine ⟨rfl, ?_⟩
  show b_record_error_7 _ [some bt, some t, none, none] _
  refine w_seq (w_if (w_bnot (w_test ?_)))
  simp only [x_call, x_acons, x_anil, x_var, x_c, x_def, List.getElem?_cons_succ, List.getElem?_cons_zero]
  refine ⟨_, rfl, _, rfl, w_lenb hb ⟨_, rfl, w_lenb hb ⟨by simp [noL_tv hv], sp_tupwithin hv ho ⟨_, rfl, ?_⟩⟩⟩⟩
  cases h : tupB bs.length bs.length x with
  | false =>
    rw [Bool.not_false, if_pos rfl]
    have e : recF bs.length x = .str "form" := by
      cases x with
      | tup xs =>
        show (if _ then _ else _) = _
        rw [if_neg]
        intro z
        simp [tupB] at h
        omega
      | _ => rfl
    rw [e] at q
    exact ⟨rfl, q⟩
  | true =>
    rw [Bool.not_true, if_neg Bool.false_ne_true]
    cases x with
    | tup xs =>
      have e : recF bs.length (.tup xs) = (match badP (inB 0 1000000000000000000000000000000) 0 xs with
    | some k => .tup [.str "number", .int k]
    | none => if (xs.map numOf).sum = 0 then .str "empty" else .non) := by
        show (if _ then _ else _) = _
        rw [if_pos]
        simp [tupB] at h
        omega
      rw [e] at q
      show b_record_error_6 _ [some bt, some t, none, none] _
      refine w_seq ⟨_, rfl, ?_⟩
      dsimp only
      rw [hv.tq]
      show goEnQ 2 3 b_record_error_2 _ 0 xs [some bt, some t, none, none] _
      refine enQ_bad (w := "number") (p := inB 0 1000000000000000000000000000000) (fun a c => [some bt, some t, a, c]) (fun _ _ _ _ => rfl) (fun E2 k y hy qn qr => ?_) xs 0 ho (fun n e => ?_) fun a c e => ?_
      · refine w_if (w_bnot (w_test (w_call ?_)))
        simp only [x_acons, x_anil, x_var, x_c, x_def, List.getElem?_cons_succ, List.getElem?_cons_zero]
        refine ⟨_, rfl, by simp, sp_intwithin (tv_inj y) hy ⟨_, rfl, ?_⟩⟩
        cases hp : inB 0 1000000000000000000000000000000 y with
        | true =>
          rw [Bool.not_true, if_neg Bool.false_ne_true]
          exact qn hp
        | false =>
          rw [Bool.not_false, if_pos rfl]
          refine w_ret (w_qtup ?_)
          simp only [x_acons, x_anil, x_var, x_c, List.getElem?_cons_succ, List.getElem?_cons_zero]
          exact ⟨_, rfl, [.str "number", .int k], rfl, two_ok, qr hp⟩
      · rw [e] at q
        exact ⟨rfl, q⟩
      · rw [e] at q
        have al := badP_none e
        show b_record_error_5 _ [some bt, some t, a, c] _
        refine w_seq (w_if (w_test (w_op (w_call (w_ac ⟨_, rfl, w_an (w_sumQ hv al (w_c ?_))⟩)))))
        rw [x_eqi]
        refine ⟨_, rfl, ?_⟩
        by_cases z : (xs.map numOf).sum = 0
        · dsimp only at q
          rw [if_pos z] at q
          exact ifT (by simp [z]) ⟨rfl, q⟩
        · dsimp only at q
          rw [if_neg z] at q
          exact ifF (by simp [z]) (w_next ⟨rfl, q⟩)
    | _ => cases h
end
end K02
set_option Elab.async false
set_option linter.all false
set_option maxRecDepth 100000
set_option maxHeartbeats 1000000
namespace K02
open PySem PySem.Spec L2 L3 Sh Wm Yq Wl
theorem row_not {n : Nat} {xs : List Dt} (h : ¬ (1 ≤ xs.length ∧ xs.length ≤ 100)) : rowF n (.tup xs) = .str "form" := if_neg h
theorem row_yes {n : Nat} {xs : List Dt} (h : 1 ≤ xs.length ∧ xs.length ≤ 100) : rowF n (.tup xs) = wrd "place" (badP (inB 0 ((n : Int) - 1)) 0 xs) := if_pos h
theorem pc_not {n : Nat} {xs : List Dt} (h : ¬ (1 ≤ xs.length ∧ xs.length ≤ 20)) : pcF n (.tup xs) = .str "form" := if_neg h
theorem pc_yes {n : Nat} {xs : List Dt} (h : 1 ≤ xs.length ∧ xs.length ≤ 20) : pcF n (.tup xs) = wrd "piece" (badP (pieceB n) 0 xs) := if_pos h
/-- the part of the tests on the number of items -/
theorem len_test {i : Nat} {hi : Nat} {xs : List Dt} {t : T} {s1 s2 : Ms} {E : Es} {τ : En} {M : Mem} (ht : τ[i]? = some (some t)) (hv : Tv t (.tup xs))
    (q1 : ¬ (1 ≤ xs.length ∧ xs.length ≤ hi) → s1 E τ M) (q2 : 1 ≤ xs.length ∧ xs.length ≤ hi → s2 E τ M) :
    bOr (mTest (mOp oLt (mCall fQLen (aCons (mVar i) aNil)) (mC (.int 1)))) (mTest (mOp oGt (mCall fQLen (aCons (mVar i) aNil)) (mC (.int (hi : Int))))) τ M fun b M1 => if b = true then s1 E τ M1 else s2 E τ M1 := by
  refine w_bor (w_test (w_op (w_call (w_ac ⟨_, ht, w_an (w_qlenT hv.tq (w_c ⟨trivial, _, rfl, ?_⟩))⟩))))
  by_cases h1 : (xs.length : Int) < 1
  · refine ifT (decide_eq_true h1) (ifT rfl (q1 (by omega)))
  · refine ifF (by simp [h1]) ?_
    refine w_test (w_op (w_call (w_ac ⟨_, ht, w_an (w_qlenT hv.tq (w_c ⟨trivial, _, rfl, ?_⟩))⟩)))
    by_cases h2 : (hi : Int) < (xs.length : Int)
    · exact ifT (decide_eq_true h2) (q1 (by omega))
    · exact ifF (by simp [show ¬ (xs.length : Int) > hi from h2]) (q2 (by omega))
section
variable {D : List Cell} {x : Dt} {t bt : T} {bs : List Dt} {Q : T → List Cell → Prop}
theorem sp_lrow (hb : tq bt = some (.tup bs)) (hv : Tv t x) (ho : obB x = true) (q : Q (inj (rowF bs.length x)) D) : d__law_row_fault [bt, t] D Q := by
  refine ⟨rfl, ?_⟩
  show b__law_row_fault_5 _ [some bt, some t, none, none] _
  refine w_seq (w_if (w_bor (w_bnot (w_test (w_isTup rfl hv ho ⟨_, rfl, ?_⟩)))))
  cases x with
  | tup xs =>
    refine ifF (by simp [isT]) ?_
    refine len_test (hi := 100) rfl hv (fun h => ?_) fun h => ?_
    · rw [row_not h] at q
      exact ⟨rfl, q⟩
    · rw [row_yes h] at q
      show b__law_row_fault_4 _ [some bt, some t, none, none] _
      refine w_seq ⟨_, rfl, ?_⟩
      dsimp only
      rw [hv.tq]
      show goEnQ 2 3 b__law_row_fault_2 _ 0 xs [some bt, some t, none, none] _
      refine enQ_bad (w := "place") (p := inB 0 ((bs.length : Int) - 1)) (fun a c => [some bt, some t, a, c]) (fun _ _ _ _ => rfl) (fun E2 k y hy qn qr => ?_) xs 0 ho (fun n e => ?_) fun a c e => ?_
      · refine w_if (w_bnot (w_test (w_call ?_)))
        simp only [x_acons, x_anil, x_var, x_c, x_op, x_call, x_def, List.getElem?_cons_succ, List.getElem?_cons_zero]
        refine ⟨_, rfl, _, rfl, w_lenb hb ⟨trivial, ?_⟩⟩
        refine ⟨by simp, sp_lint (tv_inj y) hy ⟨_, rfl, ?_⟩⟩
        cases hp : inB 0 ((bs.length : Int) - 1) y with
        | true =>
          rw [Bool.not_true, if_neg Bool.false_ne_true]
          exact qn hp
        | false =>
          rw [Bool.not_false, if_pos rfl]
          refine w_ret (w_qtup ?_)
          simp only [x_acons, x_anil, x_var, x_c, List.getElem?_cons_succ, List.getElem?_cons_zero]
          exact ⟨_, rfl, [.str "place", .int k], rfl, two_ok, qr hp⟩
      · rw [e] at q
        exact ⟨rfl, q⟩
      · rw [e] at q
        exact ⟨rfl, q⟩
  | _ => exact ifT rfl (ifT rfl ⟨rfl, q⟩)
theorem ix0 {a b : Dt} {M : Mem} {Q : Kt} (q : Q (inj a) M) : oQIx (inj (.tup [a, b])) (.d (.int 0)) M Q := by
  show oQIx (.q (.tup [a, b])) (.d (.int ((0 : Nat) : Int))) M Q
  exact w_qixT rfl (by simp) q
theorem ix1 {a b : Dt} {M : Mem} {Q : Kt} (q : Q (inj b) M) : oQIx (inj (.tup [a, b])) (.d (.int 1)) M Q := by
  show oQIx (.q (.tup [a, b])) (.d (.int ((1 : Nat) : Int))) M Q
  exact w_qixT rfl (by simp) q
theorem lp_4 {E2 : Es} {k : Nat} {y : Dt} (hb : tq bt = some (.tup bs)) (hy : obB y = true) (qn : pieceB bs.length y = true → E2.nx [some bt, some t, some (.int (k : Int)), some (inj y)] ⟨D, []⟩)
    (qr : pieceB bs.length y = false → E2.rt (.q (.tup [.str "piece", .int k])) ⟨D, []⟩) : b__law_pieces_fault_4 E2 [some bt, some t, some (.int (k : Int)), some (inj y)] ⟨D, []⟩ := by
  have bad : pieceB bs.length y = false → ∀ M : Mem, M = ⟨D, []⟩ → b__law_pieces_fault_1 { E2 with nx := b__law_pieces_fault_3 E2 } [some bt, some t, some (.int (k : Int)), some (inj y)] M := fun hp M e => by
    subst e
    refine w_ret (w_qtup ?_)
    simp only [x_acons, x_anil, x_var, x_c, List.getElem?_cons_succ, List.getElem?_cons_zero]
    exact ⟨_, rfl, [.str "piece", .int k], rfl, two_ok, qr hp⟩
  refine w_seq (w_if (w_bor (w_bnot (w_test (w_isTup rfl (tv_inj y) hy ⟨_, rfl, ?_⟩)))))
  cases y with
  | tup xs =>
    refine ifF (by simp [isT]) ?_
    refine w_bor (w_test (w_op (w_call (w_ac ⟨_, rfl, w_an (w_qlenT (a := xs) rfl (w_c ?_))⟩))))
    rw [x_eqi]
    refine ⟨_, rfl, ?_⟩
    by_cases h2 : xs.length = 2
    · refine ifF (by simp [h2]) ?_
      match xs, h2 with
      | [r, m], _ =>
        obtain ⟨o1, o2⟩ := ob_pair hy
        have e : pieceB bs.length (.tup [r, m]) = (isNo (rowF bs.length r) && inB 1 1000000000000000000000000000000 m) := rfl
        refine w_test (w_op (w_call ?_))
        simp only [x_acons, x_anil, x_var, x_c, x_op, x_call, x_def, List.getElem?_cons_succ, List.getElem?_cons_zero]
        refine ⟨_, rfl, _, rfl, ix0 ⟨by simp [noL_tq hb], sp_lrow hb (tv_inj r) o1 (w_notnon ⟨_, rfl, ?_⟩)⟩⟩
        cases h3 : isNo (rowF bs.length r) with
        | false => exact ifT rfl (bad (by rw [e, h3]; rfl) _ rfl)
        | true =>
          refine ifF (by simp) (w_next ?_)
          show b__law_pieces_fault_3 E2 [some bt, some t, some (.int (k : Int)), some (inj (.tup [r, m]))] _
          refine w_if (w_bnot (w_test (w_call ?_)))
          simp only [x_acons, x_anil, x_var, x_c, x_op, x_call, x_def, List.getElem?_cons_succ, List.getElem?_cons_zero]
          refine ⟨_, rfl, ix1 ⟨by unfold CPow; decide, by simp, sp_lint (lo := 1) (hi := 1000000000000000000000000000000) (tv_inj m) o2 ⟨_, rfl, ?_⟩⟩⟩
          cases h4 : inB 1 1000000000000000000000000000000 m with
          | true =>
            rw [Bool.not_true, if_neg Bool.false_ne_true]
            exact qn (by rw [e, h3, h4]; rfl)
          | false =>
            rw [Bool.not_false, if_pos rfl]
            refine w_ret (w_qtup ?_)
            simp only [x_acons, x_anil, x_var, x_c, List.getElem?_cons_succ, List.getElem?_cons_zero]
            exact ⟨_, rfl, [.str "piece", .int k], rfl, two_ok, qr (by rw [e, h3, h4]; rfl)⟩
    · have hp : pieceB bs.length (.tup xs) = false := by
        unfold pieceB
        split
        · rename_i a b e
          cases e
          simp at h2
        · rfl
      have h3 : ¬ ((xs.length : Int) = 2) := by omega
      refine ifT (by simp [h3]) (ifT rfl (bad hp _ rfl))
  | _ => exact ifT rfl (ifT rfl (bad rfl _ rfl))
theorem sp_lpieces (hb : tq bt = some (.tup bs)) (hv : Tv t x) (ho : obB x = true) (q : Q (inj (pcF bs.length x)) D) : d__law_pieces_fault [bt, t] D Q := by
  refine ⟨rfl, ?_⟩
  show b__law_pieces_fault_7 _ [some bt, some t, none, none] _
  refine w_seq (w_if (w_bor (w_bnot (w_test (w_isTup rfl hv ho ⟨_, rfl, ?_⟩)))))
  cases x with
  | tup xs =>
    refine ifF (by simp [isT]) ?_
    refine len_test (hi := 20) rfl hv (fun h => ?_) fun h => ?_
    · rw [pc_not h] at q
      exact ⟨rfl, q⟩
    · rw [pc_yes h] at q
      show b__law_pieces_fault_6 _ [some bt, some t, none, none] _
      refine w_seq ⟨_, rfl, ?_⟩
      dsimp only
      rw [hv.tq]
      show goEnQ 2 3 b__law_pieces_fault_4 _ 0 xs [some bt, some t, none, none] _
      refine enQ_bad (w := "piece") (p := pieceB bs.length) (fun a c => [some bt, some t, a, c]) (fun _ _ _ _ => rfl) (fun E2 k y hy qn qr => ?_) xs 0 ho (fun n e => ?_) fun a c e => ?_
      · exact lp_4 hb hy qn qr
      · rw [e] at q
        exact ⟨rfl, q⟩
      · rw [e] at q
        exact ⟨rfl, q⟩
  | _ => exact ifT rfl (ifT rfl ⟨rfl, q⟩)
theorem sp_lrec (hb : tq bt = some (.tup bs)) (hv : Tv t x) (ho : obB x = true) (q : Q (inj (recF bs.length x)) D) : d__law_record_fault [bt, t] D Q := by
  refine ⟨rfl, ?_⟩
  show b__law_record_fault_5 _ [some bt, some t, none, none] _
  refine w_seq (w_if (w_bor (w_bnot (w_test (w_isTup rfl hv ho ⟨_, rfl, ?_⟩)))))
  cases x with
  | tup xs =>
    refine ifF (by simp [isT]) ?_
    refine w_test (w_op (w_call (w_ac ⟨_, rfl, w_an (w_qlenT hv.tq (w_call (w_ac ⟨_, rfl, w_an (w_lenb hb ?_)⟩)))⟩)))
    rw [x_eqi]
    refine ⟨_, rfl, ?_⟩
    by_cases h : xs.length = bs.length
    · have hz : (xs.length : Int) = bs.length := by omega
      refine ifF (by simp [hz]) (w_next ?_)
      have e : recF bs.length (.tup xs) = (match badP (inB 0 1000000000000000000000000000000) 0 xs with
    | some k => .tup [.str "number", .int k]
    | none => if (xs.map numOf).sum = 0 then .str "empty" else .non) := if_pos h
      rw [e] at q
      show b__law_record_fault_4 _ [some bt, some t, none, none] _
      refine w_seq ⟨_, rfl, ?_⟩
      dsimp only
      rw [hv.tq]
      show goEnQ 2 3 b__law_record_fault_2 _ 0 xs [some bt, some t, none, none] _
      refine enQ_bad (w := "number") (p := inB 0 1000000000000000000000000000000) (fun a c => [some bt, some t, a, c]) (fun _ _ _ _ => rfl) (fun E2 k y hy qn qr => ?_) xs 0 ho (fun n e => ?_) fun a c e => ?_
      · refine w_if (w_bnot (w_test (w_call ?_)))
        simp only [x_acons, x_anil, x_var, x_c, x_op, x_def, List.getElem?_cons_succ, List.getElem?_cons_zero]
        refine ⟨_, rfl, by unfold CPow; decide, by simp, sp_lint (lo := 0) (hi := 1000000000000000000000000000000) (tv_inj y) hy ⟨_, rfl, ?_⟩⟩
        cases hp : inB 0 1000000000000000000000000000000 y with
        | true =>
          rw [Bool.not_true, if_neg Bool.false_ne_true]
          exact qn hp
        | false =>
          rw [Bool.not_false, if_pos rfl]
          refine w_ret (w_qtup ?_)
          simp only [x_acons, x_anil, x_var, x_c, List.getElem?_cons_succ, List.getElem?_cons_zero]
          exact ⟨_, rfl, [.str "number", .int k], rfl, two_ok, qr hp⟩
      · rw [e] at q
        exact ⟨rfl, q⟩
      · rw [e] at q
        have al := badP_none e
        show b__law_record_fault_3 _ [some bt, some t, a, c] _
        refine w_ret ?_
        rw [x_ite]
        refine w_test (w_op (w_call (w_ac ⟨_, rfl, w_an (w_sumQ hv al (w_c ?_))⟩)))
        rw [x_eqi]
        refine ⟨_, rfl, ?_⟩
        dsimp only at q
        by_cases z : (xs.map numOf).sum = 0
        · rw [if_pos z] at q
          exact ifT (by simp [z]) ⟨rfl, q⟩
        · rw [if_neg z] at q
          exact ifF (by simp [z]) ⟨rfl, q⟩
    · have hz : ¬ ((xs.length : Int) = bs.length) := by omega
      have e : recF bs.length (.tup xs) = .str "form" := if_neg h
      rw [e] at q
      exact ifT (by simp [hz]) ⟨rfl, q⟩
  | _ => exact ifT rfl (ifT rfl ⟨rfl, q⟩)
def wF (w : Str) (n : Nat) (x : Dt) : Dt := if w = "record" then recF n x else if w = "row" then rowF n x else pcF n x
abbrev Wd3 (w : Str) : Prop := w = "record" ∨ w = "row" ∨ w = "pieces"
theorem w_eqS2 {n : Bool} {a b : Str} {M : Mem} {Q : Kt} (q : Q (.bl (if n then !decide (a = b) else decide (a = b))) M) : oEq n (.d (.str a)) (.d (.str b)) M Q := q
theorem sp_ltold {w : Str} {b : Bool} (hw : Wd3 w) (hb : tq bt = some (.tup bs)) (hv : Tv t x) (ho : obB x = true) (q : Q (inj (wF w bs.length x)) D) : d__law_told [.str w, bt, t, .bl b] D Q := by
  refine ⟨rfl, ?_⟩
  show b__law_told_4 _ [some (.str w), some bt, some t, some (.bl b)] _
  have nl2 : ∀ u ∈ [bt, t], noL u = true := by simp [noL_tq hb, noL_tv hv]
  refine w_seq (w_if (w_test (w_op ⟨_, rfl, w_c (w_eqS2 ⟨_, rfl, ?_⟩)⟩)))
  rcases hw with rfl | rfl | rfl
  · refine ifT (by decide) ?_
    refine w_ret ?_
    rw [x_ite]
    refine ⟨_, rfl, b, rfl, ?_⟩
    cases b with
    | true =>
      refine ifT rfl ⟨_, rfl, _, rfl, rfl, nl2, ?_⟩
      exact sp_recerr hb hv ho ⟨noL_inj _, q⟩
    | false =>
      refine ifF Bool.false_ne_true (w_call (w_ac ⟨_, rfl, w_ac ⟨_, rfl, w_an ⟨nl2, ?_⟩⟩⟩))
      exact sp_recerr hb hv ho ⟨noL_inj _, q⟩
  · refine ifF (by decide) (w_next ?_)
    show b__law_told_3 _ [some (.str _), some bt, some t, some (.bl b)] _
    refine w_seq (w_if (w_test (w_op ⟨_, rfl, w_c (w_eqS2 ⟨_, rfl, ?_⟩)⟩)))
    refine ifT (by decide) ?_
    refine w_ret ?_
    rw [x_ite]
    refine ⟨_, rfl, b, rfl, ?_⟩
    cases b with
    | true =>
      refine ifT rfl ⟨_, rfl, _, rfl, rfl, nl2, ?_⟩
      exact sp_rowerr hb hv ho ⟨noL_inj _, q⟩
    | false =>
      refine ifF Bool.false_ne_true (w_call (w_ac ⟨_, rfl, w_ac ⟨_, rfl, w_an ⟨nl2, ?_⟩⟩⟩))
      exact sp_rowerr hb hv ho ⟨noL_inj _, q⟩
  · refine ifF (by decide) (w_next ?_)
    show b__law_told_3 _ [some (.str _), some bt, some t, some (.bl b)] _
    refine w_seq (w_if (w_test (w_op ⟨_, rfl, w_c (w_eqS2 ⟨_, rfl, ?_⟩)⟩)))
    refine ifF (by decide) (w_next ?_)
    show b__law_told_2 _ [some (.str _), some bt, some t, some (.bl b)] _
    refine w_ret ?_
    rw [x_ite]
    refine ⟨_, rfl, b, rfl, ?_⟩
    cases b with
    | true =>
      refine ifT rfl ⟨_, rfl, _, rfl, rfl, nl2, ?_⟩
      exact sp_pieceserr hb hv ho ⟨noL_inj _, q⟩
    | false =>
      refine ifF Bool.false_ne_true (w_call (w_ac ⟨_, rfl, w_ac ⟨_, rfl, w_an ⟨nl2, ?_⟩⟩⟩))
      exact sp_pieceserr hb hv ho ⟨noL_inj _, q⟩
end
end K02
set_option Elab.async false
set_option linter.all false
set_option maxRecDepth 100000
set_option maxHeartbeats 1000000
set_option exponentiation.threshold 2000
namespace K02
open PySem PySem.Spec L2 L3 Sh Wm Yq Wl
structure Ln (n k : Nat) (x : Dt) : Prop where
  ex : ∃ y, pd x = some y ∧ y.showable = true ∧ y.shown.length ≤ n ∧ y.depth ≤ k
structure LnA (n k : Nat) (xs : List Dt) : Prop where
  ex : ∃ ys, pds xs = some ys ∧ PyData.showableAll ys = true ∧ ((PyData.shownAll ys).map (·.length)).sum + 2 * ys.length ≤ n ∧ PyData.depthAll ys ≤ k
theorem Ln.mono {w w' k k' : Nat} {x : Dt} (h : Ln w k x) (hw : w ≤ w') (hk : k ≤ k') : Ln w' k' x := by
  obtain ⟨y, h1, h2, h3, h4⟩ := h.ex
  exact ⟨y, h1, h2, by omega, by omega⟩
theorem LnA.mono {w w' k k' : Nat} {x : List Dt} (h : LnA w k x) (hw : w ≤ w') (hk : k ≤ k') : LnA w' k' x := by
  obtain ⟨y, h1, h2, h3, h4⟩ := h.ex
  exact ⟨y, h1, h2, by omega, by omega⟩
theorem ln_nil : LnA 0 0 [] := ⟨[], rfl, rfl, by simp [PyData.shownAll], by simp [PyData.depthAll]⟩
theorem ln_cons {w w' k : Nat} {x : Dt} {l : List Dt} (h : Ln w k x) (g : LnA w' k l) : LnA (w + 2 + w') k (x :: l) := by
  obtain ⟨y, h1, h2, h3, h4⟩ := h.ex
  obtain ⟨ys, g1, g2, g3, g4⟩ := g.ex
  refine ⟨y :: ys, by simp [pds, h1, g1], by simp [PyData.showableAll, h2, g2], ?_, ?_⟩
  · simp only [PyData.shownAll, List.map_cons, List.sum_cons, List.length_cons]
    omega
  · simp only [PyData.depthAll]
    omega
theorem ln_one {w k : Nat} {x : Dt} (h : Ln w k x) : LnA (w + 2) k [x] := (ln_cons h (ln_nil.mono (Nat.le_refl _) (Nat.zero_le _))).mono (by omega) (Nat.le_refl _)
theorem ln_all {w k : Nat} : ∀ {l : List Dt}, (∀ x ∈ l, Ln w k x) → LnA (l.length * (w + 2)) k l
  | [], _ => ln_nil.mono (by omega) (Nat.zero_le _)
  | x :: l, h => (ln_cons (h x List.mem_cons_self) (ln_all fun y hy => h y (List.mem_cons_of_mem _ hy))).mono (by rw [List.length_cons, Nat.succ_mul]; omega) (Nat.le_refl _)
theorem ln_app {w w' k : Nat} : ∀ {a b : List Dt}, LnA w k a → LnA w' k b → LnA (w + w') k (a ++ b)
  | [], b, _, g => g.mono (by omega) (Nat.le_refl _)
  | x :: a, b, h, g => by
    obtain ⟨ys, h1, h2, h3, h4⟩ := h.ex
    unfold pds at h1
    split at h1
    · rename_i y zs e1 e2
      cases h1
      simp only [PyData.showableAll, Bool.and_eq_true] at h2
      simp only [PyData.shownAll, List.map_cons, List.sum_cons, List.length_cons] at h3
      simp only [PyData.depthAll] at h4
      have hx : Ln y.shown.length k x := ⟨y, e1, h2.1, Nat.le_refl _, by omega⟩
      have ha : LnA (((PyData.shownAll zs).map (·.length)).sum + 2 * zs.length) k a := ⟨zs, e2, h2.2, Nat.le_refl _, by omega⟩
      exact (ln_cons hx (ln_app ha g)).mono (by omega) (Nat.le_refl _)
    · cases h1
theorem ln_lst {w k : Nat} {l : List Dt} (h : LnA w k l) : Ln (w + 3) (k + 1) (.lst l) := by
  obtain ⟨ys, g1, g2, g3, g4⟩ := h.ex
  refine ⟨.list ys, by simp [pd, g1], by simp [PyData.showable, g2], ?_, by simp only [PyData.depth]; omega⟩
  have := listText_len_le (PyData.shownAll ys)
  rw [PyData.shownAll_length] at this
  simp only [PyData.shown]
  omega
theorem ln_tup {w k : Nat} {l : List Dt} (h : LnA w k l) : Ln (w + 3) (k + 1) (.tup l) := by
  obtain ⟨ys, g1, g2, g3, g4⟩ := h.ex
  refine ⟨.tuple ys, by simp [pd, g1], by simp [PyData.showable, g2], ?_, by simp only [PyData.depth]; omega⟩
  have := tupleText_len_le (PyData.shownAll ys)
  rw [PyData.shownAll_length] at this
  simp only [PyData.shown]
  omega
theorem Ln.ok {w k : Nat} {x : Dt} (h : Ln w k x) (hw : w ≤ 1000000) (hk : k ≤ 100) : ∃ y, pd x = some y ∧ OkShowQ y := by
  obtain ⟨y, h1, h2, h3, h4⟩ := h.ex
  exact ⟨y, h1, h2, Nat.le_trans h4 hk, by rw [sizeLine_eq]; omega⟩
theorem ln_int {i : Int} {k : Nat} (hk1 : 1 ≤ k) (hk : k ≤ 400) (h : i.natAbs < 10 ^ k) : Ln (k + 1) 0 (.int i) := by
  refine ⟨.int i, rfl, ?_, ?_, by simp [PyData.depth]⟩
  · simp only [PyData.showable]
    refine decide_eq_true ?_
    by_cases z : i.natAbs = 0
    · rw [z]
      decide
    · have h1 : (10 : Nat) ^ k ≤ 10 ^ 400 := Nat.pow_le_pow_right (by decide) hk
      have h2 : (10 : Nat) ^ 400 < 2 ^ 1330 := by decide +kernel
      have := (Nat.log2_lt z).mpr (Nat.lt_of_lt_of_le h (Nat.le_trans h1 (Nat.le_of_lt h2)))
      omega
  · have e := int_text_length_le10 (k := k) hk1 h
    show (Str.ofString (toString i)).length ≤ k + 1
    rw [ofString_length]
    omega
theorem ln_num {i : Int} (h : -1000000000000000000000000000000 ≤ i ∧ i ≤ 1000000000000000000000000000001) : Ln 32 0 (.int i) := ln_int (k := 31) (by decide) (by decide) (by omega)
def lnB (n k : Nat) (x : Dt) : Bool := match pd x with
  | some y => y.showable && (decide (y.shown.length ≤ n) && decide (y.depth ≤ k))
  | none => false
theorem lnB_ok {w k : Nat} {x : Dt} (h : lnB w k x = true) : Ln w k x := by
  unfold lnB at h
  split at h
  · rename_i y e
    simp only [Bool.and_eq_true, decide_eq_true_eq] at h
    exact ⟨y, e, h.1, h.2.1, h.2.2⟩
  · cases h
theorem ln_str {i : Int} (h : i.natAbs < 10 ^ 60) : Ln 700 0 (.str (toString i)) := by
  have e := int_text_length_le10 (k := 60) (by decide) h
  refine ⟨.str (toString i), rfl, by simp [PyData.showable], ?_, by simp [PyData.depth]⟩
  have hx : ∀ c ∈ (Str.ofString (toString i)).cps.toList, c < 16 ^ 8 := by
    intro c hc
    rw [Str.ofString_eq_toList] at hc
    have hc : c ∈ ((toString i).toList.map Char.toNat) := hc
    obtain ⟨ch, _, rfl⟩ := List.mem_map.mp hc
    have := ch.val.toNat_lt
    show ch.val.toNat < _
    omega
  have e1 := StrLaws.reprText_len _ hx
  have e2 : (Str.ofString (toString i)).length ≤ 62 := by
    rw [ofString_length]
    omega
  show (PyData.shown (.str (Str.ofString (toString i)))).length ≤ 700
  simp only [PyData.shown]
  omega
theorem ln_wrd {w : Str} {r : Option Nat} (hw : lnB 20 0 (.str w) = true) (h : ∀ k, r = some k → k < 1000) : Ln 70 1 (wrd w r) := by
  cases r with
  | none => exact (lnB_ok (by decide +kernel) : Ln 70 1 .non)
  | some k =>
    have := h k rfl
    exact (ln_tup (ln_cons (lnB_ok hw) (ln_one (ln_num (by omega))))).mono (by omega) (Nat.le_refl _)
theorem ln_form : Ln 70 1 (.str "form") := lnB_ok (by decide +kernel)
theorem ln_row (n : Nat) (x : Dt) : Ln 70 1 (rowF n x) := by
  cases x with
  | tup xs =>
    by_cases h : 1 ≤ xs.length ∧ xs.length ≤ 100
    · rw [row_yes h]
      exact ln_wrd (by decide +kernel) fun k e => by have := badP_lt e; omega
    · rw [row_not h]
      exact ln_form
  | _ => exact ln_form
theorem ln_pc (n : Nat) (x : Dt) : Ln 70 1 (pcF n x) := by
  cases x with
  | tup xs =>
    by_cases h : 1 ≤ xs.length ∧ xs.length ≤ 20
    · rw [pc_yes h]
      exact ln_wrd (by decide +kernel) fun k e => by have := badP_lt e; omega
    · rw [pc_not h]
      exact ln_form
  | _ => exact ln_form
theorem ln_rec {n : Nat} (hn : n ≤ 6) (x : Dt) : Ln 70 1 (recF n x) := by
  cases x with
  | tup xs =>
    by_cases h : xs.length = n
    · rw [show recF n (.tup xs) = (match badP (inB 0 1000000000000000000000000000000) 0 xs with
    | some k => .tup [.str "number", .int k]
    | none => if (xs.map numOf).sum = 0 then .str "empty" else .non) from if_pos h]
      cases e : badP (inB 0 1000000000000000000000000000000) 0 xs with
      | some k => exact ln_wrd (w := "number") (r := some k) (by decide +kernel) fun j z => by cases z; have := badP_lt e; omega
      | none =>
        dsimp only
        split
        · exact lnB_ok (by decide +kernel)
        · exact lnB_ok (by decide +kernel)
    · rw [show recF n (.tup xs) = .str "form" from if_neg h]
      exact ln_form
  | _ => exact ln_form
theorem ln_wF {w : Str} {n : Nat} (hn : n ≤ 6) (x : Dt) : Ln 70 1 (wF w n x) := by
  unfold wF
  split
  · exact ln_rec hn x
  · split
    · exact ln_row n x
    · exact ln_pc n x
theorem w_eqS {a : Str} {M : Mem} {Q : Kt} (q : Q (.bl true) M) : oEq false (.d (.str a)) (.d (.str a)) M Q := by
  rw [x_eqs]
  simpa using q
theorem sp_told {D : List Cell} {x : Dt} {t bt : T} {bs : List Dt} {Q : T → List Cell → Prop} {w : Str} {b : Bool} {n k : Nat} (hw : Wd3 w) (hb : tq bt = some (.tup bs)) (h6 : bs.length ≤ 6) (lb : Ln 1000 3 (.tup bs)) (hv : Tv t x) (ho : obB x = true) (lx : Ln n k x) (hn : n ≤ 900000) (hk : k ≤ 90)
    (q : Q (.bl true) D) : d__law_is_told [.str w, bt, t, .bl b] D Q := by
  have lf := ln_wF (w := w) h6 x
  obtain ⟨z, pz, oz⟩ := (ln_lst (ln_cons lf (ln_one lf))).ok (by omega) (by omega)
  have lk : Ln (n + 2000) (max k 3 + 1) (.lst [.tup bs, x]) := (ln_lst (ln_cons (lb.mono (Nat.le_refl _) (Nat.le_max_right k 3)) (ln_one (lx.mono (Nat.le_refl _) (Nat.le_max_left k 3))))).mono (by omega) (Nat.le_refl _)
  obtain ⟨y, py, oy⟩ := lk.ok (by omega) (by omega)
  have tqs2 : tqs [bt, t] = some [.tup bs, x] := tqs_c hb (tqs_c hv.tq rfl)
  refine ⟨rfl, ?_⟩
  have fin : b__law_is_told_2 { nx := fun _ M => Q .non M.D, rt := fun t M => noL t = true ∧ Q t M.D } [some (.str w), some bt, some t, some (.bl b), some (inj (wF w bs.length x)), none, none] ⟨D, []⟩ := by
    refine w_seq (w_set (w_call (w_ac (w_qlst (w_ac ⟨_, rfl, w_ac ⟨_, rfl, w_an ⟨[.tup bs, x], tqs2, two_ok, w_an (w_qrepr rfl py oy ?_)⟩⟩⟩)))))
    show b__law_is_told_1 _ [some (.str w), some bt, some t, some (.bl b), some (inj (wF w bs.length x)), some (.str y.shown), none] _
    refine w_seq (w_set (w_qlst ?_))
    simp only [x_acons, x_anil, x_var, x_c, x_call, x_def, List.getElem?_cons_succ, List.getElem?_cons_zero]
    refine ⟨_, rfl, _, rfl, _, rfl, _, rfl, by simp [noL_tq hb, noL_tv hv], sp_ltold hw hb hv ho ?_⟩
    refine ⟨_, rfl, _, rfl, _, rfl, by simp [noL_tq hb, noL_tv hv], sp_ltold hw hb hv ho ?_⟩
    refine ⟨[wF w bs.length x, wF w bs.length x], tqs_c (tq_inj _) (tqs_c (tq_inj _) rfl), two_ok, ?_⟩
    show b__law_is_told_0 _ [some (.str w), some bt, some t, some (.bl b), some (inj (wF w bs.length x)), some (.str y.shown), some (.q (.lst [wF w bs.length x, wF w bs.length x]))] _
    refine w_ret (w_and ?_)
    simp only [x_op, x_acons, x_anil, x_call, x_var, List.getElem?_cons_succ, List.getElem?_cons_zero]
    refine ⟨_, rfl, w_qrepr rfl pz oz ?_⟩
    refine w_qlst ?_
    simp only [x_acons, x_anil, x_var, List.getElem?_cons_succ, List.getElem?_cons_zero]
    refine ⟨_, rfl, _, rfl, [wF w bs.length x, wF w bs.length x], tqs_c (tq_inj _) (tqs_c (tq_inj _) rfl), two_ok, w_qrepr rfl pz oz (w_eqS ?_)⟩
    dsimp only
    simp only [x_op, x_acons, x_anil, x_call, x_var, mQLst, List.getElem?_cons_succ, List.getElem?_cons_zero]
    exact ⟨_, rfl, _, rfl, [.tup bs, x], tqs2, two_ok, w_qrepr rfl py oy ⟨_, rfl, w_eqS ⟨rfl, q⟩⟩⟩
  have nl2 : ∀ u ∈ [bt, t], noL u = true := by simp [noL_tq hb, noL_tv hv]
  show b__law_is_told_4 _ [some (.str w), some bt, some t, some (.bl b), none, none, none] _
  have last : ∀ u, (w = "record" → True) → (w ≠ "record" → u = inj (wF w bs.length x)) → b__law_is_told_3 { nx := fun _ M => Q .non M.D, rt := fun t M => noL t = true ∧ Q t M.D } [some (.str w), some bt, some t, some (.bl b), some u, none, none] ⟨D, []⟩ := by
    intro u _ hu
    refine w_seq (w_set ?_)
    rw [x_ite]
    refine w_test (w_op ⟨_, rfl, w_c (w_eqS2 ⟨_, rfl, ?_⟩)⟩)
    by_cases e : w = "record"
    · refine ifT (by simp [e]) (w_call (w_ac ⟨_, rfl, w_ac ⟨_, rfl, w_an ⟨nl2, sp_lrec hb hv ho ?_⟩⟩⟩))
      have e2 : wF w bs.length x = recF bs.length x := by
        unfold wF
        rw [if_pos e]
      rw [← e2]
      exact fin
    · refine ifF (by simp [e]) ⟨_, rfl, ?_⟩
      rw [hu e]
      exact fin
  refine w_seq (w_set ?_)
  rw [x_ite]
  refine w_test (w_op ⟨_, rfl, w_c (w_eqS2 ⟨_, rfl, ?_⟩)⟩)
  by_cases e : w = "row"
  · refine ifT (by simp [e]) (w_call (w_ac ⟨_, rfl, w_ac ⟨_, rfl, w_an ⟨nl2, sp_lrow hb hv ho ?_⟩⟩⟩))
    refine last _ (fun _ => trivial) fun _ => ?_
    unfold wF
    rw [if_neg (by rw [e]; decide), if_pos e]
  · refine ifF (by simp [e]) (w_call (w_ac ⟨_, rfl, w_ac ⟨_, rfl, w_an ⟨nl2, sp_lpieces hb hv ho ?_⟩⟩⟩))
    refine last _ (fun _ => trivial) fun e3 => ?_
    unfold wF
    rw [if_neg e3, if_neg e]
end K02
set_option Elab.async false
set_option linter.all false
set_option maxRecDepth 100000
set_option maxHeartbeats 1000000
set_option exponentiation.threshold 2000
namespace K02
open PySem PySem.Spec L2 L3 Sh
theorem lco_pf {n : Nat} {ds : List PyData} {g : Mg} {c : Mb} {m : Me} {τ0 : En} {F : List PyData → Mem → Prop} {α : Type} {ts : List α} {e : α → T} {M : Mem} (p : α → Bool) (f : α → PyData) (hz : ts.length ≤ sizeLine)
    (step : ∀ (x : α) (acc : List PyData) (R : List PyData → Mem → Prop), x ∈ ts → acc.length < sizeLine → R (if p x = true then acc ++ [f x] else acc) M →
      g (e x) τ0 M fun τ1 M1 => c τ1 M1 fun k M2 => if k = true then m τ1 M2 fun y M3 => (match y with | .d z => acc.length < sizeLine ∧ M3.L[n]? = some (some ds) ∧ R (acc ++ [z]) M3 | _ => False) else M2.L[n]? = some (some ds) ∧ R acc M2)
    (done : F ((ts.filter p).map f) M) : goLcO n ds g c m τ0 F (ts.map e) [] M := by
  have key : ∀ (rest : List α) (acc : List PyData), acc.length + rest.length ≤ sizeLine → (∀ x ∈ rest, x ∈ ts) → F (acc ++ (rest.filter p).map f) M → goLcO n ds g c m τ0 F (rest.map e) acc M := by
    intro rest
    induction rest with
    | nil =>
      intro acc _ _ h
      simpa [goLcO] using h
    | cons x rest ih =>
      intro acc hl hm h
      rw [List.length_cons] at hl
      rw [List.map_cons, goLcO]
      refine step x acc (fun a M' => goLcO n ds g c m τ0 F (rest.map e) a M') (hm x List.mem_cons_self) (by omega) ?_
      by_cases hp : p x = true
      · rw [if_pos hp]
        refine ih _ (by simp; omega) (fun y hy => hm y (List.mem_cons_of_mem _ hy)) ?_
        simpa [hp] using h
      · rw [if_neg hp]
        refine ih _ (by omega) (fun y hy => hm y (List.mem_cons_of_mem _ hy)) ?_
        simpa [hp] using h
  exact key ts [] (by simpa using hz) (fun _ h => h) (by simpa using done)
theorem sp_record {K : Bk6} {D : List Cell} {Q : T → List Cell → Prop} (hD : RI D) (g : GB K) (q : ∀ N D', GN K N → RI D' → Q (.d (recD N)) D') : d__law_record [.mr 1, .d (bkD K)] D Q := by
  have h6 := g.six
  have hK : 1 ≤ K.length := List.length_pos_iff.mpr g.ne
  refine ⟨rfl, w_seq ?_⟩
  simp
  refine sp_draw hD (by omega) (by omega) fun a D1 a0 a1 hD1 => ?_
  simp [CPow]
  refine sp_draw hD1 (by omega) (by omega) fun b D2 b0 b1 hD2 => ?_
  simp [sizeLine_eq]
  refine w_seq ?_
  simp
  unfold mLcL
  simp [wipeT, bkD]
  refine lc_all (fun i acc M => ∃ (N : List Int) (D' : List Cell), M = ⟨D', []⟩ ∧ RI D' ∧ acc = N.map .int ∧ N.length = i ∧ ∀ n ∈ N, 0 ≤ n ∧ n ≤ 1000000000000000000000000000000) ⟨[], D2, rfl, hD2, rfl, rfl, by simp⟩ ?_ ?_
  · rintro i acc M t R ht ⟨N, D', rfl, hD', rfl, hl, hN⟩ k
    have hi : i < K.length := by
      have := List.getElem?_eq_some_iff.mp ht
      obtain ⟨h, _⟩ := this
      simpa using h
    simp
    refine sp_pick hD' (by simp) (by simp) fun x D3 hx hD3 => ?_
    have : ∃ v : Int, x = .int v ∧ 0 ≤ v ∧ v ≤ 1000000000000000000000000000000 := by
      simp at hx
      rcases hx with rfl | rfl | rfl | rfl | rfl | rfl | rfl <;> exact ⟨_, rfl, by omega, by omega⟩
    obtain ⟨v, rfl, v0, v1⟩ := this
    simp [sizeLine_eq]
    refine ⟨by omega, k _ _ ⟨N ++ [v], D3, rfl, hD3, by simp, by simp [hl], ?_⟩⟩
    intro z hz
    rcases List.mem_append.mp hz with y | y
    · exact hN z y
    · rw [List.mem_singleton.mp y]
      exact ⟨v0, v1⟩
  · rintro acc M ⟨N, D', rfl, hD', rfl, hl, hN⟩
    have hl : N.length = K.length := by simpa using hl
    refine w_seq (w_if ?_)
    simp
    rw [x_lcO]
    simp [wipeT]
    refine lco_pf (ts := N) (fun n => decide (0 < n)) (fun n => .int n) (sz64' (by omega)) (fun x acc R hx ha hr => ?_) ?_
    · simp
      by_cases hz : 0 < x
      · rw [if_pos (decide_eq_true hz)] at hr
        exact .inr ⟨hz, ha, hr⟩
      · rw [if_neg (by simpa using hz)] at hr
        exact .inl ⟨by omega, hr⟩
    · rw [x_eq (a := .list ((N.filter fun n => decide (0 < n)).map .int)) (b := .list []) rfl rfl (shaped_ints _) (shaped_ints []) (fun _ z => nomatch z), eqv_nil]
      by_cases hf : (N.filter fun n => decide (0 < n)) = []
      · rw [hf]
        refine .inr ⟨rfl, ?_⟩
        refine sp_draw hD' (by omega) (by omega) fun v D3 v0 v1 hD3 => ?_
        simp
        rw [show ∀ Q : Kt, fLen [T.lr 0] ⟨D3, [some (N.map PyData.int)]⟩ Q = Q (.int ((N.map PyData.int).length : Nat)) ⟨D3, [some (N.map PyData.int)]⟩ from fun _ => rfl, List.length_map]
        refine ⟨rfl, ?_⟩
        refine sp_draw hD3 (by omega) (by omega) fun j D4 j0 j1 hD4 => ?_
        obtain ⟨k, rfl⟩ : ∃ k : Nat, j = k := ⟨j.toNat, by omega⟩
        have hk : k < N.length := by omega
        simp
        refine ⟨k, ?_, ?_⟩
        · unfold ixN
          rw [if_pos (by omega), if_pos (by omega)]
          simp
        · have e : (N.map PyData.int).set k (.int (1 + v)) = (N.set k (1 + v)).map .int := by rw [List.map_set]
          rw [e]
          refine q (N.set k (1 + v)) D4 ⟨by simpa using hl, fun n hn => ?_, ⟨1 + v, List.mem_set hk (1 + v), by omega⟩⟩ hD4
          rcases List.mem_or_eq_of_mem_set hn with z | z
          · exact hN n z
          · rw [z]; omega
      · refine .inl ⟨?_, ?_⟩
        · cases hc : (N.filter fun n => decide (0 < n)) with
          | nil => exact absurd hc hf
          | cons x l => rfl
        · refine ⟨rfl, q N D' ⟨hl, hN, ?_⟩ hD'⟩
          obtain ⟨n, hn⟩ := List.exists_mem_of_ne_nil _ hf
          obtain ⟨h1, h2⟩ := List.mem_filter.mp hn
          exact ⟨n, h1, of_decide_eq_true h2⟩
end K02
namespace K02
open PySem PySem.Spec L2 L3 Sh Wm Yq Wl
theorem sp_pickv {D : List Cell} {xs : List Dt} {Q : T → List Cell → Prop} (hD : RI D) (h1 : xs ≠ []) (h2 : xs.length < 100000) (q : ∀ x D', x ∈ xs → RI D' → Q (inj x) D') : d__law_pick_v [.mr 1, .q (.lst xs)] D Q := by
  have hl : 0 < xs.length := List.length_pos_iff.mpr h1
  refine ⟨rfl, ?_⟩
  show b__law_pick_v_0 _ _ _
  simp only [x_ret, x_op, x_call, x_acons, x_anil, x_var, x_def, List.getElem?_cons_succ, List.getElem?_cons_zero]
  refine ⟨_, rfl, _, rfl, _, rfl, ?_⟩
  refine w_qlen rfl ?_
  refine ⟨by simp, ?_⟩
  refine sp_draw hD (by omega) (by omega) fun n D' n0 n1 hD' => ?_
  obtain ⟨k, rfl⟩ : ∃ k : Nat, n = k := ⟨n.toNat, by omega⟩
  have hk : k < xs.length := by omega
  refine w_qix rfl hk ?_
  exact ⟨noL_inj _, q _ _ (List.getElem_mem hk) hD'⟩
def far : Int := 1000000000000000000000000000000000000000000000000000000000000000000000000000000000000000000000000000000000000000000000000000000000000000000000000000000000000000000000000000000000000000000000000000000000000000000000000000000000000000000000000000000000000000000000000000000000000000000000000000000000000000000000000000000000000000000000000000000000000000000000000000000000000000000000000000000000000000
def tenp (i : Nat) : Int := ((10 ^ (57 * i) : Nat) : Int)
theorem tenp_step (i : Nat) : tenp i * (10 : Int) ^ 57 = tenp (i + 1) := by
  unfold tenp
  rw [Nat.mul_add, Nat.pow_add]
  rfl
theorem tenp_vast {i : Nat} (h : i < 7) : CVast (tenp i) ((10 : Int) ^ 57) := by
  have : ∀ i, i < 7 → (tenp i).natAbs < 2 ^ 2000 := by decide +kernel
  exact ⟨this i h, by decide +kernel⟩
theorem sp_far {D : List Cell} {Q : T → List Cell → Prop} (q : Q (.int far) D) : d__law_far [] D Q := by
  refine ⟨rfl, ?_⟩
  show b__law_far_3 _ [none, none] _
  refine w_seq (w_set (w_c ?_))
  show b__law_far_2 _ [some (.int 1), none] _
  refine w_seq (w_for ?_)
  rw [x_irange]
  refine w_ac (w_c (w_an ⟨by decide, ?_⟩))
  suffices key : ∀ E2 : Es, (∀ p, b__law_far_1 E2 [some (.int far), p] ⟨D, []⟩) → goFor (gN 1) b__law_far_0 { E2 with nx := b__law_far_1 E2 } (rangeT 7) [some (.int 1), none] ⟨D, []⟩ from key { nx := fun _ M => Q .non M.D, rt := fun t M => noL t = true ∧ Q t M.D } fun p => w_ret ⟨_, rfl, rfl, q⟩
  intro E2 k2
  refine for_all (fun i τ M => M = ⟨D, []⟩ ∧ ∃ p, τ = [some (.int (tenp i)), p]) ⟨rfl, none, rfl⟩ ?_ ?_
  · rintro i τ M t R ht ⟨rfl, p, rfl⟩ k
    obtain ⟨hi, rfl⟩ := range_at ht
    rw [x_gn]
    suffices key : ∀ E : Es, (∀ p, E.nx [some (.int (tenp (i + 1))), p] ⟨D, []⟩) → b__law_far_0 E [some (.int (tenp i)), some (.int (i : Int))] ⟨D, []⟩ from key _ fun p => k _ _ ⟨rfl, p, rfl⟩
    intro E q
    refine w_set (w_op ⟨_, rfl, ?_⟩)
    simp only [x_op, x_c]
    refine ⟨by unfold CPow; decide, ?_⟩
    refine w_mulV (tenp_vast hi) ?_
    rw [show ((57 : Int).toNat) = 57 from rfl, tenp_step]
    exact q _
  · rintro τ M ⟨rfl, p, rfl⟩
    have e : tenp (rangeT 7).length = far := by
      rw [range_len]
      decide +kernel
    rw [e]
    exact k2 p
theorem all_c {p : Dt → Prop} {x : Dt} {l : List Dt} (h : p x) (g : ∀ y ∈ l, p y) : ∀ y ∈ x :: l, p y := fun y hy => by
  rcases List.mem_cons.mp hy with e | e
  · rw [e]; exact h
  · exact g y e
theorem all_n {p : Dt → Prop} : ∀ y ∈ ([] : List Dt), p y := fun y hy => by cases hy
theorem all_a {p : Dt → Prop} {l m : List Dt} (h : ∀ y ∈ l, p y) (g : ∀ y ∈ m, p y) : ∀ y ∈ l ++ m, p y := fun y hy => by
  rcases List.mem_append.mp hy with e | e
  · exact h y e
  · exact g y e
theorem ln_uncons {n k : Nat} {x : Dt} {xs : List Dt} (h : LnA n k (x :: xs)) : ∃ a b, Ln a k x ∧ LnA b k xs ∧ a + 2 + b ≤ n := by
  obtain ⟨ys, h1, h2, h3, h4⟩ := h.ex
  unfold pds at h1
  split at h1
  · rename_i y zs e1 e2
    cases h1
    simp only [PyData.showableAll, Bool.and_eq_true] at h2
    simp only [PyData.shownAll, List.map_cons, List.sum_cons, List.length_cons] at h3
    simp only [PyData.depthAll] at h4
    exact ⟨_, _, ⟨y, e1, h2.1, Nat.le_refl _, by omega⟩, ⟨zs, e2, h2.2, Nat.le_refl _, by omega⟩, by omega⟩
  · cases h1
theorem ln_len {n k : Nat} : ∀ {xs : List Dt}, LnA n k xs → 2 * xs.length ≤ n
  | [], _ => by simp
  | x :: xs, h => by
    obtain ⟨a, b, _, h2, h3⟩ := ln_uncons h
    have := ln_len h2
    rw [List.length_cons]
    omega
theorem ln_take {n k : Nat} : ∀ {xs : List Dt} (m : Nat), LnA n k xs → LnA n k (xs.take m)
  | xs, 0, h => by
    rw [List.take_zero]
    exact ln_nil.mono (Nat.zero_le _) (Nat.zero_le _)
  | [], m + 1, h => h
  | x :: xs, m + 1, h => by
    obtain ⟨a, b, h1, h2, h3⟩ := ln_uncons h
    exact (ln_cons h1 (ln_take m h2)).mono h3 (Nat.le_refl _)
theorem ln_drop {n k : Nat} : ∀ {xs : List Dt} (m : Nat), LnA n k xs → LnA n k (xs.drop m)
  | xs, 0, h => h
  | [], m + 1, h => h
  | x :: xs, m + 1, h => by
    obtain ⟨a, b, h1, h2, h3⟩ := ln_uncons h
    exact (ln_drop m h2).mono (by omega) (Nat.le_refl _)
theorem ln_cut {n k : Nat} {xs : List Dt} {lo hi : Option Int} (h : LnA n k xs) : LnA n k (cutT xs lo hi) := ln_take _ (ln_drop _ h)
theorem cutT_mem {α : Type} {xs : List α} {lo hi : Option Int} {x : α} (h : x ∈ cutT xs lo hi) : x ∈ xs := List.mem_of_mem_drop (List.mem_of_mem_take h)
theorem cutT_len {α : Type} (xs : List α) (lo hi : Option Int) : (cutT xs lo hi).length ≤ xs.length := by
  unfold cutT
  rw [List.length_take, List.length_drop]
  omega
theorem ob_cut {xs : List Dt} {lo hi : Option Int} (h : obBs xs = true) : obBs (cutT xs lo hi) = true := ob_all fun x hx => ob_mem h (cutT_mem hx)
theorem ob_app {xs ys : List Dt} (h : obBs xs = true) (g : obBs ys = true) : obBs (xs ++ ys) = true := ob_all fun x hx => by
  rcases List.mem_append.mp hx with e | e
  · exact ob_mem h e
  · exact ob_mem g e
theorem ob_one {x : Dt} (h : obB x = true) : obBs [x] = true := by
  show (obB x && true) = true
  rw [h]
  rfl
/-- what is turned -/
def OdR (n k : Nat) (y : Dt) : Prop := obB y = true ∧ Ln (2 * n + 500) (k + 2) y ∧ ∀ ys, y = .tup ys → LnA (2 * n + 500) (k + 1) ys
theorem odr_tup {n k : Nat} {ys : List Dt} (ho : obBs ys = true) (h : LnA (2 * n + 490) (k + 1) ys) : OdR n k (.tup ys) := by
  refine ⟨ho, (ln_tup h).mono (by omega) (by omega), fun zs e => ?_⟩
  cases e
  exact h.mono (by omega) (Nat.le_refl _)
theorem odr_flat {n k : Nat} {y : Dt} (ho : obB y = true) (h : Ln 490 2 y) (hy : ∀ ys, y ≠ .tup ys) : OdR n k y := ⟨ho, h.mono (by omega) (by omega), fun ys e => absurd e (hy ys)⟩
def oddL (xs : List Dt) : List Dt := [.lst xs, .tup [], .non, .tup (xs ++ cutT xs none (some 1)), .tup (cutT xs (some 1) none), .tup [.tup xs], .int 0, .str "01", .dic [] [], .bl true]
theorem oddL_ok {n k : Nat} {xs : List Dt} (hk : 1 ≤ k) (ho : obBs xs = true) (lx : LnA n k xs) : ∀ y ∈ oddL xs, OdR n k y := by
  unfold oddL
  refine all_c ⟨ho, (ln_lst lx).mono (by omega) (by omega), fun ys e => nomatch e⟩ ?_
  refine all_c (odr_tup rfl (ln_nil.mono (by omega) (by omega))) ?_
  refine all_c (odr_flat rfl (lnB_ok (by decide +kernel)) fun ys e => nomatch e) ?_
  refine all_c (odr_tup (ob_app ho (ob_cut ho)) ((ln_app lx (ln_cut lx)).mono (by omega) (by omega))) ?_
  refine all_c (odr_tup (ob_cut ho) ((ln_cut lx).mono (by omega) (by omega))) ?_
  refine all_c (odr_tup (ob_one ho) ((ln_one (ln_tup lx)).mono (by omega) (by omega))) ?_
  refine all_c (odr_flat rfl (lnB_ok (by decide +kernel)) fun ys e => nomatch e) ?_
  refine all_c (odr_flat rfl (lnB_ok (by decide +kernel)) fun ys e => nomatch e) ?_
  refine all_c (odr_flat rfl (lnB_ok (by decide +kernel)) fun ys e => nomatch e) ?_
  exact all_c (odr_flat rfl (lnB_ok (by decide +kernel)) fun ys e => nomatch e) all_n
def It (x : Dt) : Prop := Ln 450 2 x ∧ obB x = true
theorem it_ln {n k : Nat} {x : Dt} (h : Ln n k x) (hn : n ≤ 450) (hk : k ≤ 2) (o : obB x = true) : It x := ⟨h.mono hn hk, o⟩
theorem it_far : It (.int far) := ⟨(ln_int (k := 400) (by decide) (by decide) (by decide +kernel)).mono (by omega) (by omega), rfl⟩
theorem it_farN : It (.int (0 - far)) := ⟨(ln_int (k := 400) (by decide) (by decide) (by decide +kernel)).mono (by omega) (by omega), rfl⟩
def items (m : Nat) : List Dt := [.int (-1), .bl true, .bl false, .non, .str "0", .tup [.int 0], .lst [.int 0], .dic [] [], .int 1000000000000000000000000000000000000000000000000000000000000, .int (0 - (m : Int))]
theorem items_ok {m : Nat} (h : m ≤ 100000) : ∀ y ∈ items m, It y := by
  unfold items
  refine all_c (it_ln (lnB_ok (by decide +kernel) : Ln 450 1 (.int (-1))) (Nat.le_refl _) (by omega) rfl) ?_
  refine all_c (it_ln (lnB_ok (by decide +kernel) : Ln 450 1 (.bl true)) (Nat.le_refl _) (by omega) rfl) ?_
  refine all_c (it_ln (lnB_ok (by decide +kernel) : Ln 450 1 (.bl false)) (Nat.le_refl _) (by omega) rfl) ?_
  refine all_c (it_ln (lnB_ok (by decide +kernel) : Ln 450 1 .non) (Nat.le_refl _) (by omega) rfl) ?_
  refine all_c (it_ln (lnB_ok (by decide +kernel) : Ln 450 1 (.str "0")) (Nat.le_refl _) (by omega) rfl) ?_
  refine all_c (it_ln (lnB_ok (by decide +kernel) : Ln 450 1 (.tup [.int 0])) (Nat.le_refl _) (by omega) rfl) ?_
  refine all_c (it_ln (lnB_ok (by decide +kernel) : Ln 450 1 (.lst [.int 0])) (Nat.le_refl _) (by omega) rfl) ?_
  refine all_c (it_ln (lnB_ok (by decide +kernel) : Ln 450 1 (.dic [] [])) (Nat.le_refl _) (by omega) rfl) ?_
  refine all_c (it_ln (lnB_ok (by decide +kernel) : Ln 450 1 (.int 1000000000000000000000000000000000000000000000000000000000000)) (Nat.le_refl _) (by omega) rfl) ?_
  exact all_c (it_ln (ln_num (by omega)) (by omega) (by omega) rfl) all_n
theorem w_qslT {m : Me} {lo hi : Mo} {xs : List Dt} {t : T} {l u : Option Int} {τ : En} {M : Mem} {Q : Kt} (hm : ∀ R : Kt, R t M → m τ M R) (e : tq t = some (.tup xs)) (hl : ∀ R : Option Int → Mem → Prop, R l M → lo τ M R) (hu : ∀ R : Option Int → Mem → Prop, R u M → hi τ M R) (q : Q (.q (.tup (cutT xs l u))) M) : mQSl m lo hi τ M Q := by
  unfold mQSl
  refine hm _ (hl _ (hu _ ?_))
  unfold oQSl
  rw [e]
  exact q
theorem p_none {τ : En} {M : Mem} : ∀ R : Option Int → Mem → Prop, R none M → oNone τ M R := fun R r => r
theorem p_c {i : Int} {τ : En} {M : Mem} : ∀ R : Option Int → Mem → Prop, R (some i) M → oPart (mC (.int i)) τ M R := fun R r => r
theorem p_v {j : Nat} {i : Int} {τ : En} {M : Mem} (h : τ[j]? = some (some (.int i))) : ∀ R : Option Int → Mem → Prop, R (some i) M → oPart (mVar j) τ M R := fun R r => ⟨_, h, r⟩
theorem p_v1 {j : Nat} {i : Int} {τ : En} {M : Mem} (h : τ[j]? = some (some (.int i))) : ∀ R : Option Int → Mem → Prop, R (some (i + 1)) M → oPart (mOp oQAdd (mVar j) (mC (.int 1))) τ M R := fun R r => ⟨_, h, r⟩
theorem w_qlistT {a : List Dt} {t : T} {M : Mem} {Q : Kt} (e : tq t = some (.tup a)) (q : Q (.q (.lst a)) M) : fQList [t] M Q := by
  unfold fQList
  simp only [e]
  exact q
section
variable {D : List Cell} {xs es : List Dt} {rt et : T} {n k : Nat}
theorem odd_4 {E : Es} {a3 a4 a5 : Option T} (hD : RI D) (hk : 1 ≤ k) (hn : n ≤ 90000) (hx : xs ≠ []) (hv : Tv rt (.tup xs)) (he : tq et = some (.lst es)) (ho : obBs xs = true) (lx : LnA n k xs) (hes : ∀ e ∈ es, It e) (les : es.length ≤ 10)
    (q : ∀ y D', OdR n k y → RI D' → E.rt (inj y) ⟨D', []⟩) : b__law_odd_4 E [some (.mr 1), some rt, some et, a3, a4, a5] ⟨D, []⟩ := by
  have hl := ln_len lx
  have hp : 0 < xs.length := List.length_pos_iff.mpr hx
  refine w_seq (w_set (w_call (w_ac ⟨_, rfl, w_ac (w_call (w_ac ⟨_, rfl, w_an (w_qlenT hv.tq (w_an ⟨by simp, sp_draw hD (by omega) (by omega) fun at1 D1 i0 i1 hD1 => ?_⟩))⟩))⟩)))
  show b__law_odd_3 E [some (.mr 1), some rt, some et, a3, some (.int at1), a5] _
  refine w_seq (w_set (w_op ⟨_, rfl, w_qlst ?_⟩))
  refine w_ac (w_call (w_an ⟨by simp, sp_far (w_ac (w_op (w_c (w_call (w_an ⟨by simp, sp_far ⟨trivial, ?_⟩⟩)))))⟩))
  refine w_an ⟨[.int far, .int (0 - far)], rfl, two_ok, ?_⟩
  refine w_qadd (b := [.int far, .int (0 - far)]) he rfl (sz64' (show es.length + 2 ≤ 100000 by omega)) ?_
  show b__law_odd_2 E [some (.mr 1), some rt, some (.q (.lst (es ++ [.int far, .int (0 - far)]))), a3, some (.int at1), a5] _
  refine w_seq (w_set (w_call (w_ac ⟨_, rfl, w_ac (w_op ⟨_, rfl, w_qlst ?_⟩)⟩)))
  simp only [x_acons, x_anil, x_var, x_c, x_op, x_un, x_call, x_tup, x_lst, mQDic, goQD, List.getElem?_cons_succ, List.getElem?_cons_zero]
  refine ⟨sz1, sz1, ⟨by simp, by simp⟩, ?_⟩
  refine ⟨by unfold CPow; decide, _, rfl, w_qlenT hv.tq ⟨trivial, ?_⟩⟩
  refine ⟨items xs.length, rfl, sz64' (show 10 ≤ 100000 by decide), ?_⟩
  refine w_qadd (b := items xs.length) rfl rfl (sz64' (show (es ++ _).length + 10 ≤ 100000 by rw [List.length_append]; show es.length + 2 + 10 ≤ _; omega)) ?_
  refine ⟨by simp, sp_pickv hD1 (by unfold items; simp) (show ((es ++ _) ++ items xs.length).length < 100000 by rw [List.length_append, List.length_append]; show es.length + 2 + 10 < _; omega) fun y D2 hy hD2 => ?_⟩
  have iy : It y := all_a (all_a hes (all_c it_far (all_c it_farN all_n))) (items_ok (m := xs.length) (by omega)) y hy
  show b__law_odd_1 E [some (.mr 1), some rt, some (.q (.lst (es ++ [.int far, .int (0 - far)]))), a3, some (.int at1), some (inj y)] _
  have c1 := cutT_len xs none (some at1)
  have c2 := cutT_len xs (some (at1 + 1)) none
  refine w_ret (w_op (w_op (w_qslT (fun R r => ⟨_, rfl, r⟩) hv.tq p_none (p_v rfl) (w_qtup (w_ac ⟨_, rfl, w_an ⟨[y], tqs_c (tq_inj y) rfl, sz1, ?_⟩⟩)))))
  refine w_qaddT (b := [y]) rfl rfl (sz64' (show _ + 1 ≤ 100000 by omega)) ?_
  refine w_qslT (fun R r => ⟨_, rfl, r⟩) hv.tq (p_v1 rfl) p_none ?_
  refine w_qaddT rfl rfl (by rw [List.length_append]; exact sz64' (show _ + 1 + _ ≤ 100000 by omega)) ?_
  refine q (.tup _) D2 (odr_tup (ob_app (ob_app (ob_cut ho) (ob_one iy.2)) (ob_cut ho)) ?_) hD2
  exact (ln_app (ln_app ((ln_cut lx).mono (Nat.le_refl _) (by omega)) (ln_one (iy.1.mono (k' := k + 1) (Nat.le_refl _) (by omega)))) ((ln_cut lx).mono (Nat.le_refl _) (by omega))).mono (by omega) (Nat.le_refl _)
theorem sp_odd {Q : T → List Cell → Prop} (hD : RI D) (hk : 1 ≤ k) (hn : n ≤ 90000) (hv : Tv rt (.tup xs)) (he : tq et = some (.lst es)) (ho : obBs xs = true) (lx : LnA n k xs) (hes : ∀ e ∈ es, It e) (les : es.length ≤ 10)
    (q : ∀ y D', OdR n k y → RI D' → Q (inj y) D') : d__law_odd [.mr 1, rt, et] D Q := by
  have hl := ln_len lx
  refine ⟨rfl, ?_⟩
  show b__law_odd_6 _ [some (.mr 1), some rt, some et, none, none, none] _
  have c1 := cutT_len xs none (some 1)
  refine w_seq (w_set (w_qlst ?_))
  refine w_ac (w_call (w_ac ⟨_, rfl, w_an (w_qlistT hv.tq (w_ac ?_))⟩))
  simp only [x_acons, x_anil, x_tup, x_c, x_dat0]
  refine ⟨sz64' (by decide), ?_⟩
  refine w_op ⟨_, rfl, w_qslT (fun R r => ⟨_, rfl, r⟩) hv.tq p_none p_c (w_qaddT hv.tq rfl (sz64' (show _ + _ ≤ 100000 by omega)) ?_)⟩
  refine w_qslT (fun R r => ⟨_, rfl, r⟩) hv.tq p_c p_none ?_
  refine w_qtup (w_ac ⟨_, rfl, w_an ⟨[.tup xs], tqs_c hv.tq rfl, sz1, ?_⟩⟩)
  simp only [mQDic, goQD]
  refine ⟨⟨by simp, by simp⟩, ?_⟩
  refine ⟨oddL xs, rfl, sz64' (show 10 ≤ 100000 by decide), ?_⟩
  show b__law_odd_5 _ [some (.mr 1), some rt, some et, some (.q (.lst (oddL xs))), none, none] _
  have pick : ∀ E : Es, (∀ y D', OdR n k y → RI D' → E.rt (inj y) ⟨D', []⟩) → ∀ D1, RI D1 → b__law_odd_0 E [some (.mr 1), some rt, some et, some (.q (.lst (oddL xs))), none, none] ⟨D1, []⟩ := fun E qe D1 hD1 => by
    refine w_ret (w_call (w_ac ⟨_, rfl, w_ac ⟨_, rfl, w_an ⟨by simp, sp_pickv hD1 (by unfold oddL; simp) (show 10 < 100000 by decide) fun y D' hy hD' => ?_⟩⟩⟩))
    exact qe y D' (oddL_ok hk ho lx y hy) hD'
  have qr : ∀ y D', OdR n k y → RI D' → (fun (t : T) (M : Mem) => noL t = true ∧ Q t M.D) (inj y) ⟨D', []⟩ := fun y D' hy hD' => ⟨noL_inj _, q y D' hy hD'⟩
  refine w_seq (w_if (w_bor (w_test (w_op ⟨_, rfl, w_tup (w_an ⟨sz64' (by decide), xs, hv.tq, rfl, _, rfl, ?_⟩)⟩))))
  cases hx : xs with
  | nil =>
    refine ifT rfl (ifT rfl ?_)
    rw [← hx]
    exact pick _ qr D hD
  | cons x0 xs0 =>
    rw [← hx]
    refine ifF (by simp [hx]) ?_
    refine w_test (w_op (w_call (w_ac ⟨_, rfl, w_ac (w_c (w_an ⟨by simp, sp_draw hD (by decide) (by decide) fun z D1 z0 z1 hD1 => w_c ?_⟩))⟩)))
    rw [x_eqi]
    refine ⟨_, rfl, ?_⟩
    by_cases hz : z = 0
    · refine ifT (by simp [hz]) ?_
      exact pick _ qr D1 hD1
    · refine ifF (by simp [hz]) (w_next ?_)
      exact odd_4 hD1 hk hn (by rw [hx]; exact List.cons_ne_nil _ _) hv he ho lx hes les qr
end
end K02
set_option Elab.async false
set_option linter.all false
set_option maxRecDepth 100000
set_option maxHeartbeats 1000000
set_option exponentiation.threshold 2000
namespace K02
open PySem PySem.Spec L2 L3 Sh Wm Yq Wl
def Op (x : Dt) : Prop := Ln 1500 5 x ∧ obB x = true
theorem op_ln {n k : Nat} {x : Dt} (h : Ln n k x) (hn : n ≤ 1500) (hk : k ≤ 5) (o : obB x = true) : Op x := ⟨h.mono hn hk, o⟩
theorem ob_t2 {a b : Dt} (ha : obB a = true) (hb : obB b = true) : obB (.tup [a, b]) = true := by
  show (obB a && (obB b && true)) = true
  rw [ha, hb]
  rfl
theorem ob_l2 {a b : Dt} (ha : obB a = true) (hb : obB b = true) : obB (.lst [a, b]) = true := ob_t2 ha hb
theorem op_two {a b : Dt} {n1 n2 k : Nat} (ha : Ln n1 k a) (hb : Ln n2 k b) (hn : n1 + n2 ≤ 1480) (hk : k ≤ 4) (oa : obB a = true) (ob : obB b = true) : Op (.tup [a, b]) :=
  op_ln (ln_tup (ln_cons ha (ln_one hb))) (by omega) (by omega) (ob_t2 oa ob)
section
variable {ri : List Dt} {m : Int}
def po1 (o : Dt) (ri : List Dt) (m : Int) : List Dt := [.tup [o, .int m], .tup [.tup ri, .int 0], .tup [.tup ri, .int (-1)], .tup [.tup ri, .int (1000000000000000000000000000000 + 1)], .tup [.tup ri, .bl true]]
def zs101 : Dt := .tup (ups (List.replicate (101 : Int).toNat [PyData.int 0]).flatten)
def po2 (ri : List Dt) (m : Int) : List Dt := [.tup [.tup ri, .non], .tup [.tup ri], .tup [.tup ri, .int m, .int 1], .lst [.tup ri, .int m], .non, .tup [], .tup ri, .tup [.int m, .tup ri], .tup [zs101, .int 1]]
def po3 (ri : List Dt) : List Dt := [.tup [.lst ri, .int 1], .tup [.int 0, .int 1], .tup [.tup ri, .int far], .tup [.tup ri, .int (0 - far)]]
def po4 (ri : List Dt) (m : Int) : List Dt := [.tup [.tup [], .int 1], .tup [.tup ri, .str (toString m)], .tup [.tup ri, .lst [.int m]], .tup [.tup ri, .int m]]
theorem rep_mem {α : Type} {n : Nat} {l : List α} {x : α} (h : x ∈ (List.replicate n l).flatten) : x ∈ l := by
  obtain ⟨m, hm, hx⟩ := List.mem_flatten.mp h
  rw [(List.mem_replicate.mp hm).2] at hx
  exact hx
theorem rep_len {α : Type} {n : Nat} {l : List α} : (List.replicate n l).flatten.length = n * l.length := by
  induction n with
  | zero => simp
  | succ n ih =>
    rw [List.replicate_succ, List.flatten_cons, List.length_append, ih, Nat.succ_mul]
    omega
theorem ups_mem {l : List PyData} {x : Dt} (h : x ∈ ups l) : ∃ y ∈ l, x = up y := by
  induction l with
  | nil => cases h
  | cons a l ih =>
    rcases List.mem_cons.mp (show x ∈ up a :: ups l from h) with e | e
    · exact ⟨a, List.mem_cons_self, e⟩
    · obtain ⟨y, hy, e⟩ := ih e
      exact ⟨y, List.mem_cons_of_mem _ hy, e⟩
theorem ups_len : ∀ l : List PyData, (ups l).length = l.length
  | [] => rfl
  | x :: l => by
    show (ups l).length + 1 = l.length + 1
    rw [ups_len l]
theorem ln_zs : Ln 600 1 zs101 := by
  unfold zs101
  have h : LnA ((ups (List.replicate (101 : Int).toNat [PyData.int 0]).flatten).length * (3 + 2)) 0 (ups (List.replicate (101 : Int).toNat [PyData.int 0]).flatten) := ln_all fun x hx => by
    obtain ⟨y, hy, rfl⟩ := ups_mem hx
    have := rep_mem hy
    rw [List.mem_singleton.mp this]
    exact lnB_ok (by decide +kernel)
  rw [ups_len, rep_len] at h
  exact (ln_tup h).mono (by decide) (by decide)
theorem po_ok {o : Dt} (ho : obBs ri = true) (lx : LnA 200 1 ri) (hm : 1 ≤ m ∧ m ≤ 1000000000000000000000000000000) (oo : OdR 200 1 o) : ∀ y ∈ po1 o ri m ++ po2 ri m ++ po3 ri ++ po4 ri m, Op y := by
  have lr : Ln 203 2 (.tup ri) := ln_tup lx
  have or : obB (.tup ri) = true := ho
  have lm : Ln 32 0 (.int m) := ln_num (by omega)
  have lm2 : Ln 32 2 (.int m) := lm.mono (Nat.le_refl _) (by omega)
  refine all_a (all_a (all_a ?_ ?_) ?_) ?_
  · unfold po1
    refine all_c (op_two oo.2.1 (lm.mono (Nat.le_refl _) (by omega)) (by omega) (by omega) oo.1 rfl) ?_
    refine all_c (op_two lr ((lnB_ok (by decide +kernel) : Ln 32 2 (.int 0))) (by omega) (by omega) or rfl) ?_
    refine all_c (op_two lr ((lnB_ok (by decide +kernel) : Ln 32 2 (.int (-1)))) (by omega) (by omega) or rfl) ?_
    refine all_c (op_two lr ((lnB_ok (by decide +kernel) : Ln 32 2 (.int (1000000000000000000000000000000 + 1)))) (by omega) (by omega) or rfl) ?_
    exact all_c (op_two lr ((lnB_ok (by decide +kernel) : Ln 32 2 (.bl true))) (by omega) (by omega) or rfl) all_n
  · unfold po2
    refine all_c (op_two lr ((lnB_ok (by decide +kernel) : Ln 32 2 .non)) (by omega) (by omega) or rfl) ?_
    refine all_c (op_ln (ln_tup (ln_one lr)) (by omega) (by omega) (ob_one or)) ?_
    refine all_c (op_ln (ln_tup (ln_cons lr (ln_cons lm2 (ln_one (lnB_ok (by decide +kernel) : Ln 32 2 (.int 1)))))) (by omega) (by omega) ?_) ?_
    · show (obB (.tup ri) && true) = true
      rw [or]
      rfl
    refine all_c (op_ln (ln_lst (ln_cons lr (ln_one lm2))) (by omega) (by omega) (ob_l2 or rfl)) ?_
    refine all_c (op_ln (lnB_ok (by decide +kernel) : Ln 32 2 .non) (by omega) (by omega) rfl) ?_
    refine all_c (op_ln (lnB_ok (by decide +kernel) : Ln 32 2 (.tup [])) (by omega) (by omega) rfl) ?_
    refine all_c (op_ln lr (by omega) (by omega) or) ?_
    refine all_c (op_two lm2 lr (by omega) (by omega) rfl or) ?_
    exact all_c (op_two ln_zs ((lnB_ok (by decide +kernel) : Ln 32 1 (.int 1))) (by omega) (by omega) (ob_up (.tuple (List.replicate (101 : Int).toNat [PyData.int 0]).flatten)) rfl) all_n
  · unfold po3
    refine all_c (op_two (ln_lst lx) ((lnB_ok (by decide +kernel) : Ln 32 2 (.int 1))) (by omega) (by omega) or rfl) ?_
    refine all_c ⟨lnB_ok (by decide +kernel), rfl⟩ ?_
    refine all_c (op_two lr (it_far.1.mono (Nat.le_refl _) (by omega)) (by omega) (by omega) or rfl) ?_
    exact all_c (op_two lr (it_farN.1.mono (Nat.le_refl _) (by omega)) (by omega) (by omega) or rfl) all_n
  · unfold po4
    refine all_c ⟨lnB_ok (by decide +kernel), rfl⟩ ?_
    refine all_c (op_two lr ((ln_str (by omega)).mono (Nat.le_refl _) (by omega)) (by omega) (by omega) or rfl) ?_
    refine all_c (op_two lr ((ln_lst (ln_one lm)).mono (Nat.le_refl _) (by omega)) (by omega) (by omega) or rfl) ?_
    exact all_c (op_two lr lm2 (by omega) (by omega) or rfl) all_n
theorem fo_log {i : Int} (h : i.natAbs < 2 ^ 1900) : i.natAbs.log2 < 1920 := by
  by_cases z : i.natAbs = 0
  · rw [z]
    decide
  · have := (Nat.log2_lt z).mpr h
    omega
theorem sp_oddpiece {D : List Cell} {bs : List Dt} {bt pt : T} {Q : T → List Cell → Prop} (hD : RI D) (hb : tq bt = some (.tup bs)) (h6 : bs.length ≤ 6) (hv : Tv pt (.tup [.tup ri, .int m])) (ho : obBs ri = true) (lx : LnA 200 1 ri) (hm : 1 ≤ m ∧ m ≤ 1000000000000000000000000000000)
    (q : ∀ y D', Op y → RI D' → Q (inj y) D') : d__law_odd_piece [.mr 1, bt, pt] D Q := by
  refine ⟨rfl, ?_⟩
  show b__law_odd_piece_4 _ [some (.mr 1), some bt, some pt, none, none, none] _
  refine w_seq (w_asg ⟨_, rfl, ?_⟩)
  unfold gQTu
  dsimp only
  rw [hv.tq]
  refine ⟨rfl, rfl, ?_⟩
  show b__law_odd_piece_3 _ [some (.mr 1), some bt, some pt, some (.q (.tup ri)), some (.int m), none] _
  refine w_seq (w_set (w_qlst ?_))
  refine w_ac (w_qtup (w_ac (w_call (w_ac ⟨_, rfl, w_ac ⟨_, rfl, w_ac (w_qlst (w_ac (w_call (w_ac ⟨_, rfl, w_an (w_lenb hb (w_an ⟨[.int bs.length], rfl, sz1, w_an ?_⟩))⟩))))⟩⟩))))
  refine ⟨by simp, sp_odd (xs := ri) (es := [.int bs.length]) (n := 200) (k := 1) hD (by omega) (by omega) (tv_inj (.tup ri)) rfl ho lx (all_c (it_ln (ln_num (by omega)) (by omega) (by omega) rfl) all_n) (show 1 ≤ 10 by decide) fun o D1 oo hD1 => ?_⟩
  refine w_ac ⟨_, rfl, w_an ⟨[o, .int m], tqs_c (tq_inj o) rfl, two_ok, ?_⟩⟩
  simp only [x_acons, x_anil, x_var, x_c, x_op, x_un, mQTup, List.getElem?_cons_succ, List.getElem?_cons_zero]
  refine ⟨_, rfl, [.tup ri, .int 0], rfl, two_ok, ?_⟩
  refine ⟨_, rfl, [.tup ri, .int (-1)], rfl, two_ok, ?_⟩
  refine ⟨_, rfl, by unfold CPow; decide, [.tup ri, .int (1000000000000000000000000000000 + 1)], rfl, two_ok, ?_⟩
  refine ⟨_, rfl, [.tup ri, .bl true], rfl, two_ok, ?_⟩
  refine ⟨po1 o ri m, rfl, sz64' (show 5 ≤ 100000 by decide), ?_⟩
  show b__law_odd_piece_2 _ [some (.mr 1), some bt, some pt, some (.q (.tup ri)), some (.int m), some (.q (.lst (po1 o ri m)))] _
  refine w_seq (w_set (w_op ⟨_, rfl, w_qlst ?_⟩))
  simp only [x_acons, x_anil, x_var, x_c, x_op, x_un, x_tup, x_dat0, mQTup, mQLst, List.getElem?_cons_succ, List.getElem?_cons_zero]
  refine ⟨_, rfl, [.tup ri, .non], rfl, two_ok, ?_⟩
  refine ⟨_, rfl, [.tup ri], rfl, sz1, ?_⟩
  refine ⟨_, rfl, _, rfl, [.tup ri, .int m, .int 1], rfl, sz3, ?_⟩
  refine ⟨_, rfl, _, rfl, [.tup ri, .int m], rfl, two_ok, ?_⟩
  refine ⟨sz64' (by decide), ?_⟩
  refine ⟨_, rfl, ?_⟩
  refine ⟨_, rfl, _, rfl, [.int m, .tup ri], rfl, two_ok, ?_⟩
  refine ⟨sz1, ?_⟩
  refine ⟨⟨by simp, by decide, by decide, by decide⟩, two_ok, ?_⟩
  refine ⟨po2 ri m, rfl, sz64' (show 9 ≤ 100000 by decide), ?_⟩
  refine w_qadd (a := po1 o ri m) (b := po2 ri m) rfl rfl (sz64' (show 14 ≤ 100000 by decide)) ?_
  show b__law_odd_piece_1 _ [some (.mr 1), some bt, some pt, some (.q (.tup ri)), some (.int m), some (.q (.lst (po1 o ri m ++ po2 ri m)))] _
  refine w_seq (w_set (w_op ⟨_, rfl, w_qlst ?_⟩))
  refine w_ac (w_qtup (w_ac (w_call (w_ac ⟨_, rfl, w_an (w_qlistT (a := ri) rfl (w_ac (w_c (w_an ⟨[.lst ri, .int 1], rfl, two_ok, ?_⟩))))⟩))))
  simp only [x_acons, x_anil, x_var, x_c, x_op, x_un, x_tup, x_call, x_def, mQTup, mQLst, List.getElem?_cons_succ, List.getElem?_cons_zero]
  refine ⟨two_ok, ?_⟩
  refine ⟨_, rfl, by simp, sp_far ⟨[.tup ri, .int far], rfl, two_ok, ?_⟩⟩
  refine ⟨_, rfl, by simp, sp_far ⟨trivial, [.tup ri, .int (0 - far)], rfl, two_ok, ?_⟩⟩
  refine ⟨po3 ri, rfl, sz4', ?_⟩
  refine w_qadd (a := po1 o ri m ++ po2 ri m) (b := po3 ri) rfl rfl (sz64' (show 18 ≤ 100000 by decide)) ?_
  show b__law_odd_piece_0 _ [some (.mr 1), some bt, some pt, some (.q (.tup ri)), some (.int m), some (.q (.lst (po1 o ri m ++ po2 ri m ++ po3 ri)))] _
  refine w_ret (w_call (w_ac ⟨_, rfl, w_ac (w_op ⟨_, rfl, w_qlst ?_⟩)⟩))
  simp only [x_acons, x_anil, x_var, x_c, x_op, x_un, x_tup, x_dat0, x_call, mQTup, mQLst, List.getElem?_cons_succ, List.getElem?_cons_zero]
  refine ⟨sz64' (by decide), two_ok, ?_⟩
  refine ⟨_, rfl, _, rfl, ?_⟩
  refine ⟨fo_log (i := m) (Nat.lt_of_lt_of_le (m := 1000000000000000000000000000001) (by omega) (by decide +kernel)), ?_⟩
  refine ⟨[.tup ri, .str (toString m)], rfl, two_ok, ?_⟩
  refine ⟨_, rfl, _, rfl, [.int m], rfl, sz1, [.tup ri, .lst [.int m]], rfl, two_ok, ?_⟩
  refine ⟨_, rfl, po4 ri m, ?_, sz4', ?_⟩
  · exact tqs_c rfl (tqs_c rfl (tqs_c rfl (tqs_c hv.tq rfl)))
  refine w_qadd (a := po1 o ri m ++ po2 ri m ++ po3 ri) (b := po4 ri m) rfl rfl (sz64' (show 22 ≤ 100000 by decide)) ?_
  refine ⟨by simp, sp_pickv hD1 (by unfold po1; simp) (show 22 < 100000 by decide) fun y D2 hy hD2 => ⟨noL_inj _, q y D2 (po_ok ho lx hm oo y hy) hD2⟩⟩
end
end K02
set_option Elab.async false
set_option linter.all false
set_option maxRecDepth 100000
set_option maxHeartbeats 1000000
namespace K02
open PySem PySem.Spec L2 L3 Sh Wm Yq Wl
def alB : Dt → Bool
  | .int i => [1, 2, 4, 8, 16, 32, 64].any (· == i)
  | _ => false
def kindB : Dt → Bool
  | .tup [a, b] => inB 1 1000000000000000000000000000000 a && alB b
  | _ => false
theorem in_al {i : Int} {M : Mem} {Q : Kt} (q : Q (.bl ([1, 2, 4, 8, 16, 32, 64].any (· == i))) M) : oIn false (.int i) (.d (.tuple (List.map PyData.int [1, 2, 4, 8, 16, 32, 64]))) M Q := ⟨_, rfl, q⟩
theorem sp_size {D : List Cell} {x : Dt} {Q : T → List Cell → Prop} (ho : obB x = true) (q : Q (.bl (inB 1 1000000000000000000000000000000 x)) D) : d_is_size [inj x] D Q := by
  refine ⟨rfl, w_ret ?_⟩
  simp only [x_call, x_acons, x_anil, x_var, x_c, x_def]
  refine ⟨_, rfl, by simp, ?_⟩
  exact sp_intwithin (tv_inj x) ho ⟨rfl, q⟩
theorem sp_alignment {D : List Cell} {x : Dt} {Q : T → List Cell → Prop} (ho : obB x = true) (q : Q (.bl (alB x)) D) : d_is_alignment [inj x] D Q := by
  refine ⟨rfl, w_ret (w_and ?_)⟩
  simp only [x_call, x_acons, x_anil, x_var, x_def]
  refine ⟨_, rfl, by simp, ?_⟩
  refine sp_isinteger (tv_inj x) ho ?_
  cases x with
  | int i =>
    show mOp _ _ _ _ _ _
    rw [x_op]
    refine ⟨_, rfl, ?_⟩
    dsimp only
    rw [x_c]
    exact in_al ⟨rfl, q⟩
  | _ => exact ⟨rfl, q⟩
theorem sp_kindq {D : List Cell} {a b : Dt} {Q : T → List Cell → Prop} (ho : obB (.tup [a, b]) = true) (q : Q (.bl (kindB (.tup [a, b]))) D) : d_is_kind [inj (.tup [a, b])] D Q := by
  refine ⟨rfl, w_ret (w_and ?_)⟩
  simp only [x_call, x_acons, x_anil, x_var, x_c, x_def]
  refine ⟨_, rfl, by simp, ?_⟩
  refine sp_tupwithin (tv_inj (.tup [a, b])) ho ?_
  obtain ⟨oa, ob⟩ := ob_pair ho
  have q : Q (.bl (inB 1 1000000000000000000000000000000 a && alB b)) D := q
  show mAnd _ _ _ _ _
  refine w_and ?_
  simp only [x_call, x_op, x_acons, x_anil, x_var, x_c, x_def, List.getElem?_cons_zero]
  refine ⟨_, rfl, ix0 ⟨by simp, sp_size oa ?_⟩⟩
  cases h2 : inB 1 1000000000000000000000000000000 a with
  | false =>
    rw [h2] at q
    exact ⟨rfl, q⟩
  | true =>
    rw [h2] at q
    simp only [x_call, x_op, x_acons, x_anil, x_var, x_c, x_def, List.getElem?_cons_zero]
    exact ⟨_, rfl, ix1 ⟨by simp, sp_alignment ob ⟨rfl, q⟩⟩⟩
theorem badP_all {p : Dt → Bool} : ∀ {xs : List Dt} {k : Nat}, (∀ x ∈ xs, p x = true) → badP p k xs = none
  | [], _, _ => rfl
  | x :: xs, k, h => by
    unfold badP
    rw [if_pos (h x List.mem_cons_self)]
    exact badP_all fun y hy => h y (List.mem_cons_of_mem _ hy)
theorem kd_kind {k : Int × Int} (g : GK k) : kindB (up (kd k)) = true := by
  show (inB 1 1000000000000000000000000000000 (.int k.1) && alB (.int k.2)) = true
  have h1 := g.1
  have h2 := g.2
  unfold Al at h2
  have e1 : inB 1 1000000000000000000000000000000 (.int k.1) = true := by
    simp [inB]
    exact h1
  rw [e1]
  unfold alB
  rcases h2 with e | e | e | e | e | e | e <;> rw [e] <;> rfl
theorem all_kinds {K : Bk6} (g : GB K) : ∀ x ∈ ups (K.map kd), ∃ k, GK k ∧ x = up (kd k) := fun x hx => by
  obtain ⟨y, hy, rfl⟩ := ups_mem hx
  obtain ⟨k, hk, rfl⟩ := List.mem_map.mp hy
  exact ⟨k, g.ok k hk, rfl⟩
theorem sp_bookok {D : List Cell} {K : Bk6} {Q : T → List Cell → Prop} (g : GB K) (q : Q (.d .none) D) : d_book_error [.d (bkD K)] D Q := by
  have h6 := g.six
  have h1 : 0 < K.length := List.length_pos_iff.mpr g.ne
  have hl : (ups (K.map kd)).length = K.length := by rw [ups_len, List.length_map]
  have ht : tq (.d (bkD K)) = some (.tup (ups (K.map kd))) := rfl
  refine ⟨rfl, ?_⟩
  show b_book_error_5 _ [some (.d (bkD K)), none, none] _
  refine w_seq (w_if (w_bnot (w_test ?_)))
  simp only [x_call, x_acons, x_anil, x_var, x_c, x_def, List.getElem?_cons_succ, List.getElem?_cons_zero]
  refine ⟨_, rfl, by simp, sp_tupwithin (tv_d (bkD K)) (ob_up _) ⟨true, ?_, ?_⟩⟩
  · show T.bl (decide ((1 : Int) ≤ ((ups (K.map kd)).length : Nat)) && decide (((ups (K.map kd)).length : Int) ≤ 6)) = .bl true
    rw [hl, decide_eq_true (by omega), decide_eq_true (by omega)]
    rfl
  rw [Bool.not_true, if_neg Bool.false_ne_true]
  show b_book_error_4 _ [some (.d (bkD K)), none, none] _
  refine w_seq ⟨_, rfl, ?_⟩
  show goEnQ 1 2 b_book_error_2 _ 0 (ups (K.map kd)) [some (.d (bkD K)), none, none] _
  have en : badP kindB 0 (ups (K.map kd)) = none := badP_all fun x hx => by
    obtain ⟨k, gk, rfl⟩ := all_kinds g x hx
    exact kd_kind gk
  have loop : ∀ (E : Es) (xs : List Dt), (∀ x ∈ xs, ∃ k, GK k ∧ x = up (kd k)) → ∀ (j : Nat) a c, (∀ a c, E.nx [some (.d (bkD K)), a, c] ⟨D, []⟩) → goEnQ 1 2 b_book_error_2 E j xs [some (.d (bkD K)), a, c] ⟨D, []⟩ := by
    intro E xs
    induction xs with
    | nil => exact fun _ j a c qn => qn a c
    | cons x xs ih =>
      intro h j a c qn
      obtain ⟨k, gk, rfl⟩ := h x List.mem_cons_self
      show b_book_error_2 _ [some (.d (bkD K)), some (.int (j : Int)), some (inj (up (kd k)))] _
      refine w_if (w_bnot (w_test (w_call ?_)))
      simp only [x_acons, x_anil, x_var, x_def, List.getElem?_cons_succ, List.getElem?_cons_zero]
      refine ⟨_, rfl, by simp, sp_kindq (a := .int k.1) (b := .int k.2) rfl ⟨true, ?_, ?_⟩⟩
      · exact congrArg T.bl (kd_kind gk)
      rw [Bool.not_true, if_neg Bool.false_ne_true]
      exact ih (fun y hy => h y (List.mem_cons_of_mem _ hy)) (j + 1) _ _ qn
  exact loop _ _ (all_kinds g) 0 none none fun a c => ⟨rfl, q⟩
theorem w_setI {c f : Str} {o v : Me} {E : Es} {τ : En} {M : Mem} (h : v τ M fun y M1 => o τ M1 fun t M2 => ∃ n fs, t = .mr n ∧ M2.D[n]? = some (.ins c fs) ∧ noL y = true ∧ fs.length < 1000 ∧ E.nx τ { M2 with D := M2.D.set n (.ins c (putI f y fs)) }) : mSetI c f o v E τ M := h
theorem w_newD {r : Ma} {τ : En} {M : Mem} {Q : Kt} (h : r τ M fun ts M1 => ((∀ t ∈ ts, noL t = true) ∧ ts.length ≤ sizeLine) ∧ Q (.mr M1.D.length) { M1 with D := M1.D ++ [.lst ts] }) : mNewD r τ M Q := h
theorem clo_app {D C : List Cell} (h : clo D.length D) : clo D.length (D ++ C) := by
  unfold clo at h ⊢
  rw [List.take_left' rfl]
  rw [List.take_length] at h
  exact h
theorem w_setNew {D R : List Cell} {fs : List (Str × T)} {c f : Str} {L : List (Option (List PyData))} {r : Ma} {ts : List T} {E : Es} {τ : En} (h0 : τ[0]? = some (some (.mr D.length))) (hr : ∀ (M : Mem) (P : List T → Mem → Prop), P ts M → r τ M P) (hn : ∀ t ∈ ts, noL t = true) (hl : ts.length ≤ 1000) (hf : fs.length < 1000)
    (q : E.nx τ ⟨D ++ (Cell.ins c (putI f (.mr (D.length + (R.length + 1))) fs) :: (R ++ [Cell.lst ts])), L⟩) : mSetI c f (mVar 0) (mNewD r) E τ ⟨D ++ (Cell.ins c fs :: R), L⟩ := by
  refine w_setI (w_newD (hr _ _ ⟨⟨hn, sz64' (by omega)⟩, _, h0, D.length, fs, rfl, ?_, rfl, hf, ?_⟩))
  · show (D ++ _ ++ [_])[D.length]? = _
    rw [List.append_assoc, List.getElem?_append_right (Nat.le_refl _), Nat.sub_self]
    rfl
  · dsimp only
    rw [List.append_assoc, List.set_append_right _ _ (Nat.le_refl _), Nat.sub_self, List.length_append]
    exact q
theorem w_desk {D : List Cell} {K : Bk6} {L : List (Option (List PyData))} {τ : En} {Q : Kt} (g : GB K) (h0 : τ[0]? = some (some (.d (bkD K)))) (hc : clo D.length D) (q : Q (.q (.obj "Desk" ["!"] [])) ⟨D, L⟩) : mNewQ "Desk" d_Desk____init__ (aCons (mVar 0) aNil) τ ⟨D, L⟩ Q := by
  unfold mNewQ
  refine w_ac ⟨_, h0, w_an ⟨by simp, ?_⟩⟩
  refine ⟨rfl, ?_⟩
  show b_Desk____init___5 _ [some (.mr D.length), some (.d (bkD K)), none] _
  refine w_seq (w_set (w_call (w_ac ⟨_, rfl, w_an ⟨by simp, sp_bookok g ?_⟩⟩)))
  show b_Desk____init___4 _ [some (.mr D.length), some (.d (bkD K)), some (.d .none)] _
  refine w_seq (w_if (w_test (w_op ⟨_, rfl, w_c ⟨rfl, _, rfl, ?_⟩⟩)))
  refine ifF (by simp [isNonT]) (w_next ?_)
  show b_Desk____init___3 _ [some (.mr D.length), some (.d (bkD K)), some (.d .none)] ⟨D ++ [Cell.ins "Desk" []], []⟩
  refine w_seq (w_setNew rfl (ts := [.d (bkD K)]) (fun M P p => w_ac ⟨_, rfl, w_an p⟩) (by simp) (show 1 ≤ 1000 by decide) (by decide) ?_)
  refine w_seq (w_setNew rfl (ts := []) (fun M P p => w_an p) (by simp) (by decide) (show 1 < 1000 by decide) ?_)
  refine w_setNew rfl (ts := []) (fun M P p => w_an p) (by simp) (by decide) (show 2 < 1000 by decide) ?_
  refine ⟨rfl, ?_, clo_app hc, ?_, q⟩
  · exact List.take_left' rfl
  · rw [List.getElem?_append_right (Nat.le_refl _), Nat.sub_self]
    exact ⟨_, rfl⟩
theorem ri2 {D : List Cell} (h : RI D) : D.length = 2 ∧ ∀ C, clo 2 (D ++ C) := by
  obtain ⟨deep, cells, st, cn, rfl, _⟩ := h.ex
  refine ⟨rfl, fun C => ?_⟩
  show (List.take 2 [_, _]).all (Cell.lo 2) = true
  rw [show List.take 2 [Cell.lst (deep.map T.int), Cell.dct (rk cells st cn)] = [Cell.lst (deep.map T.int), Cell.dct (rk cells st cn)] from rfl]
  simp [Cell.lo, T.lo, rk]
theorem w_callC {d : FD} {ts : List T} {D C : List Cell} {L : List (Option (List PyData))} {Q : Kt} (hD : RI D) (ht : ∀ t ∈ ts, noL t = true ∧ T.lo 2 t = true) (h : d ts D fun t D' => D'.length = 2 ∧ Q t ⟨D' ++ C, L⟩) : fDefC d ts ⟨D ++ C, L⟩ Q := by
  obtain ⟨h1, h2⟩ := ri2 hD
  refine ⟨2, by show 2 ≤ (D ++ C).length; rw [List.length_append]; omega, h2 C, ht, ?_⟩
  show d ts ((D ++ C).take 2) fun t D' => D'.length = 2 ∧ Q t ⟨D' ++ (D ++ C).drop 2, L⟩
  rw [List.take_left' h1, List.drop_left' h1]
  exact h
theorem w_app {D : List Cell} {n : Nat} {us : List T} {t : T} {L : List (Option (List PyData))} {Q : Kt} (hn : n = D.length) (ht : noL t = true) (hl : us.length ≤ 1000) (q : Q .non ⟨D ++ [.lst (us ++ [t])], L⟩) : fApp (.mr n) [t] ⟨D ++ [.lst us], L⟩ Q := by
  subst hn
  unfold fApp
  dsimp only
  rw [List.getElem?_append_right (Nat.le_refl _), Nat.sub_self]
  refine ⟨ht, sz64 (by omega), ?_⟩
  rw [List.set_append_right _ _ (Nat.le_refl _), Nat.sub_self]
  exact q
theorem at_end {D : List Cell} {c : Cell} {n : Nat} (hn : n = D.length) : (D ++ [c])[n]? = some c := by
  subst hn
  rw [List.getElem?_append_right (Nat.le_refl _), Nat.sub_self]
  rfl
abbrev Ob (x : Dt) : Prop := x = .obj "Unfit" [] [] ∨ x = .obj "Desk" ["!"] []
def r1D : Dt := .lst [.str "form", .str "form", .str "form"]
def r2D : Dt := .lst [.tup [.str "number", .int 0], .tup [.str "place", .int 1], .tup [.str "piece", .int 0]]
def r3D : Dt := .lst [.tup [.str "piece", .int 1], .tup [.str "piece", .int 0]]
theorem inB0 {n : Nat} (h : 1 ≤ n) : inB 0 ((n : Int) - 1) (.int 0) = true := by
  simp [inB]
  omega
section
variable {n : Nat} {x : Dt}
theorem f_row {n : Nat} (hq : Ob x) (hn : 1 ≤ n) : rowF n (.tup [.int 0, x]) = .tup [.str "place", .int 1] := by
  rw [row_yes (by show 1 ≤ 2 ∧ 2 ≤ 100; decide)]
  unfold badP
  rw [if_pos (inB0 hn)]
  unfold badP
  rw [if_neg (by rcases hq with rfl | rfl <;> exact Bool.false_ne_true)]
  rfl
theorem row0 (hn : 1 ≤ n) : rowF n (.tup [.int 0]) = .non := by
  rw [row_yes (by show 1 ≤ 1 ∧ 1 ≤ 100; decide)]
  unfold badP
  rw [if_pos (inB0 hn)]
  rfl
theorem f_pc1 (hq : Ob x) : pcF n (.tup [.tup [x, .int 1]]) = .tup [.str "piece", .int 0] := by
  rw [pc_yes (by show 1 ≤ 1 ∧ 1 ≤ 20; decide)]
  unfold badP
  rw [if_neg (by rcases hq with rfl | rfl <;> exact Bool.false_ne_true)]
  rfl
theorem f_pc2 (hq : Ob x) (hn : 1 ≤ n) : pcF n (.tup [.tup [.tup [.int 0], .int 1], x]) = .tup [.str "piece", .int 1] := by
  rw [pc_yes (by show 1 ≤ 2 ∧ 2 ≤ 20; decide)]
  unfold badP
  rw [if_pos (by show (isNo (rowF n (.tup [.int 0])) && _) = true; rw [row0 hn]; decide)]
  unfold badP
  rw [if_neg (by rcases hq with rfl | rfl <;> exact Bool.false_ne_true)]
  rfl
theorem f_pc3 (hq : Ob x) : pcF n (.tup [.tup [.tup [.int 0], x]]) = .tup [.str "piece", .int 0] := by
  rw [pc_yes (by show 1 ≤ 1 ∧ 1 ≤ 20; decide)]
  unfold badP
  rw [if_neg (by
    show ¬ ((isNo (rowF n (.tup [.int 0])) && inB 1 1000000000000000000000000000000 x) = true)
    rcases hq with rfl | rfl <;> exact fun z => by simp [inB] at z)]
  rfl
theorem f_rec {x : Dt} (hq : Ob x) (hn : 1 ≤ n) : recF n (.tup (List.replicate ((n : Int).toNat) [x]).flatten) = .tup [.str "number", .int 0] := by
  have e : (List.replicate ((n : Int).toNat) [x]).flatten = x :: (List.replicate (n - 1) [x]).flatten := by
    rw [Int.toNat_natCast, show n = (n - 1) + 1 by omega, List.replicate_succ]
    rfl
  have hl : (x :: (List.replicate (n - 1) [x]).flatten).length = n := by
    rw [List.length_cons, rep_len]
    simp
    omega
  rw [e]
  refine (if_pos hl).trans ?_
  unfold badP
  rw [if_neg (by rcases hq with rfl | rfl <;> exact Bool.false_ne_true)]
  rfl
end
end K02
set_option Elab.async false
set_option linter.all false
set_option maxRecDepth 100000
set_option maxHeartbeats 1000000
namespace K02
open PySem PySem.Spec L2 L3 Sh Wm Yq Wl
theorem w_qrepT {xs : List Dt} {t : T} {j : Int} {M : Mem} {Q : Kt} (e : tq t = some (.tup xs)) (h : xs ≠ [] ∧ 1 ≤ j ∧ j ≤ 1000 ∧ xs.length ≤ 1000) (q : Q (.q (.tup (List.replicate j.toNat xs).flatten)) M) : oQRep t (.d (.int j)) M Q := by
  unfold oQRep
  rw [e]
  exact ⟨h, q⟩
theorem ob_rep {x : Dt} {n : Nat} (h : obB x = true) : obBs (List.replicate n [x]).flatten = true := ob_all fun y hy => by
  rw [List.mem_singleton.mp (rep_mem hy)]
  exact h
section
variable {K : Bk6} {D : List Cell}
abbrev Ra (K : Bk6) (a c d : Option T) (n : Nat) : En := [some (.d (bkD K)), some (.mr n), a, c, d]
theorem bk_len {K : Bk6} : (ups (K.map kd)).length = K.length := by rw [ups_len, List.length_map]
/-- a call of one of the three, told of a value -/
theorem c_rec {C : List Cell} {L : List (Option (List PyData))} {t : T} {x : Dt} {Q : Kt} (hD : RI D) (hv : Tv t x) (ho : obB x = true) (q : Q (inj (recF K.length x)) ⟨D ++ C, L⟩) : fDefC d_record_error [.d (bkD K), t] ⟨D ++ C, L⟩ Q := by
  refine w_callC hD (fun u hu => ?_) (sp_recerr (bs := ups (K.map kd)) rfl hv ho ⟨(ri2 hD).1, by rw [bk_len]; exact q⟩)
  rcases List.mem_cons.mp hu with e | e
  · rw [e]; exact ⟨rfl, rfl⟩
  · rw [List.mem_singleton.mp e]; exact ⟨noL_tv hv, lo_tv hv 2⟩
theorem c_row {C : List Cell} {L : List (Option (List PyData))} {t : T} {x : Dt} {Q : Kt} (hD : RI D) (hv : Tv t x) (ho : obB x = true) (q : Q (inj (rowF K.length x)) ⟨D ++ C, L⟩) : fDefC d_row_error [.d (bkD K), t] ⟨D ++ C, L⟩ Q := by
  refine w_callC hD (fun u hu => ?_) (sp_rowerr (bs := ups (K.map kd)) rfl hv ho ⟨(ri2 hD).1, by rw [bk_len]; exact q⟩)
  rcases List.mem_cons.mp hu with e | e
  · rw [e]; exact ⟨rfl, rfl⟩
  · rw [List.mem_singleton.mp e]; exact ⟨noL_tv hv, lo_tv hv 2⟩
theorem c_pcs {C : List Cell} {L : List (Option (List PyData))} {t : T} {x : Dt} {Q : Kt} (hD : RI D) (hv : Tv t x) (ho : obB x = true) (q : Q (inj (pcF K.length x)) ⟨D ++ C, L⟩) : fDefC d_pieces_error [.d (bkD K), t] ⟨D ++ C, L⟩ Q := by
  refine w_callC hD (fun u hu => ?_) (sp_pieceserr (bs := ups (K.map kd)) rfl hv ho ⟨(ri2 hD).1, by rw [bk_len]; exact q⟩)
  rcases List.mem_cons.mp hu with e | e
  · rw [e]; exact ⟨rfl, rfl⟩
  · rw [List.mem_singleton.mp e]; exact ⟨noL_tv hv, lo_tv hv 2⟩
theorem ref_3 {E : Es} {us : List T} {x : Dt} {c d : Option T} (hD : RI D) (g : GB K) (hq : Ob x) (hl : us.length ≤ 10)
    (q : ∀ c, E.nx (Ra K (some (inj x)) c d 2) ⟨D ++ [.lst (us ++ [.q r1D] ++ [.q r2D] ++ [.q r3D])], []⟩) : b__law_are_refused_3 E (Ra K (some (inj x)) c d 2) ⟨D ++ [.lst us], []⟩ := by
  have h6 := g.six
  have h1 : 0 < K.length := List.length_pos_iff.mpr g.ne
  have l2 := (ri2 hD).1
  have hx : obB x = true := by rcases hq with rfl | rfl <;> rfl
  have lenU : ∀ (u : T) (m : Nat), us.length + m ≤ 15 → (us ++ [u]).length + m ≤ 16 := fun u m h => by
    rw [List.length_append]
    show us.length + 1 + m ≤ 16
    omega
  refine w_seq ?_
  refine (?_ : mMeth _ _ _ _ _ _)
  rw [x_meth]
  refine ⟨_, rfl, ⟨_, at_end l2.symm⟩, ?_⟩
  refine w_ac (w_qlst ?_)
  simp only [x_acons, x_anil, x_call, x_var, List.getElem?_cons_succ, List.getElem?_cons_zero]
  refine ⟨_, rfl, _, rfl, c_rec hD (tv_inj x) hx ?_⟩
  refine ⟨_, rfl, _, rfl, c_row hD (tv_inj x) hx ?_⟩
  refine ⟨_, rfl, _, rfl, c_pcs hD (tv_inj x) hx ?_⟩
  refine ⟨[.str "form", .str "form", .str "form"], by rcases hq with rfl | rfl <;> rfl, sz3, ?_⟩
  refine w_app l2.symm rfl (by omega) ?_
  show b__law_are_refused_2 E (Ra K (some (inj x)) c d 2) ⟨D ++ [.lst (us ++ [.q r1D])], []⟩
  refine w_seq (w_set (w_call (w_ac ⟨_, rfl, w_ac (w_op (w_qtup (w_ac ⟨_, rfl, w_an ⟨[x], tqs_c (tq_inj x) rfl, sz1, w_call (w_ac ⟨_, rfl, w_an (w_qlenT (a := ups (K.map kd)) rfl ?_)⟩)⟩⟩)))⟩)))
  rw [bk_len]
  refine w_qrepT (xs := [x]) rfl ⟨by simp, by omega, by omega, show 1 ≤ 1000 by decide⟩ ?_
  refine w_an (c_rec hD (tv_inj (.tup (List.replicate ((K.length : Int)).toNat [x]).flatten)) (ob_rep hx) ?_)
  rw [f_rec hq h1]
  show b__law_are_refused_1 E (Ra K (some (inj x)) (some (.q (.tup [.str "number", .int 0]))) d 2) ⟨D ++ [.lst (us ++ [.q r1D])], []⟩
  refine w_seq ?_
  refine (?_ : mMeth _ _ _ _ _ _)
  rw [x_meth]
  refine ⟨_, rfl, ⟨_, at_end l2.symm⟩, ?_⟩
  refine w_ac (w_qlst ?_)
  simp only [x_acons, x_anil, x_call, x_var, x_c, mQTup, List.getElem?_cons_succ, List.getElem?_cons_zero]
  refine ⟨_, rfl, _, rfl, _, rfl, [.int 0, x], tqs_c rfl (tqs_c (tq_inj x) rfl), two_ok, ?_⟩
  refine c_row hD (tv_inj (.tup [.int 0, x])) (ob_t2 rfl hx) ?_
  rw [f_row hq h1]
  refine ⟨_, rfl, _, rfl, [x, .int 1], tqs_c (tq_inj x) rfl, two_ok, [.tup [x, .int 1]], rfl, sz1, ?_⟩
  refine c_pcs hD (tv_inj (.tup [.tup [x, .int 1]])) (ob_one (ob_t2 hx rfl)) ?_
  rw [f_pc1 hq]
  refine ⟨[.tup [.str "number", .int 0], .tup [.str "place", .int 1], .tup [.str "piece", .int 0]], rfl, sz3, ?_⟩
  refine w_app l2.symm rfl (by have := lenU (.q r1D) 0 (by omega); omega) ?_
  show b__law_are_refused_0 E (Ra K (some (inj x)) (some (.q (.tup [.str "number", .int 0]))) d 2) ⟨D ++ [.lst (us ++ [.q r1D] ++ [.q r2D])], []⟩
  refine (?_ : mMeth _ _ _ _ _ _)
  rw [x_meth]
  refine ⟨_, rfl, ⟨_, at_end l2.symm⟩, ?_⟩
  refine w_ac (w_qlst ?_)
  simp only [x_acons, x_anil, x_call, x_var, x_c, x_tup, x_dat0, x_dat1, Option.map_some, mQTup, List.getElem?_cons_succ, List.getElem?_cons_zero]
  refine ⟨_, rfl, sz1, two_ok, _, rfl, [.tup [.tup [.int 0], .int 1], x], tqs_c rfl (tqs_c (tq_inj x) rfl), two_ok, ?_⟩
  refine c_pcs hD (tv_inj (.tup [.tup [.tup [.int 0], .int 1], x])) (ob_t2 rfl hx) ?_
  rw [f_pc2 hq h1]
  refine ⟨_, rfl, sz1, _, rfl, [.tup [.int 0], x], tqs_c rfl (tqs_c (tq_inj x) rfl), two_ok, [.tup [.tup [.int 0], x]], rfl, sz1, ?_⟩
  refine c_pcs hD (tv_inj (.tup [.tup [.tup [.int 0], x]])) (ob_one (ob_t2 rfl hx)) ?_
  rw [f_pc3 hq]
  refine ⟨[.tup [.str "piece", .int 1], .tup [.str "piece", .int 0]], rfl, two_ok, ?_⟩
  refine w_app l2.symm rfl (by rw [List.length_append]; have := lenU (.q r1D) 1 (by omega); show _ + 1 ≤ _; omega) ?_
  exact q _
theorem sp_refused {Q : T → List Cell → Prop} (hD : RI D) (g : GB K) (q : Q (.bl true) D) : d__law_are_refused [.d (bkD K)] D Q := by
  have l2 := (ri2 hD).1
  have hc : clo D.length D := by
    have := (ri2 hD).2 []
    rw [List.append_nil] at this
    rw [l2]
    exact this
  have fin : ∀ M : Mem, (∃ X, M.D = D ++ [X]) → (fun (t : T) (M : Mem) => (∃ x, t = .d x) ∧ clo D.length M.D ∧ Q t (M.D.take D.length)) (.bl true) M := by
    rintro M ⟨X, e⟩
    refine ⟨⟨_, rfl⟩, ?_, ?_⟩
    · rw [e]
      exact clo_app hc
    · rw [e, List.take_left' rfl]
      exact q
  refine ⟨rfl, ?_⟩
  show b__law_are_refused_7 _ [some (.d (bkD K)), none, none, none, none] _
  refine w_seq (w_set (w_newD (w_an ⟨⟨by simp, sz64' (by decide)⟩, ?_⟩)))
  suffices key : ∀ E : Es, (∀ M : Mem, (∃ X, M.D = D ++ [X]) → E.rt (.bl true) M) → b__law_are_refused_6 E (Ra K none none none D.length) ⟨D ++ [.lst []], []⟩ from key _ fin
  intro E qe
  rw [l2]
  refine w_seq (w_for ?_)
  refine w_qtup ?_
  refine w_ac ?_
  unfold mMk0
  have hc3 : clo (D ++ [Cell.lst []]).length (D ++ [Cell.lst []]) := by
    unfold clo
    rw [List.take_length, List.length_append, l2]
    obtain ⟨deep, cells, st, cn, rfl, _⟩ := hD.ex
    rw [show rd deep cells st cn ++ [Cell.lst []] = [Cell.lst (deep.map T.int), Cell.dct (rk cells st cn), Cell.lst []] from rfl]
    simp [Cell.lo, T.lo, rk]
  refine w_ac (w_desk g rfl hc3 (w_an ⟨[.obj "Unfit" [] [], .obj "Desk" ["!"] []], rfl, two_ok, ?_⟩))
  dsimp only [tq]
  refine ref_3 (us := []) (x := .obj "Unfit" [] []) hD g (.inl rfl) (by decide) fun c => ?_
  refine ref_3 (x := .obj "Desk" ["!"] []) hD g (.inr rfl) (by decide) fun c => ?_
  show b__law_are_refused_5 E (Ra K (some (.q (.obj "Desk" ["!"] []))) c none 2) ⟨D ++ [.lst [.q r1D, .q r2D, .q r3D, .q r1D, .q r2D, .q r3D]], []⟩
  refine w_seq (w_set (w_lst ?_))
  simp only [x_acons, x_anil, x_op, x_lst, x_tup, x_c, x_dat0, x_dat1, Option.map_some]
  refine ⟨sz1, ⟨by omega, by omega, sz64' (by simp)⟩, two_ok, two_ok, two_ok, sz3, two_ok, two_ok, two_ok, sz3, ?_⟩
  suffices key : b__law_are_refused_4 E (Ra K (some (.q (.obj "Desk" ["!"] []))) c (some (.d (.list [.list [.str "form", .str "form", .str "form"], .list [.tuple [.str "number", .int 0], .tuple [.str "place", .int 1], .tuple [.str "piece", .int 0]], .list [.tuple [.str "piece", .int 1], .tuple [.str "piece", .int 0]]]))) 2) ⟨D ++ [.lst [.q r1D, .q r2D, .q r3D, .q r1D, .q r2D, .q r3D]], []⟩ from key
  obtain ⟨y, py, oy⟩ := (lnB_ok (by decide +kernel) : Ln 1000 5 (.lst [r1D, r2D, r3D, r1D, r2D, r3D])).ok (by omega) (by omega)
  refine w_ret (w_op (w_call (w_ac ⟨_, rfl, w_an (w_qreprM (x := .lst [r1D, r2D, r3D, r1D, r2D, r3D]) ?_ py oy ?_)⟩)))
  · unfold tqM
    dsimp only
    rw [at_end l2.symm]
    rfl
  refine w_call (w_ac (w_op ⟨_, rfl, w_c ⟨⟨by omega, by omega, sz64' (by simp)⟩, ?_⟩⟩))
  refine w_an (w_qrepr (x := .lst [r1D, r2D, r3D, r1D, r2D, r3D]) rfl py oy ?_)
  exact w_eqS (qe _ ⟨_, rfl⟩)
end
end K02
set_option Elab.async false
set_option linter.all false
set_option maxRecDepth 100000
set_option maxHeartbeats 1000000
namespace K02
open PySem PySem.Spec L2 L3 Sh Wm Yq Wl
/-- a value that is judged -/
def Vv (x : Dt) : Prop := obB x = true ∧ Ln 100000 20 x
theorem vv_ln {n k : Nat} {x : Dt} (h : Ln n k x) (hn : n ≤ 100000) (hk : k ≤ 20) (o : obB x = true) : Vv x := ⟨o, h.mono hn hk⟩
theorem vv_odr {n k : Nat} {y : Dt} (h : OdR n k y) (hn : n ≤ 40000) (hk : k ≤ 10) : Vv y := vv_ln h.2.1 (by omega) (by omega) h.1
abbrev Le (ns : List Int) (K : Bk6) (i : Nat) (l : List (Option T)) : En := some (.scr ns) :: some (.mr 1) :: some (.d (bkD K)) :: some (.int (i : Int)) :: l
theorem lcR_none {n i : Nat} {ds : List T} {c : Mb} {m : Me} {τ0 : En} {Q : List PyData → Mem → Prop} {M : Mem} (hn : M.D[n]? = some (.lst ds)) (h : ∀ t ∈ ds, ∀ R : Bool → Mem → Prop, R false M → c (τ0.set i (some t)) M R) (q : Q [] M) :
    ∀ ts : List T, (∀ t ∈ ts, t ∈ ds) → goLcR n ds (gN i) c m τ0 Q ts [] M
  | [], _ => q
  | t :: ts, hs => by
    show c (τ0.set i (some t)) M _
    refine h t (hs t List.mem_cons_self) _ ?_
    refine ifF Bool.false_ne_true ⟨hn, ?_⟩
    exact lcR_none hn h q ts fun u hu => hs u (List.mem_cons_of_mem _ hu)
theorem lb_ok {K : Bk6} (g : GB K) : Ln 1000 3 (.tup (ups (K.map kd))) := by
  have h6 := g.six
  have h := ln_all (l := ups (K.map kd)) (w := 71) (k := 1) fun x hx => by
    obtain ⟨k, gk, rfl⟩ := all_kinds g x hx
    have := gk.1
    have := gk.2.pos
    exact (ln_tup (ln_cons (ln_num (by omega)) (ln_one (ln_num (by omega))))).mono (by omega) (by omega)
  rw [bk_len] at h
  exact (ln_tup h).mono (by omega) (by omega)
section
variable {ns : List Int} {K : Bk6} {i : Nat} {D C : List Cell}
theorem test_all {w : Str} {r : Int} {s1 : Ms} {E : Es} {a4 a5 a6 a7 a9 a10 a11 a12 a13 a14 a15 : Option T} {n : Nat} {ts : List T} (hw : Wd3 w) (hD : RI D) (g : GB K) (hn : (D ++ C)[n]? = some (.lst ts)) (ht : ∀ t ∈ ts, ∃ x, Tv t x ∧ Vv x)
    (q : E.nx (Le ns K i [a4, a5, a6, a7, some (.mr n), a9, a10, a11, a12, a13, a14, a15]) ⟨D ++ C, []⟩) :
    mIf (mTest (mOp (oEq true) (mLcR (mVar 8) (gN 9) (bNot (mTest (mCall (fDefC d__law_is_told) (aCons (mC (.str w)) (aCons (mVar 2) (aCons (mVar 9) (aCons (mOp (oEq false) (mOp oMod (mVar 3) (mC (.int 3))) (mC (.int r))) aNil))))))) (mC (.int 1)) [9]) (mLst aNil))) s1 mNext E
      (Le ns K i [a4, a5, a6, a7, some (.mr n), a9, a10, a11, a12, a13, a14, a15]) ⟨D ++ C, []⟩ := by
  have h6 := g.six
  refine w_if (w_test (w_op ⟨_, rfl, n, ts, rfl, hn, ?_⟩))
  refine lcR_none hn (fun t htm R hR => ?_) ?_ ts fun t h => h
  · obtain ⟨x, hv, ho, hx⟩ := ht t htm
    refine w_bnot (w_test (w_call (w_ac (w_c (w_ac ⟨_, rfl, w_ac ⟨_, rfl, w_ac (w_op (w_op ⟨_, rfl, w_c ⟨(by decide : (0 : Int) < 3), w_c ?_⟩⟩))⟩⟩)))))
    rw [x_eqi]
    refine w_an (w_callC hD (fun u hu => ?_) (sp_told (bs := ups (K.map kd)) hw rfl (by rw [bk_len]; exact h6) (lb_ok g) hv ho hx (by omega) (by omega) ⟨(ri2 hD).1, true, rfl, hR⟩))
    rcases List.mem_cons.mp hu with e | hu
    · rw [e]; exact ⟨rfl, rfl⟩
    rcases List.mem_cons.mp hu with e | hu
    · rw [e]; exact ⟨rfl, rfl⟩
    rcases List.mem_cons.mp hu with e | hu
    · rw [e]; exact ⟨noL_tv hv, lo_tv hv 2⟩
    · rw [List.mem_singleton.mp hu]; exact ⟨rfl, rfl⟩
  · refine w_lst (w_an ⟨sz64' (by decide), ?_⟩)
    rw [x_eq (a := .list []) (b := .list []) rfl rfl (shaped_ints []) (shaped_ints []) (fun _ z => nomatch z), eqv_nil]
    exact ⟨false, rfl, ifF (by simp) (w_next q)⟩
/-- four of a row of values, one turned in each -/
theorem lc4 {j : Nat} {ES : Me} {τ : En} {xs es : List Dt} {rt : T} {n k : Nat} {Q : Kt} (h1 : ∀ u, ((wipeT τ [6]).set 6 (some u))[1]? = some (some (.mr 1))) (hj : ∀ u, ((wipeT τ [6]).set 6 (some u))[j]? = some (some rt))
    (hE : ∀ u (M : Mem) (R : Kt), (∀ et, tq et = some (.lst es) → R et M) → ES ((wipeT τ [6]).set 6 (some u)) M R) (hD : RI D) (hk : 1 ≤ k) (hn : n ≤ 90000) (hv : Tv rt (.tup xs)) (ho : obBs xs = true) (lx : LnA n k xs) (hes : ∀ e ∈ es, It e) (les : es.length ≤ 10)
    (q : ∀ acc D', acc.length = 4 → (∀ y ∈ acc, OdR n k y) → RI D' → Q (.q (.lst acc)) ⟨D' ++ C, []⟩) :
    mQLc (iRange (aCons (mC (.int 4)) aNil)) (gN 6) bYes (mCall (fDefC d__law_odd) (aCons (mVar 1) (aCons (mVar j) (aCons ES aNil)))) [6] τ ⟨D ++ C, []⟩ Q := by
  refine w_qlc ?_
  rw [x_irange]
  refine w_ac (w_c (w_an ⟨by decide, ?_⟩))
  refine lcQ_all (fun m acc M => ∃ D', M = ⟨D' ++ C, []⟩ ∧ RI D' ∧ acc.length = m ∧ ∀ y ∈ acc, OdR n k y) ⟨D, rfl, hD, rfl, fun x hx => nomatch hx⟩ ?_ ?_
  · rintro m acc M t R ht ⟨D', rfl, hD', hla, ha⟩ kk
    obtain ⟨hm, rfl⟩ := range_at ht
    have hm : m < 4 := hm
    rw [x_gn]
    refine w_yes (ifT rfl ?_)
    refine w_call (w_ac ⟨_, h1 _, w_ac ⟨_, hj _, w_ac (hE _ _ _ fun et he => w_an (w_callC hD' (fun u hu => ?_) (sp_odd hD' hk hn hv he ho lx hes les fun y D2 hy hD2 => ⟨(ri2 hD2).1, y, tq_inj y, sz64 (by omega), kk _ _ ⟨D2, rfl, hD2, by simp [hla], fun z hz => ?_⟩⟩)))⟩⟩)
    · rcases List.mem_cons.mp hu with e | hu
      · rw [e]; exact ⟨rfl, rfl⟩
      rcases List.mem_cons.mp hu with e | hu
      · rw [e]; exact ⟨noL_tv hv, lo_tv hv 2⟩
      · rw [List.mem_singleton.mp hu]; exact ⟨noL_tq he, lo_tq 2 he⟩
    · rcases List.mem_append.mp hz with h | h
      · exact ha z h
      · rw [List.mem_singleton.mp h]
        exact hy
  · rintro acc M ⟨D', rfl, hD', hla, ha⟩
    exact q acc D' hla ha hD'
theorem w_qslL {m : Me} {lo hi : Mo} {xs : List Dt} {t : T} {l u : Option Int} {τ : En} {M : Mem} {Q : Kt} (hm : ∀ R : Kt, R t M → m τ M R) (e : tq t = some (.lst xs)) (hl : ∀ R : Option Int → Mem → Prop, R l M → lo τ M R) (hu : ∀ R : Option Int → Mem → Prop, R u M → hi τ M R) (q : Q (.q (.lst (cutT xs l u))) M) : mQSl m lo hi τ M Q := by
  unfold mQSl
  refine hm _ (hl _ (hu _ ?_))
  unfold oQSl
  rw [e]
  exact q
/-- of the first two of them those that are tuples, turned once more -/
theorem lc2 {ES : Me} {τ : En} {xs es : List Dt} {n k : Nat} {Q : Kt} (h5 : τ[5]? = some (some (.q (.lst xs)))) (h1 : ∀ u, ((wipeT τ [7]).set 7 (some u))[1]? = some (some (.mr 1))) (hj : ∀ u, ((wipeT τ [7]).set 7 (some u))[7]? = some (some u))
    (hE : ∀ u (M : Mem) (R : Kt), (∀ et, tq et = some (.lst es) → R et M) → ES ((wipeT τ [7]).set 7 (some u)) M R) (hD : RI D) (hn : n ≤ 40000) (hx : ∀ y ∈ xs, OdR n k y) (hl : xs.length ≤ 100) (hes : ∀ e ∈ es, It e) (les : es.length ≤ 10)
    (q : ∀ acc D', acc.length ≤ 100 → (∀ y ∈ acc, OdR (2 * n + 500) (k + 1) y) → RI D' → Q (.q (.lst acc)) ⟨D' ++ C, []⟩) :
    mQLc (iQSeq (mQSl (mVar 5) oNone (oPart (mC (.int 2))))) (gN 7) (mTest (mQIsj "tuple" qt_tuple [("Desk", false)] (mVar 7))) (mCall (fDefC d__law_odd) (aCons (mVar 1) (aCons (mVar 7) (aCons ES aNil)))) [7] τ ⟨D ++ C, []⟩ Q := by
  refine w_qlc ?_
  refine w_qslL (fun R r => ⟨_, h5, r⟩) rfl p_none p_c ?_
  show goLcQ _ _ _ _ _ ((cutT xs none (some 2)).map inj) [] _
  have hcl := cutT_len xs none (some 2)
  refine lcQ_all (fun m acc M => ∃ D', M = ⟨D' ++ C, []⟩ ∧ RI D' ∧ acc.length ≤ m ∧ ∀ y ∈ acc, OdR (2 * n + 500) (k + 1) y) ⟨D, rfl, hD, Nat.le_refl _, fun x hx => nomatch hx⟩ ?_ ?_
  · rintro m acc M t R ht ⟨D', rfl, hD', hla, ha⟩ kk
    rw [List.getElem?_map] at ht
    obtain ⟨y, hy, rfl⟩ := Option.map_eq_some_iff.mp ht
    have hm : m < (cutT xs none (some 2)).length := (List.getElem?_eq_some_iff.mp hy).1
    have oy := hx y (cutT_mem (List.mem_of_getElem? hy))
    rw [x_gn]
    refine w_test (w_isTup (hj _) (tv_inj y) oy.1 ⟨_, rfl, ?_⟩)
    cases y with
    | tup ys =>
      refine ifT rfl ?_
      refine w_call (w_ac ⟨_, h1 _, w_ac ⟨_, hj _, w_ac (hE _ _ _ fun et he => w_an (w_callC hD' (fun u hu => ?_) (sp_odd (rt := inj (.tup ys)) hD' (by omega) (by omega) (tv_inj (.tup ys)) he oy.1 (oy.2.2 ys rfl) hes les fun z D2 hz hD2 => ⟨(ri2 hD2).1, z, tq_inj z, sz64 (by omega), kk _ _ ⟨D2, rfl, hD2, by simp; omega, fun v hv => ?_⟩⟩)))⟩⟩)
      · rcases List.mem_cons.mp hu with e | hu
        · rw [e]; exact ⟨rfl, rfl⟩
        rcases List.mem_cons.mp hu with e | hu
        · rw [e]; exact ⟨rfl, rfl⟩
        · rw [List.mem_singleton.mp hu]; exact ⟨noL_tq he, lo_tq 2 he⟩
      · rcases List.mem_append.mp hv with h | h
        · exact ha v h
        · rw [List.mem_singleton.mp h]
          exact hz
    | _ => exact ifF Bool.false_ne_true (kk _ _ ⟨D', rfl, hD', by omega, ha⟩)
  · rintro acc M ⟨D', rfl, hD', hla, ha⟩
    rw [List.length_map] at hla
    exact q acc D' (by omega) ha hD'
end
end K02
set_option Elab.async false
set_option linter.all false
set_option maxRecDepth 100000
set_option maxHeartbeats 1000000
namespace K02
open PySem PySem.Spec L2 L3 Sh Wm Yq Wl
theorem ln_rep {n k : Nat} {xs : List Dt} (h : LnA n k xs) : ∀ m : Nat, LnA (m * n) k (List.replicate m xs).flatten
  | 0 => by
    rw [Nat.zero_mul]
    exact ln_nil.mono (Nat.le_refl _) (Nat.zero_le _)
  | m + 1 => by
    rw [List.replicate_succ, List.flatten_cons, Nat.succ_mul]
    exact (ln_app h (ln_rep h m)).mono (by omega) (Nat.le_refl _)
theorem ob_repL {xs : List Dt} {n : Nat} (h : obBs xs = true) : obBs (List.replicate n xs).flatten = true := ob_all fun y hy => ob_mem h (rep_mem hy)
theorem rec_ln {K : Bk6} {N : List Int} (g : GB K) (gn : GN K N) : LnA 204 1 (ups (N.map .int)) := by
  have h6 := g.six
  have h := ln_all (l := ups (N.map .int)) (w := 32) (k := 1) fun x hx => by
    obtain ⟨y, hy, rfl⟩ := ups_mem hx
    obtain ⟨n, hn, rfl⟩ := List.mem_map.mp hy
    have := gn.ok n hn
    exact (ln_num (i := n) (by omega)).mono (Nat.le_refl _) (by omega)
  rw [ups_len, List.length_map, gn.len] at h
  exact h.mono (Nat.mul_le_mul_right 34 h6) (Nat.le_refl _)
theorem row_ln {K : Bk6} {r : List Nat} (g : GB K) (gr : GR K r) : LnA (4 * r.length) 1 (ups (r.map ix)) := by
  have h6 := g.six
  have h := ln_all (l := ups (r.map ix)) (w := 2) (k := 1) fun x hx => by
    obtain ⟨y, hy, rfl⟩ := ups_mem hx
    obtain ⟨n, hn, rfl⟩ := List.mem_map.mp hy
    have := gr.ok n hn
    exact (ln_int (i := (n : Int)) (k := 1) (by decide) (by decide) (by omega)).mono (Nat.le_refl _) (by omega)
  rw [ups_len, List.length_map] at h
  exact h.mono (by omega) (Nat.le_refl _)
theorem tvs_inj {l : List Dt} (h : ∀ x ∈ l, Vv x) : ∀ t ∈ l.map inj, ∃ x, Tv t x ∧ Vv x := fun t ht => by
  obtain ⟨x, hx, rfl⟩ := List.mem_map.mp ht
  exact ⟨x, tv_inj x, h x hx⟩
theorem w_frzM {t : T} {j : Nat} {τ : En} {M : Mem} {Q : Kt} (h : τ[j]? = some (some t)) (hn : noL t = true) (q : Q t M) : mFrz (mVar j) τ M Q := by
  refine ⟨t, h, ?_⟩
  cases t with
  | lr i => cases hn
  | _ => exact q
theorem w_qaddM {x y : T} {xs ys : List Dt} {M : Mem} {Q : Kt} (e1 : tqM x M = some (.lst xs)) (e2 : tqM y M = some (.lst ys)) (hl : xs.length + ys.length ≤ 100000) (q : Q (.mr M.D.length) { M with D := M.D ++ [.lst ((xs ++ ys).map inj)] }) : oQAddM x y M Q := ⟨xs, ys, e1, e2, sz64' hl, q⟩
theorem tqs_inj : ∀ l : List Dt, tqs (l.map inj) = some l
  | [] => rfl
  | x :: l => tqs_c (tq_inj x) (tqs_inj l)
theorem tqM_at {n : Nat} {l : List Dt} {M : Mem} (h : M.D[n]? = some (.lst (l.map inj))) : tqM (.mr n) M = some (.lst l) := by
  unfold tqM
  dsimp only
  rw [h]
  dsimp only
  rw [tqs_inj]
  rfl
section
variable {ns : List Int} {K : Bk6} {i : Nat} {D C : List Cell}
theorem p_m1 {τ : En} {M : Mem} : ∀ R : Option Int → Mem → Prop, R (some (-1)) M → oPart (mUn oNeg (mC (.int 1))) τ M R := fun R r => r
theorem p_lenb {j : Nat} {τ : En} {M : Mem} {bt : T} {bs : List Dt} (h : τ[j]? = some (some bt)) (e : tq bt = some (.tup bs)) : ∀ R : Option Int → Mem → Prop, R (some (bs.length : Int)) M → oPart (mCall fQLen (aCons (mVar j) aNil)) τ M R := fun R r => w_call (w_ac ⟨_, h, w_an (w_qlenT e r)⟩)
/-- the records -/
theorem law_25 {E : Es} {N : List Int} {a5 a6 a7 a8 a9 a10 a11 a12 a13 a14 a15 : Option T} (hD : RI D) (g : GB K) (gn : GN K N)
    (q : ∀ D' C' a5 a8, RI D' → b_law_20 E (Le ns K i [some (.d (recD N)), a5, a6, a7, a8, a9, a10, a11, a12, a13, a14, a15]) ⟨D' ++ C', []⟩) :
    b_law_25 E (Le ns K i [some (.d (recD N)), a5, a6, a7, a8, a9, a10, a11, a12, a13, a14, a15]) ⟨D ++ C, []⟩ := by
  have h6 := g.six
  have k1 : 0 < K.length := List.length_pos_iff.mpr g.ne
  have lx := rec_ln g gn
  have ho : obBs (ups (N.map .int)) = true := ob_ups _
  have hv : Tv (.d (recD N)) (.tup (ups (N.map .int))) := tv_d (recD N)
  have hlen : (ups (N.map .int)).length = K.length := by rw [ups_len, List.length_map, gn.len]
  refine w_seq (w_set (lc4 (es := [.int 1000000000000000000000000000001]) (fun _ => rfl) (fun _ => rfl) (fun u M R h => ?_) hD (by omega) (by omega) hv ho lx (all_c (it_ln (lnB_ok (by decide +kernel) : Ln 450 1 (.int 1000000000000000000000000000001)) (Nat.le_refl _) (by omega) rfl) all_n) (by decide) fun acc D1 hla ha hD1 => ?_))
  · refine w_lst ?_
    simp only [x_acons, x_anil, x_op, x_c]
    exact ⟨by unfold CPow; decide, sz1, h _ rfl⟩
  suffices key : b_law_24 E (Le ns K i [some (.d (recD N)), some (.q (.lst acc)), a6, a7, a8, a9, a10, a11, a12, a13, a14, a15]) ⟨D1 ++ C, []⟩ from key
  refine w_seq (w_set (w_op (w_op (w_frzM rfl rfl (lc2 (n := 204) (k := 1) (es := [.int (-1)]) rfl (fun _ => rfl) (fun _ => rfl) (fun u M R h => ?_) hD1 (by omega) ha (by omega) (all_c (it_ln (lnB_ok (by decide +kernel) : Ln 450 1 (.int (-1))) (Nat.le_refl _) (by omega) rfl) all_n) (by decide) fun acc2 D2 hl2 h2 hD2 => ?_)))))
  · refine w_lst ?_
    simp only [x_acons, x_anil, x_un, x_c]
    exact ⟨sz1, h _ rfl⟩
  refine w_qadd (a := acc) (b := acc2) rfl rfl (sz64' (by omega)) ?_
  refine w_qlst (w_ac ?_)
  refine w_qslT (t := .d (.tuple [.int (-1), .bool true])) (xs := [.int (-1), .bl true]) (fun R r => ?_) rfl p_none (p_lenb rfl rfl) ?_
  · refine w_tup ?_
    simp only [x_acons, x_anil, x_un, x_c]
    exact ⟨two_ok, r⟩
  refine w_an ⟨[.tup (cutT [.int (-1), .bl true] none (some ((ups (K.map kd)).length : Int)))], rfl, sz1, ?_⟩
  have c3 := cutT_len [Dt.int (-1), .bl true] none (some ((ups (K.map kd)).length : Int))
  have v3 : Vv (.tup (cutT [.int (-1), .bl true] none (some ((ups (K.map kd)).length : Int)))) := by
    have h : LnA 20 0 [Dt.int (-1), Dt.bl true] := (ln_cons (lnB_ok (by decide +kernel) : Ln 5 0 (.int (-1))) (ln_one (lnB_ok (by decide +kernel) : Ln 5 0 (.bl true)))).mono (by omega) (Nat.le_refl _)
    exact vv_ln (ln_tup (ln_cut h)) (by omega) (by omega) (ob_cut (xs := [.int (-1), .bl true]) rfl)
  generalize (Dt.tup (cutT [.int (-1), .bl true] none (some ((ups (K.map kd)).length : Int)))) = v at v3
  refine w_qaddM (xs := acc ++ acc2) (ys := [v]) rfl rfl (by rw [List.length_append]; show _ + 1 ≤ 100000; omega) ?_
  have vall : ∀ x ∈ acc ++ acc2 ++ [v], Vv x := all_a (all_a (fun x hx => vv_odr (ha x hx) (by omega) (by omega)) fun x hx => vv_odr (h2 x hx) (by omega) (by omega)) (all_c v3 all_n)
  have vlen : (acc ++ acc2 ++ [v]).length ≤ 200 := by
    rw [List.length_append, List.length_append]
    show acc.length + acc2.length + 1 ≤ 200
    omega
  generalize acc ++ acc2 ++ [v] = l5 at vall vlen
  dsimp only
  generalize hP : D2 ++ C = P
  generalize hn5 : P.length = n5
  suffices key : b_law_23 E (Le ns K i [some (.d (recD N)), some (.mr n5), a6, a7, a8, a9, a10, a11, a12, a13, a14, a15]) ⟨P ++ [.lst (l5.map inj)], []⟩ from key
  refine w_seq ?_
  refine (?_ : mMeth _ _ _ _ _ _)
  rw [x_meth]
  refine ⟨_, rfl, ⟨_, at_end hn5.symm⟩, ?_⟩
  refine w_ac (w_op (w_op (w_tup (w_ac (w_c (w_an ⟨sz1, w_qslT (fun R r => ⟨_, rfl, r⟩) hv.tq p_c p_m1 ?_⟩))))))
  have c4 := cutT_len (ups (N.map .int)) (some 1) (some (-1))
  refine w_qaddT (a := [.non]) rfl rfl (sz64' (show 1 + _ ≤ 100000 by omega)) ?_
  refine w_tup ?_
  simp only [x_acons, x_anil, x_op, x_c, x_dat0, x_dat1, Option.map_some]
  refine ⟨by unfold CPow; decide, sz1, ?_⟩
  refine w_qaddT (b := [.int 1000000000000000000000000000001]) rfl rfl (by rw [List.length_append]; exact sz64' (show 1 + _ + 1 ≤ 100000 by omega)) ?_
  have v4 : Vv (.tup ([.non] ++ cutT (ups (N.map .int)) (some 1) (some (-1)) ++ [.int 1000000000000000000000000000001])) :=
    vv_ln (ln_tup (ln_app (ln_app (ln_one (lnB_ok (by decide +kernel) : Ln 10 1 .non)) (ln_cut lx)) (ln_one (lnB_ok (by decide +kernel) : Ln 40 1 (.int 1000000000000000000000000000001))))) (by omega) (by omega) (ob_app (ob_app (ob_one rfl) (ob_cut ho)) (ob_one rfl))
  generalize hz : ([Dt.non] ++ cutT (ups (N.map .int)) (some 1) (some (-1)) ++ [Dt.int 1000000000000000000000000000001]) = z at v4
  refine w_app hn5.symm rfl (by rw [List.length_map]; omega) ?_
  have ec : l5.map inj ++ [T.q (Dt.tup z)] = (l5 ++ [Dt.tup z]).map inj := by
    rw [List.map_append]
    rfl
  rw [ec]
  have vall2 : ∀ x ∈ l5 ++ [.tup z], Vv x := all_a vall (all_c v4 all_n)
  have vlen2 : (l5 ++ [Dt.tup z]).length ≤ 201 := by
    rw [List.length_append]
    show l5.length + 1 ≤ 201
    omega
  generalize l5 ++ [Dt.tup z] = l6 at vall2 vlen2
  suffices key : b_law_22 E (Le ns K i [some (.d (recD N)), some (.mr n5), a6, a7, a8, a9, a10, a11, a12, a13, a14, a15]) ⟨P ++ [.lst (l6.map inj)], []⟩ from key
  refine w_seq (w_set (w_op (w_qlst ?_)))
  refine w_ac ⟨_, rfl, w_ac (w_op (w_tup (w_ac (w_c (w_an ⟨sz1, w_call (w_ac ⟨_, rfl, w_an (w_lenb (bs := ups (K.map kd)) rfl ?_)⟩)⟩)))))⟩
  rw [bk_len]
  refine w_qrepT (xs := [.int 0]) rfl ⟨by simp, by omega, by omega, show 1 ≤ 1000 by decide⟩ ?_
  refine w_ac (w_op (w_tup ?_))
  simp only [x_acons, x_anil, x_op, x_c, x_dat0, x_dat1, Option.map_some]
  refine ⟨by unfold CPow; decide, sz1, w_call (w_ac ⟨_, rfl, w_an (w_lenb (bs := ups (K.map kd)) rfl ?_)⟩)⟩
  rw [bk_len]
  refine w_qrepT (xs := [.int 1000000000000000000000000000000]) rfl ⟨by simp, by omega, by omega, show 1 ≤ 1000 by decide⟩ ?_
  refine ⟨[.tup (ups (N.map .int)), .tup (List.replicate ((K.length : Int).toNat) [.int 0]).flatten, .tup (List.replicate ((K.length : Int).toNat) [.int 1000000000000000000000000000000]).flatten], tqs_c hv.tq (tqs_c rfl (tqs_c rfl rfl)), sz3, ?_⟩
  refine w_frzM rfl rfl (w_qaddM rfl (tqM_at (at_end hn5.symm)) (by show 3 + _ ≤ _; omega) ?_)
  have e1 := ln_rep (ln_one (lnB_ok (by decide +kernel) : Ln 5 0 (.int 0))) ((K.length : Int).toNat)
  have e2 := ln_rep (ln_one (lnB_ok (by decide +kernel) : Ln 35 0 (.int 1000000000000000000000000000000))) ((K.length : Int).toNat)
  have tn : (K.length : Int).toNat ≤ 6 := by omega
  have vall3 : ∀ x ∈ [Dt.tup (ups (N.map .int)), .tup (List.replicate ((K.length : Int).toNat) [.int 0]).flatten, .tup (List.replicate ((K.length : Int).toNat) [.int 1000000000000000000000000000000]).flatten] ++ l6, Vv x := by
    refine all_a (all_c (vv_ln (ln_tup lx) (by omega) (by omega) ho) (all_c (vv_ln (ln_tup (e1.mono (Nat.mul_le_mul_right _ tn) (Nat.le_refl _))) (by omega) (by omega) (ob_rep rfl)) (all_c (vv_ln (ln_tup (e2.mono (Nat.mul_le_mul_right _ tn) (Nat.le_refl _))) (by omega) (by omega) (ob_rep rfl)) all_n))) vall2
  generalize ([Dt.tup (ups (N.map .int)), .tup (List.replicate ((K.length : Int).toNat) [.int 0]).flatten, .tup (List.replicate ((K.length : Int).toNat) [.int 1000000000000000000000000000000]).flatten] ++ l6) = l8 at vall3
  dsimp only
  subst hP
  rw [List.append_assoc, List.append_assoc]
  generalize hn8 : (D2 ++ (C ++ [Cell.lst (l6.map inj)])).length = n8
  have at8 : (D2 ++ (C ++ [Cell.lst (l6.map inj)] ++ [Cell.lst (l8.map inj)]))[n8]? = some (.lst (l8.map inj)) := by
    rw [← List.append_assoc]
    exact at_end hn8.symm
  suffices key : b_law_21 E (Le ns K i [some (.d (recD N)), some (.mr n5), a6, a7, some (.mr n8), a9, a10, a11, a12, a13, a14, a15]) ⟨D2 ++ (C ++ [Cell.lst (l6.map inj)] ++ [Cell.lst (l8.map inj)]), []⟩ from key
  refine w_seq (test_all (w := "record") (.inl rfl) hD2 g at8 (tvs_inj vall3) ?_)
  exact q D2 _ _ _ hD2
end
end K02
set_option Elab.async false
set_option linter.all false
set_option maxRecDepth 100000
set_option maxHeartbeats 1000000
namespace K02
open PySem PySem.Spec L2 L3 Sh Wm Yq Wl
section
variable {ns : List Int} {K : Bk6} {i : Nat} {D C : List Cell}
theorem row_ln' {K : Bk6} {r : List Nat} (g : GB K) (gr : GR K r) : LnA 400 1 (ups (r.map ix)) := (row_ln g gr).mono (by have := gr.hd; omega) (Nat.le_refl _)
theorem law_20 {E : Es} {a4 a5 a6 a7 a8 a9 a10 a11 a12 a13 a14 a15 : Option T} (hD : RI D) (g : GB K)
    (q : ∀ D' C' a5 a8 a10, RI D' → b_law_15 E (Le ns K i [a4, a5, a6, a7, a8, a9, a10, a11, a12, a13, a14, a15]) ⟨D' ++ C', []⟩) :
    b_law_20 E (Le ns K i [a4, a5, a6, a7, a8, a9, a10, a11, a12, a13, a14, a15]) ⟨D ++ C, []⟩ := by
  have h6 := g.six
  refine w_seq (w_set (w_call (w_ac ⟨_, rfl, w_ac ⟨_, rfl, w_ac (w_call (w_ac ⟨_, rfl, w_ac (w_lst ?_)⟩))⟩⟩)))
  simp only [x_acons, x_anil, x_c, x_dat0, x_dat1, Option.map_some]
  refine ⟨sz4', ?_⟩
  refine w_callC hD (by simp [noL, T.lo]) (sp_pick hD (by simp) (by simp) fun x D1 hx hD1 => ⟨(ri2 hD1).1, ?_⟩)
  obtain ⟨many, rfl, m1, m2⟩ : ∃ m : Int, x = .int m ∧ 1 ≤ m ∧ m ≤ 100 := by
    simp at hx
    rcases hx with rfl | rfl | rfl | rfl <;> exact ⟨_, rfl, by omega, by omega⟩
  refine w_callC hD1 (by simp [noL, T.lo]) (sp_row hD1 g m1 m2 fun r D2 gr hr hD2 => ⟨(ri2 hD2).1, ?_⟩)
  have lx := row_ln' g gr
  have ho : obBs (ups (r.map ix)) = true := ob_ups _
  have hv : Tv (.d (rowD r)) (.tup (ups (r.map ix))) := tv_d (rowD r)
  have hlen : (ups (r.map ix)).length = r.length := by rw [ups_len, List.length_map]
  have hr100 := gr.hd
  suffices key : b_law_19 E (Le ns K i [a4, a5, a6, a7, a8, a9, some (.d (rowD r)), a11, a12, a13, a14, a15]) ⟨D2 ++ C, []⟩ from key
  have i6 : It (.int (K.length : Int)) := it_ln (ln_num (by omega)) (by omega) (by omega) rfl
  refine w_seq (w_set (lc4 (n := 400) (k := 1) (es := [.int K.length, .int 6]) (fun _ => rfl) (fun _ => rfl) (fun u M R h => ?_) hD2 (by omega) (by omega) hv ho lx (all_c i6 (all_c (it_ln (lnB_ok (by decide +kernel) : Ln 450 1 (.int 6)) (Nat.le_refl _) (by omega) rfl) all_n)) (show 2 ≤ 10 by decide) fun acc D3 hla ha hD3 => ?_))
  · refine w_qlst (w_ac (w_call (w_ac ⟨_, rfl, w_an (w_lenb (bs := ups (K.map kd)) rfl ?_)⟩)))
    rw [bk_len]
    exact w_ac (w_c (w_an ⟨_, rfl, two_ok, h _ rfl⟩))
  suffices key : b_law_18 E (Le ns K i [a4, some (.q (.lst acc)), a6, a7, a8, a9, some (.d (rowD r)), a11, a12, a13, a14, a15]) ⟨D3 ++ C, []⟩ from key
  refine w_seq (w_set (w_op (w_frzM rfl rfl (lc2 (n := 400) (k := 1) (es := [.int K.length]) rfl (fun _ => rfl) (fun _ => rfl) (fun u M R h => ?_) hD3 (by omega) ha (by omega) (all_c i6 all_n) (show 1 ≤ 10 by decide) fun acc2 D4 hl2 h2 hD4 => ?_))))
  · refine w_qlst (w_ac (w_call (w_ac ⟨_, rfl, w_an (w_lenb (bs := ups (K.map kd)) rfl ?_)⟩)))
    rw [bk_len]
    exact w_an ⟨_, rfl, sz1, h _ rfl⟩
  refine w_qaddM (xs := acc) (ys := acc2) rfl rfl (by omega) ?_
  have vall : ∀ x ∈ acc ++ acc2, Vv x := all_a (fun x hx => vv_odr (ha x hx) (by omega) (by omega)) fun x hx => vv_odr (h2 x hx) (by omega) (by omega)
  have vlen : (acc ++ acc2).length ≤ 200 := by
    rw [List.length_append]
    omega
  generalize acc ++ acc2 = l6 at vall vlen
  dsimp only
  generalize hP : D4 ++ C = P
  generalize hn5 : P.length = n5
  suffices key : b_law_17 E (Le ns K i [a4, some (.mr n5), a6, a7, a8, a9, some (.d (rowD r)), a11, a12, a13, a14, a15]) ⟨P ++ [.lst (l6.map inj)], []⟩ from key
  have ne : ups (r.map ix) ≠ [] := by
    intro z
    have := congrArg List.length z
    rw [hlen] at this
    have := gr.ne
    exact gr.ne (List.eq_nil_of_length_eq_zero (by assumption))
  have lr := ln_rep lx ((101 : Int).toNat)
  have lrl : (List.replicate ((101 : Int).toNat) (ups (r.map ix))).flatten.length ≤ 10100 := by
    rw [rep_len, hlen]
    exact Nat.le_trans (Nat.mul_le_mul_left _ hr100) (by decide)
  have hrep : ∀ R : Kt, R (.q (.tup (List.replicate ((101 : Int).toNat) (ups (r.map ix))).flatten)) ⟨P ++ [.lst (l6.map inj)], []⟩ → mOp oQRep (mVar 10) (mC (.int 101)) (Le ns K i [a4, some (.mr n5), a6, a7, a8, a9, some (.d (rowD r)), a11, a12, a13, a14, a15]) ⟨P ++ [.lst (l6.map inj)], []⟩ R := fun R h =>
    w_op ⟨_, rfl, w_c (w_qrepT hv.tq ⟨ne, by decide, by decide, by omega⟩ h)⟩
  have c1 := cutT_len (List.replicate ((101 : Int).toNat) (ups (r.map ix))).flatten none (some 101)
  have c2 := cutT_len (List.replicate ((101 : Int).toNat) (ups (r.map ix))).flatten none (some 100)
  have c3 := cutT_len (ups (r.map ix)) none (some 50)
  have or : obBs (List.replicate ((101 : Int).toNat) (ups (r.map ix))).flatten = true := ob_repL ho
  generalize (List.replicate ((101 : Int).toNat) (ups (r.map ix))).flatten = rr at lr lrl hrep c1 c2 or
  refine w_seq (w_set (w_op (w_qlst ?_)))
  refine w_ac ⟨_, rfl, w_ac (w_qslT hrep rfl p_none p_c ?_)⟩
  refine w_ac (w_op (w_qslT (fun R r => ⟨_, rfl, r⟩) hv.tq p_none p_c ?_))
  refine w_qtup (w_ac (w_call (w_ac ⟨_, rfl, w_an (w_lenb (bs := ups (K.map kd)) rfl ?_)⟩)))
  rw [bk_len]
  simp only [x_acons, x_anil, x_un, x_c]
  refine ⟨[.int K.length, .int 0, .int (-1)], rfl, sz3, ?_⟩
  refine w_qaddT (b := [.int K.length, .int 0, .int (-1)]) rfl rfl (sz64' (show _ + 3 ≤ 100000 by omega)) ?_
  refine w_op (w_qslT hrep rfl p_none p_c ?_)
  refine w_tup ?_
  simp only [x_acons, x_anil, x_un, x_c, x_dat0, x_dat1, Option.map_some]
  refine ⟨sz1, ?_⟩
  refine w_qaddT (b := [.int (-1)]) rfl rfl (sz64' (show _ + 1 ≤ 100000 by omega)) ?_
  refine ⟨[.tup (ups (r.map ix)), .tup (cutT rr none (some 101)), .tup (cutT (ups (r.map ix)) none (some 50) ++ [.int K.length, .int 0, .int (-1)]), .tup (cutT rr none (some 100) ++ [.int (-1)])], tqs_c hv.tq (tqs_c rfl (tqs_c rfl (tqs_c rfl rfl))), sz4', ?_⟩
  refine w_frzM rfl rfl (w_qaddM rfl (tqM_at (at_end hn5.symm)) (by show 4 + _ ≤ _; omega) ?_)
  have t101 : ((101 : Int).toNat) = 101 := rfl
  rw [t101] at lr
  have lm : LnA 40 1 [Dt.int (-1)] := (ln_one (lnB_ok (by decide +kernel) : Ln 30 1 (.int (-1)))).mono (by omega) (Nat.le_refl _)
  have l3 : LnA 150 1 [Dt.int K.length, .int 0, .int (-1)] := (ln_cons ((ln_num (i := (K.length : Int)) (by omega)).mono (Nat.le_refl _) (Nat.zero_le 1)) (ln_cons (lnB_ok (by decide +kernel) : Ln 30 1 (.int 0)) lm)).mono (by omega) (Nat.le_refl _)
  have vall3 : ∀ x ∈ [Dt.tup (ups (r.map ix)), .tup (cutT rr none (some 101)), .tup (cutT (ups (r.map ix)) none (some 50) ++ [.int K.length, .int 0, .int (-1)]), .tup (cutT rr none (some 100) ++ [.int (-1)])] ++ l6, Vv x :=
    all_a (all_c (vv_ln (ln_tup lx) (by omega) (by omega) ho) (all_c (vv_ln (ln_tup (ln_cut lr)) (by omega) (by omega) (ob_cut or)) (all_c (vv_ln (ln_tup (ln_app (ln_cut lx) l3)) (by omega) (by omega) (ob_app (ob_cut ho) rfl)) (all_c (vv_ln (ln_tup (ln_app (ln_cut lr) lm)) (by omega) (by omega) (ob_app (ob_cut or) rfl)) all_n)))) vall
  generalize ([Dt.tup (ups (r.map ix)), .tup (cutT rr none (some 101)), .tup (cutT (ups (r.map ix)) none (some 50) ++ [.int K.length, .int 0, .int (-1)]), .tup (cutT rr none (some 100) ++ [.int (-1)])] ++ l6) = l8 at vall3
  dsimp only
  subst hP
  rw [List.append_assoc, List.append_assoc]
  generalize hn8 : (D4 ++ (C ++ [Cell.lst (l6.map inj)])).length = n8
  have at8 : (D4 ++ (C ++ [Cell.lst (l6.map inj)] ++ [Cell.lst (l8.map inj)]))[n8]? = some (.lst (l8.map inj)) := by
    rw [← List.append_assoc]
    exact at_end hn8.symm
  suffices key : b_law_16 E (Le ns K i [a4, some (.mr n5), a6, a7, some (.mr n8), a9, some (.d (rowD r)), a11, a12, a13, a14, a15]) ⟨D4 ++ (C ++ [Cell.lst (l6.map inj)] ++ [Cell.lst (l8.map inj)]), []⟩ from key
  refine w_seq (test_all (w := "row") (.inr (.inl rfl)) hD4 g at8 (tvs_inj vall3) ?_)
  exact q D4 _ _ _ _ hD4
end
end K02
set_option Elab.async false
set_option linter.all false
set_option maxRecDepth 100000
set_option maxHeartbeats 1000000
namespace K02
open PySem PySem.Spec L2 L3 Sh Wm Yq Wl
def pcD (p : List Nat × Int) : PyData := .tuple [rowD p.1, .int p.2]
structure GP (K : Bk6) (p : List Nat × Int) : Prop where
  r : GR K p.1
  l : p.1.length ≤ 4
  m : 1 ≤ p.2 ∧ p.2 ≤ 1000000000000000000000000000000
theorem pc_ln {K : Bk6} {p : List Nat × Int} (g : GB K) (gp : GP K p) : Ln 58 3 (up (pcD p)) := by
  have h1 : LnA 16 1 (ups (p.1.map ix)) := (row_ln g gp.r).mono (by have := gp.l; omega) (Nat.le_refl _)
  have h2 : Ln 32 2 (.int p.2) := (ln_num (by have := gp.m; omega)).mono (Nat.le_refl _) (by omega)
  exact (ln_tup (ln_cons (ln_tup h1) (ln_one h2))).mono (by omega) (Nat.le_refl _)
theorem pcs_ln {K : Bk6} {ps : List (List Nat × Int)} (g : GB K) (hp : ∀ p ∈ ps, GP K p) (hl : ps.length ≤ 20) : LnA 1200 3 (ups (ps.map pcD)) := by
  have h := ln_all (l := ups (ps.map pcD)) (w := 58) (k := 3) fun x hx => by
    obtain ⟨y, hy, rfl⟩ := ups_mem hx
    obtain ⟨p, h, rfl⟩ := List.mem_map.mp hy
    exact pc_ln g (hp p h)
  rw [ups_len, List.length_map] at h
  exact h.mono (by omega) (Nat.le_refl _)
/-- Ts of a deck list that are judged -/
structure TS (ts : List T) : Prop where
  ex : ∃ xs, tqs ts = some xs ∧ (∀ x ∈ xs, Vv x) ∧ ts.length = xs.length
  tv : ∀ t ∈ ts, ∃ x, Tv t x ∧ Vv x
theorem tqs_app : ∀ {ts us : List T} {xs ys : List Dt}, tqs ts = some xs → tqs us = some ys → tqs (ts ++ us) = some (xs ++ ys)
  | [], _, _, _, h, g => by
    cases h
    exact g
  | t :: ts, us, xs, ys, h, g => by
    unfold tqs at h
    split at h
    · rename_i x zs e1 e2
      cases h
      exact tqs_c e1 (tqs_app e2 g)
    · cases h
theorem ts_app {ts : List T} {t : T} {x : Dt} (h : TS ts) (hv : Tv t x) (vx : Vv x) : TS (ts ++ [t]) := by
  obtain ⟨xs, e, hx, hl⟩ := h.ex
  refine ⟨⟨xs ++ [x], tqs_app e (tqs_c hv.tq rfl), all_a hx (all_c vx all_n), by rw [List.length_append, List.length_append, hl]; rfl⟩, fun u hu => ?_⟩
  rcases List.mem_append.mp hu with h1 | h1
  · exact h.tv u h1
  · rw [List.mem_singleton.mp h1]
    exact ⟨x, hv, vx⟩
theorem ts_inj {l : List Dt} (h : ∀ x ∈ l, Vv x) : TS (l.map inj) := ⟨⟨l, tqs_inj l, h, List.length_map _⟩, tvs_inj h⟩
theorem tqM_ts {n : Nat} {ts : List T} {xs : List Dt} {M : Mem} (h : M.D[n]? = some (.lst ts)) (e : tqs ts = some xs) : tqM (.mr n) M = some (.lst xs) := by
  unfold tqM
  dsimp only
  rw [h]
  dsimp only
  rw [e]
  rfl
section
variable {ns : List Int} {K : Bk6} {i : Nat} {D C : List Cell}
/-- a piece turned -/
theorem law_4 {E : Es} {ps : List (List Nat × Int)} {j : Nat} {ts : List T} {a4 a5 a7 a9 a10 a11 a14 a15 : Option T} {n8 : Nat} (hD : RI D) (g : GB K) (hp : ∀ p ∈ ps, GP K p) (hl : ps.length ≤ 20) (hn : ps ≠ []) (hs : TS ts) (hts : ts.length ≤ 50) (h8 : n8 = D.length + C.length)
    (q : ∀ D' t x a5 a14, RI D' → Tv t x → Vv x → E.nx (Le ns K i [a4, a5, some (.int (j : Int)), a7, some (.mr n8), a9, a10, a11, some (.int (ps.length : Int)), some (.d (.tuple (ps.map pcD))), a14, a15]) ⟨D' ++ (C ++ [.lst (ts ++ [t])]), []⟩) :
    b_law_4 E (Le ns K i [a4, a5, some (.int (j : Int)), a7, some (.mr n8), a9, a10, a11, some (.int (ps.length : Int)), some (.d (.tuple (ps.map pcD))), a14, a15]) ⟨D ++ (C ++ [.lst ts]), []⟩ := by
  have h6 := g.six
  have h1 : 0 < ps.length := List.length_pos_iff.mpr hn
  have lx := pcs_ln g hp hl
  have ho : obBs (ups (ps.map pcD)) = true := ob_ups _
  have hlen : (ups (ps.map pcD)).length = ps.length := by rw [ups_len, List.length_map]
  refine w_seq (w_set (w_call (w_ac ⟨_, rfl, w_ac ⟨_, rfl, w_an (w_callC hD (by simp [noL, T.lo]) (sp_draw hD (by omega) (by omega) fun z D1 z0 z1 hD1 => ⟨(ri2 hD1).1, ?_⟩))⟩⟩)))
  obtain ⟨m, rfl⟩ : ∃ m : Nat, z = m := ⟨z.toNat, by omega⟩
  have hm : m < ps.length := by omega
  suffices key : b_law_3 E (Le ns K i [a4, a5, some (.int (j : Int)), a7, some (.mr n8), a9, a10, a11, some (.int (ps.length : Int)), some (.d (.tuple (ps.map pcD))), some (.int (m : Int)), a15]) ⟨D1 ++ (C ++ [.lst ts]), []⟩ from key
  have gp := hp _ (List.getElem_mem hm)
  have em : (ups (ps.map pcD))[m]? = some (.tup [.tup (ups (ps[m].1.map ix)), .int ps[m].2]) := by
    rw [ups_map, List.getElem?_map, List.getElem?_eq_getElem hm]
    rfl
  have c1 := cutT_len (ups (ps.map pcD)) none (some (m : Int))
  have c2 := cutT_len (ups (ps.map pcD)) (some ((m : Int) + 1)) none
  refine w_seq (w_set (w_op (w_op (w_qslT (t := .d (.tuple (ps.map pcD))) (xs := ups (ps.map pcD)) (fun R r => ⟨_, rfl, r⟩) rfl p_none (p_v rfl) ?_))))
  refine w_qtup (w_ac (w_call (w_ac ⟨_, rfl, w_ac ⟨_, rfl, w_ac (w_op ⟨_, rfl, _, rfl, w_qixT (a := ups (ps.map pcD)) rfl (by omega) ?_⟩)⟩⟩)))
  rw [List.getElem?_eq_getElem (by omega)] at em
  rw [Option.some.inj em]
  have lri : LnA 200 1 (ups (ps[m].1.map ix)) := (row_ln g gp.r).mono (by have := gp.l; omega) (Nat.le_refl _)
  refine w_an (w_callC hD1 (fun u hu => ?_) (sp_oddpiece (bs := ups (K.map kd)) hD1 rfl (by rw [bk_len]; exact h6) (tv_inj (.tup [.tup (ups (ps[m].1.map ix)), .int ps[m].2])) (ob_ups _) lri gp.m fun y D2 hy hD2 => ⟨(ri2 hD2).1, ?_⟩))
  · rcases List.mem_cons.mp hu with e | hu
    · rw [e]; exact ⟨rfl, rfl⟩
    rcases List.mem_cons.mp hu with e | hu
    · rw [e]; exact ⟨rfl, rfl⟩
    · rw [List.mem_singleton.mp hu]; exact ⟨rfl, rfl⟩
  refine w_an ⟨[y], tqs_c (tq_inj y) rfl, sz1, ?_⟩
  refine w_qaddT (b := [y]) rfl rfl (sz64' (show _ + 1 ≤ 100000 by omega)) ?_
  refine w_qslT (t := .d (.tuple (ps.map pcD))) (xs := ups (ps.map pcD)) (fun R r => ⟨_, rfl, r⟩) rfl (p_v1 rfl) p_none ?_
  refine w_qaddT rfl rfl (by rw [List.length_append]; exact sz64' (show _ + 1 + _ ≤ 100000 by omega)) ?_
  have lo : LnA 4000 5 (cutT (ups (ps.map pcD)) none (some (m : Int)) ++ [y] ++ cutT (ups (ps.map pcD)) (some ((m : Int) + 1)) none) := (ln_app (ln_app ((ln_cut lx).mono (Nat.le_refl _) (by omega)) (ln_one hy.1)) ((ln_cut lx).mono (Nat.le_refl _) (by omega))).mono (by omega) (Nat.le_refl _)
  have oo : obBs (cutT (ups (ps.map pcD)) none (some (m : Int)) ++ [y] ++ cutT (ups (ps.map pcD)) (some ((m : Int) + 1)) none) = true := ob_app (ob_app (ob_cut ho) (ob_one hy.2)) (ob_cut ho)
  have ol : (cutT (ups (ps.map pcD)) none (some (m : Int)) ++ [y] ++ cutT (ups (ps.map pcD)) (some ((m : Int) + 1)) none).length ≤ 100 := by
    rw [List.length_append, List.length_append]
    show _ + 1 + _ ≤ 100
    omega
  generalize cutT (ups (ps.map pcD)) none (some (m : Int)) ++ [y] ++ cutT (ups (ps.map pcD)) (some ((m : Int) + 1)) none = od at lo oo ol
  have l2 : n8 = D2.length + C.length := by rw [h8, (ri2 hD2).1, (ri2 hD).1]
  suffices key : b_law_2 E (Le ns K i [a4, some (.q (.tup od)), some (.int (j : Int)), a7, some (.mr n8), a9, a10, a11, some (.int (ps.length : Int)), some (.d (.tuple (ps.map pcD))), some (.int (m : Int)), a15]) ⟨D2 ++ (C ++ [.lst ts]), []⟩ from key
  have ap : ∀ t x, Tv t x → Vv x → fApp (.mr n8) [t] ⟨D2 ++ (C ++ [.lst ts]), []⟩ fun _ M => E.nx (Le ns K i [a4, some (.q (.tup od)), some (.int (j : Int)), a7, some (.mr n8), a9, a10, a11, some (.int (ps.length : Int)), some (.d (.tuple (ps.map pcD))), some (.int (m : Int)), a15]) M := fun t x hv vx => by
    rw [← List.append_assoc]
    refine w_app (by rw [List.length_append]; exact l2) (noL_tv hv) (by omega) ?_
    rw [List.append_assoc]
    exact q D2 t x _ _ hD2 hv vx
  refine (?_ : mMeth _ _ _ _ _ _)
  rw [x_meth]
  refine ⟨_, rfl, ⟨ts, ?_⟩, ?_⟩
  · show (D2 ++ (C ++ [Cell.lst ts]))[n8]? = _
    rw [← List.append_assoc]
    exact at_end (by rw [List.length_append]; exact l2)
  refine w_ac ?_
  rw [x_ite]
  refine w_test (w_op ⟨_, rfl, w_c ?_⟩)
  rw [x_eqi]
  refine ⟨_, rfl, ?_⟩
  by_cases h3 : (j : Int) = 3
  · refine ifT (by simp [h3]) ?_
    refine w_op (w_frzM rfl rfl (w_tup (w_ac (w_c (w_an ⟨sz1, w_qaddT (a := od) (b := [.non]) rfl rfl (sz64' (show _ + 1 ≤ 100000 by omega)) ?_⟩)))))
    refine w_an (ap _ (.tup (od ++ [Dt.non])) (tv_inj (.tup (od ++ [Dt.non]))) (vv_ln (ln_tup (ln_app lo (ln_one (lnB_ok (by decide +kernel) : Ln 10 5 .non)))) (by omega) (by omega) (ob_app oo rfl)))
  · refine ifF (by simp [h3]) ?_
    exact w_frzM rfl rfl (w_an (ap _ (.tup od) (tv_inj (.tup od)) (vv_ln (ln_tup lo) (by omega) (by omega) oo)))
end
end K02
set_option Elab.async false
set_option linter.all false
set_option maxRecDepth 100000
set_option maxHeartbeats 1000000
namespace K02
open PySem PySem.Spec L2 L3 Sh Wm Yq Wl
section
variable {ns : List Int} {K : Bk6} {i : Nat} {D C : List Cell}
/-- behind the pieces that were turned -/
theorem law_10 {E : Es} {ps : List (List Nat × Int)} {ts : List T} {a4 a5 a6 a7 a9 a10 a11 a12 a14 a15 : Option T} {n8 : Nat} (hD : RI D) (g : GB K) (hp : ∀ p ∈ ps, GP K p) (hl : ps.length ≤ 20) (hn : ps ≠ []) (hs : TS ts) (hts : ts.length ≤ 50) (h8 : n8 = D.length + C.length)
    (q : ∀ D' C' a5 a6 a8 a14 a15, RI D' → E.nx (Le ns K i [a4, a5, a6, a7, a8, a9, a10, a11, a12, some (.d (.tuple (ps.map pcD))), a14, a15]) ⟨D' ++ C', []⟩) :
    b_law_10 E (Le ns K i [a4, a5, a6, a7, some (.mr n8), a9, a10, a11, a12, some (.d (.tuple (ps.map pcD))), a14, a15]) ⟨D ++ (C ++ [.lst ts]), []⟩ := by
  have h6 := g.six
  have lx := pcs_ln g hp hl
  have ho : obBs (ups (ps.map pcD)) = true := ob_ups _
  have hv : Tv (.d (.tuple (ps.map pcD))) (.tup (ups (ps.map pcD))) := tv_d (.tuple (ps.map pcD))
  have hlen : (ups (ps.map pcD)).length = ps.length := by rw [ups_len, List.length_map]
  refine w_seq (w_set (w_call (w_ac ⟨_, rfl, w_ac ⟨_, rfl, w_ac (w_call (w_ac ⟨_, rfl, w_ac (w_lst ?_)⟩))⟩⟩)))
  simp only [x_acons, x_anil, x_c, x_dat0, x_dat1, Option.map_some]
  refine ⟨sz3, ?_⟩
  refine w_callC hD (by simp [noL, T.lo]) (sp_pick hD (by simp) (by simp) fun x D1 hx hD1 => ⟨(ri2 hD1).1, ?_⟩)
  obtain ⟨many, rfl, m1, m2⟩ : ∃ m : Int, x = .int m ∧ 1 ≤ m ∧ m ≤ 100 := by
    simp at hx
    rcases hx with rfl | rfl | rfl <;> exact ⟨_, rfl, by omega, by omega⟩
  refine w_callC hD1 (by simp [noL, T.lo]) (sp_row hD1 g m1 m2 fun r D2 gr hr hD2 => ⟨(ri2 hD2).1, ?_⟩)
  have lr := row_ln' g gr
  have or : obBs (ups (r.map ix)) = true := ob_ups _
  have rv : Tv (.d (rowD r)) (.tup (ups (r.map ix))) := tv_d (rowD r)
  have rlen : (ups (r.map ix)).length = r.length := by rw [ups_len, List.length_map]
  have hr100 := gr.hd
  have l2 : n8 = D2.length + C.length := by rw [h8, (ri2 hD2).1, (ri2 hD).1]
  suffices key : b_law_9 E (Le ns K i [a4, a5, a6, a7, some (.mr n8), a9, a10, a11, a12, some (.d (.tuple (ps.map pcD))), a14, some (.d (rowD r))]) ⟨D2 ++ (C ++ [.lst ts]), []⟩ from key
  have c2 := cutT_len (ups (ps.map pcD)) none (some 2)
  have c64 := cutT_len (ups (r.map ix)) none (some 64)
  obtain ⟨xs, ets, hxs, lxs⟩ := hs.ex
  have at8 : (D2 ++ (C ++ [Cell.lst ts]))[n8]? = some (.lst ts) := by
    rw [← List.append_assoc]
    exact at_end (by rw [List.length_append]; exact l2)
  have lone : LnA 40 2 [Dt.int 1] := ln_one (lnB_ok (by decide +kernel) : Ln 38 2 (.int 1))
  have lsev : LnA 40 2 [Dt.int 7] := ln_one (lnB_ok (by decide +kernel) : Ln 38 2 (.int 7))
  refine w_seq (w_set (w_op ⟨_, rfl, w_qlst ?_⟩))
  refine w_ac (w_qtup (w_ac (w_qtup (w_ac ⟨_, rfl, w_ac (w_c (w_an ⟨[.tup (ups (r.map ix)), .int 7], tqs_c rv.tq rfl, two_ok, w_an ⟨[.tup [.tup (ups (r.map ix)), .int 7]], rfl, sz1, ?_⟩⟩))⟩))))
  refine w_ac (w_op (w_qslT (fun R r => ⟨_, rfl, r⟩) hv.tq p_none p_c ?_))
  refine w_qtup (w_ac (w_qtup (w_ac ⟨_, rfl, w_ac (w_c (w_an ⟨[.tup (ups (r.map ix)), .int 1], tqs_c rv.tq rfl, two_ok, ?_⟩))⟩)))
  refine w_ac (w_qtup (w_ac (w_op ⟨_, rfl, _, rfl, w_qaddT rv.tq rv.tq (sz64' (by omega)) ?_⟩)))
  refine w_ac (w_c (w_an ⟨[.tup (ups (r.map ix) ++ ups (r.map ix)), .int 1], rfl, two_ok, w_an ⟨[.tup [.tup (ups (r.map ix)), .int 1], .tup [.tup (ups (r.map ix) ++ ups (r.map ix)), .int 1]], rfl, two_ok, ?_⟩⟩))
  refine w_qaddT (b := [.tup [.tup (ups (r.map ix)), .int 1], .tup [.tup (ups (r.map ix) ++ ups (r.map ix)), .int 1]]) rfl rfl (sz64' (show _ + 2 ≤ 100000 by omega)) ?_
  refine w_an ⟨[.tup [.tup [.tup (ups (r.map ix)), .int 7]], .tup (cutT (ups (ps.map pcD)) none (some 2) ++ [.tup [.tup (ups (r.map ix)), .int 1], .tup [.tup (ups (r.map ix) ++ ups (r.map ix)), .int 1]])], rfl, two_ok, ?_⟩
  refine w_qaddM (tqM_ts at8 ets) rfl (by rw [← lxs]; show _ + 2 ≤ _; omega) ?_
  have lp7 : Ln 460 3 (.tup [.tup (ups (r.map ix)), .int 7]) := (ln_tup (ln_cons (ln_tup lr) lsev)).mono (by omega) (by omega)
  have lp1 : Ln 460 3 (.tup [.tup (ups (r.map ix)), .int 1]) := (ln_tup (ln_cons (ln_tup lr) lone)).mono (by omega) (by omega)
  have lpd : Ln 860 3 (.tup [.tup (ups (r.map ix) ++ ups (r.map ix)), .int 1]) := (ln_tup (ln_cons (ln_tup (ln_app lr lr)) lone)).mono (by omega) (by omega)
  have o7 : obB (.tup [.tup (ups (r.map ix)), .int 7]) = true := ob_t2 or rfl
  have o1 : obB (.tup [.tup (ups (r.map ix)), .int 1]) = true := ob_t2 or rfl
  have od : obB (.tup [.tup (ups (r.map ix) ++ ups (r.map ix)), .int 1]) = true := ob_t2 (ob_app or or) rfl
  have vnew : ∀ x ∈ xs ++ [.tup [.tup [.tup (ups (r.map ix)), .int 7]], .tup (cutT (ups (ps.map pcD)) none (some 2) ++ [.tup [.tup (ups (r.map ix)), .int 1], .tup [.tup (ups (r.map ix) ++ ups (r.map ix)), .int 1]])], Vv x :=
    all_a hxs (all_c (vv_ln (ln_tup (ln_one lp7)) (by omega) (by omega) (ob_one o7)) (all_c (vv_ln (ln_tup (ln_app (ln_cut lx) (ln_cons lp1 (ln_one lpd)))) (by omega) (by omega) (ob_app (ob_cut ho) (ob_t2 o1 od))) all_n))
  have lnew : (xs ++ [Dt.tup [.tup [.tup (ups (r.map ix)), .int 7]], .tup (cutT (ups (ps.map pcD)) none (some 2) ++ [.tup [.tup (ups (r.map ix)), .int 1], .tup [.tup (ups (r.map ix) ++ ups (r.map ix)), .int 1]])]).length ≤ 60 := by
    rw [List.length_append, ← lxs]
    show _ + 2 ≤ 60
    omega
  generalize (xs ++ [Dt.tup [.tup [.tup (ups (r.map ix)), .int 7]], .tup (cutT (ups (ps.map pcD)) none (some 2) ++ [.tup [.tup (ups (r.map ix)), .int 1], .tup [.tup (ups (r.map ix) ++ ups (r.map ix)), .int 1]])]) = l9 at vnew lnew
  dsimp only
  generalize hC : C ++ [Cell.lst ts] = C9
  generalize hn9 : (D2 ++ C9).length = n9
  suffices key : b_law_8 E (Le ns K i [a4, a5, a6, a7, some (.mr n9), a9, a10, a11, a12, some (.d (.tuple (ps.map pcD))), a14, some (.d (rowD r))]) ⟨(D2 ++ C9) ++ [.lst (l9.map inj)], []⟩ from key
  refine w_seq ?_
  refine (?_ : mMeth _ _ _ _ _ _)
  rw [x_meth]
  refine ⟨_, rfl, ⟨_, at_end hn9.symm⟩, ?_⟩
  refine w_ac (w_op (w_qslT (fun R r => ⟨_, rfl, r⟩) hv.tq p_none p_c ?_))
  refine w_qtup (w_ac (w_qtup (w_ac (w_op (w_qslT (fun R r => ⟨_, rfl, r⟩) rv.tq p_none p_c ?_)))))
  refine w_tup ?_
  simp only [x_acons, x_anil, x_un, x_c, x_dat0, x_dat1, Option.map_some]
  refine ⟨sz1, ?_⟩
  refine w_qaddT (b := [.int (-1)]) rfl rfl (sz64' (show _ + 1 ≤ 100000 by omega)) ?_
  refine ⟨[.tup (cutT (ups (r.map ix)) none (some 64) ++ [.int (-1)]), .int 1], rfl, two_ok, [.tup [.tup (cutT (ups (r.map ix)) none (some 64) ++ [.int (-1)]), .int 1]], rfl, sz1, ?_⟩
  refine w_qaddT (b := [.tup [.tup (cutT (ups (r.map ix)) none (some 64) ++ [.int (-1)]), .int 1]]) rfl rfl (sz64' (show _ + 1 ≤ 100000 by omega)) ?_
  have lm1 : LnA 40 1 [Dt.int (-1)] := (ln_one (lnB_ok (by decide +kernel) : Ln 30 1 (.int (-1)))).mono (by omega) (Nat.le_refl _)
  have v10 : Vv (.tup (cutT (ups (ps.map pcD)) none (some 2) ++ [.tup [.tup (cutT (ups (r.map ix)) none (some 64) ++ [.int (-1)]), .int 1]])) :=
    vv_ln (ln_tup (ln_app (ln_cut lx) (ln_one (ln_tup (ln_cons (ln_tup (ln_app (ln_cut lr) lm1)) lone))))) (by omega) (by omega) (ob_app (ob_cut ho) (ob_one (ob_t2 (ob_app (ob_cut or) rfl) rfl)))
  generalize hz : (cutT (ups (ps.map pcD)) none (some 2) ++ [Dt.tup [.tup (cutT (ups (r.map ix)) none (some 64) ++ [.int (-1)]), .int 1]]) = z at v10
  refine w_app hn9.symm rfl (by rw [List.length_map]; omega) ?_
  have ts10 : TS (l9.map inj ++ [.q (.tup z)]) := ts_app (ts_inj vnew) (tv_inj (.tup z)) v10
  have tl10 : (l9.map inj ++ [T.q (Dt.tup z)]).length ≤ 70 := by
    rw [List.length_append, List.length_map]
    show _ + 1 ≤ 70
    omega
  generalize (l9.map inj ++ [T.q (Dt.tup z)]) = t10 at ts10 tl10
  rw [List.append_assoc]
  suffices key : b_law_7 E (Le ns K i [a4, a5, a6, a7, some (.mr n9), a9, a10, a11, a12, some (.d (.tuple (ps.map pcD))), a14, some (.d (rowD r))]) ⟨D2 ++ (C9 ++ [.lst t10]), []⟩ from key
  refine w_seq ?_
  refine (?_ : mMeth _ _ _ _ _ _)
  rw [x_meth]
  have at9 : ∀ {D' : List Cell}, RI D' → ∀ c, (D' ++ (C9 ++ [c]))[n9]? = some c := fun {D'} h c => by
    rw [← List.append_assoc]
    refine at_end ?_
    rw [← hn9, List.length_append, List.length_append, (ri2 h).1, (ri2 hD2).1]
  refine ⟨_, rfl, ⟨_, at9 hD2 _⟩, ?_⟩
  refine w_ac (w_call (w_ac ⟨_, rfl, w_ac ⟨_, rfl, w_ac (w_lst ?_)⟩⟩))
  simp only [x_acons, x_anil, x_tup, x_c, x_dat0, x_dat1, Option.map_some]
  refine ⟨sz1, two_ok, sz1, ?_⟩
  have ie : It (.tup [.tup [.int 0], .int 1]) := it_ln (lnB_ok (by decide +kernel) : Ln 450 2 (.tup [.tup [.int 0], .int 1])) (Nat.le_refl _) (Nat.le_refl _) rfl
  refine w_callC hD2 (by simp [noL, T.lo]) (sp_odd (es := [.tup [.tup [.int 0], .int 1]]) hD2 (by omega) (by omega) hv rfl ho lx (all_c ie all_n) (by decide) fun y D3 hy hD3 => ⟨(ri2 hD3).1, ?_⟩)
  rw [← List.append_assoc]
  refine w_app (by rw [← hn9, List.length_append, List.length_append, (ri2 hD3).1, (ri2 hD2).1]) (noL_inj y) (by omega) ?_
  rw [List.append_assoc]
  have ts11 : TS (t10 ++ [inj y]) := ts_app ts10 (tv_inj y) (vv_odr hy (by omega) (by omega))
  suffices key : b_law_6 E (Le ns K i [a4, a5, a6, a7, some (.mr n9), a9, a10, a11, a12, some (.d (.tuple (ps.map pcD))), a14, some (.d (rowD r))]) ⟨D3 ++ (C9 ++ [.lst (t10 ++ [inj y])]), []⟩ from key
  refine test_all (w := "pieces") (.inr (.inr rfl)) hD3 g (at9 hD3 _) ts11.tv ?_
  exact q D3 _ _ _ _ _ _ hD3
end
end K02
set_option Elab.async false
set_option linter.all false
set_option maxRecDepth 100000
set_option maxHeartbeats 1000000
namespace K02
open PySem PySem.Spec L2 L3 Sh Wm Yq Wl
section
variable {ns : List Int} {K : Bk6} {i : Nat} {D C : List Cell}
theorem law_12 {E : Es} {ps : List (List Nat × Int)} {a4 a5 a6 a7 a8 a9 a10 a11 a14 a15 : Option T} (hD : RI D) (g : GB K) (hp : ∀ p ∈ ps, GP K p) (hl : ps.length ≤ 20) (hn : ps ≠ [])
    (q : ∀ D' C' a5 a6 a8 a14 a15, RI D' → E.nx (Le ns K i [a4, a5, a6, a7, a8, a9, a10, a11, some (.int (ps.length : Int)), some (.d (.tuple (ps.map pcD))), a14, a15]) ⟨D' ++ C', []⟩) :
    b_law_12 E (Le ns K i [a4, a5, a6, a7, a8, a9, a10, a11, some (.int (ps.length : Int)), some (.d (.tuple (ps.map pcD))), a14, a15]) ⟨D ++ C, []⟩ := by
  have lx := pcs_ln g hp hl
  have ho : obBs (ups (ps.map pcD)) = true := ob_ups _
  have hv : Tv (.d (.tuple (ps.map pcD))) (.tup (ups (ps.map pcD))) := tv_d (.tuple (ps.map pcD))
  have hlen : (ups (ps.map pcD)).length = ps.length := by rw [ups_len, List.length_map]
  have h1 : 0 < ps.length := List.length_pos_iff.mpr hn
  have ne : ups (ps.map pcD) ≠ [] := by
    intro z
    have := congrArg List.length z
    rw [hlen, List.length_nil] at this
    omega
  refine w_seq (w_set (w_newD (w_ac ⟨_, rfl, w_ac (w_op ⟨_, rfl, w_c (w_qrepT hv.tq ⟨ne, by decide, by decide, by omega⟩ (w_an ⟨⟨?_, two_ok⟩, ?_⟩))⟩)⟩)))
  · intro t ht
    rcases List.mem_cons.mp ht with e | e
    · rw [e]; rfl
    · rw [List.mem_singleton.mp e]; rfl
  have e : (D ++ C).length = D.length + C.length := List.length_append
  dsimp only
  rw [e, List.append_assoc]
  have lr := ln_rep lx ((21 : Int).toNat)
  have t21 : ((21 : Int).toNat) = 21 := rfl
  rw [t21] at lr
  have ts0 : TS [T.d (.tuple (ps.map pcD)), .q (.tup (List.replicate ((21 : Int).toNat) (ups (ps.map pcD))).flatten)] :=
    ⟨⟨[.tup (ups (ps.map pcD)), .tup (List.replicate ((21 : Int).toNat) (ups (ps.map pcD))).flatten], rfl, all_c (vv_ln (ln_tup lx) (by omega) (by omega) ho) (all_c (vv_ln (ln_tup lr) (by omega) (by omega) (ob_repL ho)) all_n), rfl⟩, fun t ht => by
      rcases List.mem_cons.mp ht with e | e
      · rw [e]
        exact ⟨_, hv, vv_ln (ln_tup lx) (by omega) (by omega) ho⟩
      · rw [List.mem_singleton.mp e]
        exact ⟨_, tv_inj (.tup (List.replicate ((21 : Int).toNat) (ups (ps.map pcD))).flatten), vv_ln (ln_tup lr) (by omega) (by omega) (ob_repL ho)⟩⟩
  have tl0 : [T.d (.tuple (ps.map pcD)), .q (.tup (List.replicate ((21 : Int).toNat) (ups (ps.map pcD))).flatten)].length = 2 := rfl
  generalize [T.d (.tuple (ps.map pcD)), .q (.tup (List.replicate ((21 : Int).toNat) (ups (ps.map pcD))).flatten)] = t0 at ts0 tl0
  suffices key : b_law_11 E (Le ns K i [a4, a5, a6, a7, some (.mr (D.length + C.length)), a9, a10, a11, some (.int (ps.length : Int)), some (.d (.tuple (ps.map pcD))), a14, a15]) ⟨D ++ (C ++ [.lst t0]), []⟩ from key
  refine w_seq (w_for ?_)
  rw [x_irange]
  refine w_ac (w_c (w_an ⟨by decide, ?_⟩))
  have l2 := (ri2 hD).1
  refine for_all (fun j τ M => ∃ D' ts a5 a6 a14, M = ⟨D' ++ (C ++ [.lst ts]), []⟩ ∧ RI D' ∧ TS ts ∧ ts.length ≤ 2 + j ∧ τ = Le ns K i [a4, a5, a6, a7, some (.mr (D.length + C.length)), a9, a10, a11, some (.int (ps.length : Int)), some (.d (.tuple (ps.map pcD))), a14, a15]) ⟨D, t0, _, _, _, rfl, hD, ts0, by omega, rfl⟩ ?_ ?_
  · rintro j τ M t R ht ⟨D', ts, b5, b6, b14, rfl, hD', hts, htl, rfl⟩ k
    obtain ⟨hj, rfl⟩ := range_at ht
    have hj : j < 4 := hj
    rw [x_gn]
    suffices key : ∀ E : Es, (∀ D2 t x a5 a14, RI D2 → Tv t x → Vv x → E.nx (Le ns K i [a4, a5, some (.int (j : Int)), a7, some (.mr (D.length + C.length)), a9, a10, a11, some (.int (ps.length : Int)), some (.d (.tuple (ps.map pcD))), a14, a15]) ⟨D2 ++ (C ++ [.lst (ts ++ [t])]), []⟩) → b_law_4 E (Le ns K i [a4, b5, some (.int (j : Int)), a7, some (.mr (D.length + C.length)), a9, a10, a11, some (.int (ps.length : Int)), some (.d (.tuple (ps.map pcD))), b14, a15]) ⟨D' ++ (C ++ [.lst ts]), []⟩ from key _ fun D2 t x a5 a14 hD2 tv vx => k _ _ ⟨D2, ts ++ [t], _, _, _, rfl, hD2, ts_app hts tv vx, by rw [List.length_append]; show _ + 1 ≤ _; omega, rfl⟩
    intro E q
    exact law_4 hD' g hp hl hn hts (by omega) (by rw [l2, (ri2 hD').1]) q
  · rintro τ M ⟨D', ts, b5, b6, b14, rfl, hD', hts, htl, rfl⟩
    have htl : ts.length ≤ 6 := htl
    exact law_10 hD' g hp hl hn hts (by omega) (by rw [l2, (ri2 hD').1]) fun D2 C2 a5 a6 a8 a14 a15 h => q D2 C2 _ _ _ _ _ h
theorem law_15 {E : Es} {a4 a5 a6 a7 a8 a9 a10 a11 a12 a13 a14 a15 : Option T} (hD : RI D) (g : GB K)
    (q : ∀ D' C' a5 a6 a8 a11 a12 a13 a14 a15, RI D' → E.nx (Le ns K i [a4, a5, a6, a7, a8, a9, a10, a11, a12, a13, a14, a15]) ⟨D' ++ C', []⟩) :
    b_law_15 E (Le ns K i [a4, a5, a6, a7, a8, a9, a10, a11, a12, a13, a14, a15]) ⟨D ++ C, []⟩ := by
  have h6 := g.six
  refine w_seq (w_set (w_lst ?_))
  refine w_ac (w_c (w_ac (w_op (w_c (w_c ⟨by unfold CPow; decide, ?_⟩)))))
  refine w_ac (w_op (w_c (w_call (w_ac ⟨_, rfl, w_ac (w_c (w_an (w_callC hD (by simp [noL, T.lo]) (sp_draw hD (by decide) (by decide) fun z D1 z0 z1 hD1 => ⟨(ri2 hD1).1, ?_⟩))))⟩))))
  rw [x_add]
  refine w_an ⟨sz3, ?_⟩
  suffices key : b_law_14 E (Le ns K i [a4, a5, a6, a7, a8, a9, a10, some (.d (.list [.int 1, .int 1000000000000000000000000000000, .int (1 + z)])), a12, a13, a14, a15]) ⟨D1 ++ C, []⟩ from key
  refine w_seq (w_set (w_call (w_ac ⟨_, rfl, w_ac (w_lst ?_)⟩)))
  simp only [x_acons, x_anil, x_c, x_dat0, x_dat1, Option.map_some]
  refine ⟨sz4', ?_⟩
  refine w_callC hD1 (by simp [noL, T.lo]) (sp_pick hD1 (by simp) (by simp) fun x D2 hx hD2 => ⟨(ri2 hD2).1, ?_⟩)
  obtain ⟨many, rfl, m1, m2⟩ : ∃ m : Nat, x = .int m ∧ 1 ≤ m ∧ m ≤ 20 := by
    simp at hx
    rcases hx with rfl | rfl | rfl | rfl
    · exact ⟨1, rfl, by omega, by omega⟩
    · exact ⟨2, rfl, by omega, by omega⟩
    · exact ⟨3, rfl, by omega, by omega⟩
    · exact ⟨20, rfl, by omega, by omega⟩
  suffices key : b_law_13 E (Le ns K i [a4, a5, a6, a7, a8, a9, a10, some (.d (.list [.int 1, .int 1000000000000000000000000000000, .int (1 + z)])), some (.int (many : Int)), a13, a14, a15]) ⟨D2 ++ C, []⟩ from key
  refine w_seq (w_set (w_call (w_ac (w_lc ?_))))
  rw [x_irange]
  refine w_ac ⟨_, rfl, w_an ⟨⟨by omega, by omega⟩, ?_⟩⟩
  rw [Int.toNat_natCast]
  refine lc_all (fun j acc M => ∃ D' ps, M = ⟨D' ++ C, []⟩ ∧ RI D' ∧ acc = ps.map pcD ∧ ps.length = j ∧ ∀ p ∈ ps, GP K p) ⟨D2, [], rfl, hD2, rfl, rfl, fun p hp => nomatch hp⟩ ?_ ?_
  · rintro j acc M t R ht ⟨D', ps, rfl, hD', rfl, hps, hp⟩ k
    obtain ⟨hj, rfl⟩ := range_at ht
    rw [x_gn]
    refine w_yes (ifT rfl (w_tup (w_ac (w_call (w_ac ⟨_, rfl, w_ac ⟨_, rfl, w_ac (w_op (w_c (w_call (w_ac ⟨_, rfl, w_ac (w_c (w_an (w_callC hD' (by simp [noL, T.lo]) (sp_draw hD' (by decide) (by decide) fun y D3 y0 y1 hD3 => ⟨(ri2 hD3).1, ?_⟩))))⟩))))⟩⟩)))))
    rw [x_add]
    refine w_an (w_callC hD3 (by simp [noL, T.lo]) (sp_row hD3 g (by omega) (by omega) fun r D4 gr hr hD4 => ⟨(ri2 hD4).1, ?_⟩))
    refine w_ac (w_call (w_ac ⟨_, rfl, w_ac ⟨_, rfl, w_an (w_callC hD4 (by simp [noL, T.lo]) (sp_pick hD4 (by simp) (by simp) fun x D5 hx hD5 => ⟨(ri2 hD5).1, ?_⟩))⟩⟩))
    obtain ⟨m, rfl, m1', m2'⟩ : ∃ m : Int, x = .int m ∧ 1 ≤ m ∧ m ≤ 1000000000000000000000000000000 := by
      simp at hx
      rcases hx with rfl | rfl | rfl <;> exact ⟨_, rfl, by omega, by omega⟩
    refine w_an ⟨two_ok, ?_⟩
    refine ⟨sz64 (by rw [List.length_map]; omega), k _ _ ⟨D5, ps ++ [(r, m)], rfl, hD5, by rw [List.map_append]; rfl, by rw [List.length_append, hps]; rfl, fun p hp' => ?_⟩⟩
    rcases List.mem_append.mp hp' with h | h
    · exact hp p h
    · rw [List.mem_singleton.mp h]
      exact ⟨gr, by show r.length ≤ 4; omega, m1', m2'⟩
  · rintro acc M ⟨D', ps, rfl, hD', rfl, hps, hp⟩
    rw [range_len] at hps
    refine w_an ?_
    show fTuple [.d (.list (ps.map pcD))] _ _
    rw [x_tupl]
    subst hps
    suffices key : b_law_12 E (Le ns K i [a4, a5, a6, a7, a8, a9, a10, some (.d (.list [.int 1, .int 1000000000000000000000000000000, .int (1 + z)])), some (.int (ps.length : Int)), some (.d (.tuple (ps.map pcD))), a14, a15]) ⟨D' ++ C, []⟩ from key
    exact law_12 hD' g hp m2 (List.length_pos_iff.mp m1) fun D3 C3 a5 a6 a8 a14 a15 h => q D3 C3 _ _ _ _ _ _ _ _ h
theorem w_qaddI {i j : Int} {M : Mem} {Q : Kt} (q : Q (.int (i + j)) M) : oQAdd (.d (.int i)) (.d (.int j)) M Q := q
theorem law_27 {E : Es} {bt a4 a5 a6 a7 a8 a9 a10 a11 a12 a13 a14 a15 : Option T} (hD : RI D)
    (q : ∀ D' C' K a4 a5 a6 a8 a10 a11 a12 a13 a14 a15, GB K → RI D' → E.nx (Le ns K i [a4, a5, a6, a7, a8, a9, a10, a11, a12, a13, a14, a15]) ⟨D' ++ C', []⟩) :
    b_law_27 E (some (.scr ns) :: some (.mr 1) :: bt :: some (.int (i : Int)) :: [a4, a5, a6, a7, a8, a9, a10, a11, a12, a13, a14, a15]) ⟨D ++ C, []⟩ := by
  refine w_seq (w_set (w_call (w_ac ⟨_, rfl, w_ac (w_op (w_c (w_call (w_ac ⟨_, rfl, w_ac (w_c (w_an (w_callC hD (by simp [noL, T.lo]) (sp_draw hD (by decide) (by decide) fun n D1 n0 n1 hD1 => ⟨(ri2 hD1).1, ?_⟩))))⟩))))⟩)))
  refine w_qaddI ?_
  refine w_an (w_callC hD1 (by simp [noL, T.lo]) (sp_book hD1 (by omega) (by omega) fun K D2 g hK hD2 => ⟨(ri2 hD2).1, ?_⟩))
  suffices key : b_law_26 E (Le ns K i [a4, a5, a6, a7, a8, a9, a10, a11, a12, a13, a14, a15]) ⟨D2 ++ C, []⟩ from key
  refine w_seq (w_set (w_call (w_ac ⟨_, rfl, w_ac ⟨_, rfl, w_an (w_callC hD2 (by simp [noL, T.lo]) (sp_record hD2 g fun N D3 gn hD3 => ⟨(ri2 hD3).1, ?_⟩))⟩⟩)))
  suffices key : b_law_25 E (Le ns K i [some (.d (recD N)), a5, a6, a7, a8, a9, a10, a11, a12, a13, a14, a15]) ⟨D3 ++ C, []⟩ from key
  refine law_25 hD3 g gn fun D4 C4 a5 a8 hD4 => ?_
  refine law_20 hD4 g fun D5 C5 a5 a8 a10 hD5 => ?_
  exact law_15 hD5 g fun D6 C6 a5 a6 a8 a11 a12 a13 a14 a15 hD6 => q D6 C6 K _ _ _ _ _ _ _ _ _ _ g hD6
end
theorem gb1 : GB [(1, 1)] := ⟨by simp, by simp, fun k hk => by
  simp at hk
  subst hk
  exact ⟨⟨by decide, by decide⟩, by unfold Al; decide⟩⟩
theorem law_30 {E : Es} {ns : List Int} (h : ns.length ≤ 63) (q : ∀ M, E.rt (.bl true) M) : b_law_30 E [some (.scr ns), none, none, none, none, none, none, none, none, none, none, none, none, none, none, none] ⟨[], []⟩ := by
  refine w_seq (w_par ?_)
  refine w_ac (w_call (w_ac ⟨_, rfl, w_an ⟨by simp, sp_reel h fun D hD => ?_⟩⟩))
  refine w_ac (w_tup (w_ac (w_tup (w_ac (w_c (w_ac (w_c (w_an ⟨two_ok, w_an ⟨sz1, ?_⟩⟩))))))))
  suffices key : ∀ D, RI D → b_law_29 E (some (.scr ns) :: some (.mr 1) :: some (.d (bkD [(1, 1)])) :: none :: [none, none, none, none, none, none, none, none, none, none, none, none]) ⟨D, []⟩ from key D hD
  intro D hD
  refine w_seq (w_for ?_)
  rw [x_irange]
  refine w_ac (w_c (w_an ⟨by decide, ?_⟩))
  refine for_all (fun i τ M => ∃ D' C K t a4 a5 a6 a7 a8 a9 a10 a11 a12 a13 a14 a15, M = ⟨D' ++ C, []⟩ ∧ RI D' ∧ GB K ∧ τ = some (.scr ns) :: some (.mr 1) :: some (.d (bkD K)) :: t :: [a4, a5, a6, a7, a8, a9, a10, a11, a12, a13, a14, a15]) ⟨D, [], [(1, 1)], none, none, none, none, none, none, none, none, none, none, none, none, none, by rw [List.append_nil], hD, gb1, rfl⟩ ?_ ?_
  · rintro i τ M t R ht ⟨D', C, K, u, a4, a5, a6, a7, a8, a9, a10, a11, a12, a13, a14, a15, rfl, hD', g, rfl⟩ k
    obtain ⟨hi, rfl⟩ := range_at ht
    rw [x_gn]
    suffices key : ∀ E : Es, (∀ D' C' K a4 a5 a6 a8 a10 a11 a12 a13 a14 a15, GB K → RI D' → E.nx (Le ns K i [a4, a5, a6, a7, a8, a9, a10, a11, a12, a13, a14, a15]) ⟨D' ++ C', []⟩) → b_law_27 E (some (.scr ns) :: some (.mr 1) :: some (.d (bkD K)) :: some (.int (i : Int)) :: [a4, a5, a6, a7, a8, a9, a10, a11, a12, a13, a14, a15]) ⟨D' ++ C, []⟩ from key _ fun D2 C2 K2 a4 a5 a6 a8 a10 a11 a12 a13 a14 a15 g2 hD2 => k _ _ ⟨D2, C2, K2, _, a4, a5, a6, a7, a8, a9, a10, a11, a12, a13, a14, a15, rfl, hD2, g2, rfl⟩
    intro E q
    exact law_27 hD' q
  · rintro τ M ⟨D', C, K, u, a4, a5, a6, a7, a8, a9, a10, a11, a12, a13, a14, a15, rfl, hD', g, rfl⟩
    suffices key : b_law_28 E (some (.scr ns) :: some (.mr 1) :: some (.d (bkD K)) :: u :: [a4, a5, a6, a7, a8, a9, a10, a11, a12, a13, a14, a15]) ⟨D' ++ C, []⟩ from key
    refine w_ret (w_call (w_ac ⟨_, rfl, w_an (w_callC hD' (by simp [noL, T.lo]) (sp_refused hD' g ⟨(ri2 hD').1, q _⟩))⟩))
theorem law_true (ns : List Int) (h : ns.length ≤ 63) : d_law [.scr ns] [] fun t _ => t = T.bl true := by
  refine ⟨rfl, ?_⟩
  refine law_30 (E := { nx := fun _ M => clo 0 M.D ∧ T.non = T.bl true, rt := fun t M => (∃ x, t = .d x) ∧ clo 0 M.D ∧ t = T.bl true }) h fun M => ?_
  exact ⟨⟨_, rfl⟩, rfl, rfl⟩
end K02
set_option Elab.async false
set_option linter.all false
set_option maxRecDepth 100000
open PySem PySem.W PyProof.Rows
set_option maxHeartbeats 0 in
theorem PySem.Challenge.cw_fallingfields_k02_records_rows_and_piece_holds : PySem.Challenge.rw_fallingfields_k02_records_rows_and_piece.Holds := by
  w_on; o_law; k_head; (case hw => w_witness2)
  k_fill
  refine L3.walkG (l := PySem.Challenge.rw_fallingfields_k02_records_rows_and_piece) (n := 63) (k := 9) (x := "script") (m := K02.d_law) rfl (by decide) rfl ⟨rfl, by decide, by decide⟩ (fun w h Y => PySem.W.kIn_of Y) ?F K02.law_true
  case F =>
    intro w mg fa h KX G hmg
    refine' K02.all_mk KX G hmg ?a0 ?l0 ?c0 ?k0 ?a1 ?l1 ?c1 ?k1 ?a2 ?l2 ?c2 ?k2 ?a3 ?l3 ?c3 ?k3 ?a4 ?l4 ?c4 ?k4 ?a5 ?l5 ?c5 ?k5 ?a7 ?l7 ?c7 ?k7 ?a8 ?l8 ?c8 ?k8 ?a9 ?l9 ?c9 ?k9 ?a10 ?l10 ?c10 ?k10 ?a11 ?l11 ?c11 ?k11 ?a12 ?l12 ?c12 ?k12 ?a13 ?l13 ?c13 ?k13 ?a14 ?l14 ?c14 ?k14 ?a15 ?l15 ?c15 ?k15 ?a16 ?l16 ?c16 ?k16 ?a17 ?l17 ?c17 ?k17 ?a18 ?l18 ?c18 ?k18 ?a19 ?l19 ?c19 ?k19 ?a20 ?l20 ?c20 ?k20 ?a21 ?l21 ?c21 ?k21 ?a22 ?l22 ?c22 ?k22 ?a23 ?l23 ?c23 ?k23 ?a24 ?l24 ?c24 ?k24 ?a25 ?l25 ?c25 ?k25 ?a26 ?l26 ?c26 ?k26 ?a27 ?l27 ?c27 ?k27 ?a28 ?l28 ?c28 ?k28 ?xa_Desk ?xk_Desk ?ca_Desk ?a29 ?l29 ?c29 ?k29 ?im29 ?ifn29 ?a30 ?l30 ?c30 ?k30 ?a31 ?l31 ?c31 ?k31 ?z_isinstance ?z_int ?z_bool ?z_tuple ?z_len ?z_enumerate ?z_sum ?z_range ?z_max ?z_min ?z_list ?z_str ?z_repr ?g_MAX_SIZE ?g_ALIGNMENTS ?gl_ALIGNMENTS ?g_MAX_MANY ?g_MAX_KINDS ?g_MAX_ROW ?g_MAX_PIECES ?qx_all ?qt_tuple ?qj_tuple ?xa_Unfit ?xk_Unfit ?xs_Unfit ?xt_Unfit ?xi_Unfit ?xg_Unfit ?xh_Unfit ?xc_Unfit ?xm_Unfit ?xsp ?xtk ?ca_Unfit ?xe_Unfit ?qt_int ?qj_int ?qt_bool ?qj_bool ?ipg_Desk ?ihd_Desk ?ipo_Desk ?isa_Desk ?ina_Desk__books ?ina_Desk__edits ?ina_Desk__undone
    (case a0 => k_is); (case l0 => k_is); (case c0 => k_is); (case k0 => k_is); (case a1 => k_is); (case l1 => k_is); (case c1 => k_is); (case k1 => k_is); (case a2 => k_is); (case l2 => k_is); (case c2 => k_is); (case k2 => k_is); (case a3 => k_is); (case l3 => k_is); (case c3 => k_is); (case k3 => k_is); (case a4 => k_is); (case l4 => k_is); (case c4 => k_is); (case k4 => k_is); (case a5 => k_is); (case l5 => k_is); (case c5 => k_is); (case k5 => k_is); (case a7 => k_is); (case l7 => k_is); (case c7 => k_is); (case k7 => k_is); (case a8 => k_is); (case l8 => k_is); (case c8 => k_is); (case k8 => k_is); (case a9 => k_is); (case l9 => k_is); (case c9 => k_is); (case k9 => k_is); (case a10 => k_is); (case l10 => k_is); (case c10 => k_is); (case k10 => k_is); (case a11 => k_is); (case l11 => k_is); (case c11 => k_is); (case k11 => k_is); (case a12 => k_is); (case l12 => k_is); (case c12 => k_is); (case k12 => k_is); (case a13 => k_is); (case l13 => k_is); (case c13 => k_is); (case k13 => k_is); (case a14 => k_is); (case l14 => k_is); (case c14 => k_is); (case k14 => k_is); (case a15 => k_is); (case l15 => k_is); (case c15 => k_is); (case k15 => k_is); (case a16 => k_is); (case l16 => k_is); (case c16 => k_is); (case k16 => k_is); (case a17 => k_is); (case l17 => k_is); (case c17 => k_is); (case k17 => k_is); (case a18 => k_is); (case l18 => k_is); (case c18 => k_is); (case k18 => k_is); (case a19 => k_is); (case l19 => k_is); (case c19 => k_is); (case k19 => k_is); (case a20 => k_is); (case l20 => k_is); (case c20 => k_is); (case k20 => k_is); (case a21 => k_is); (case l21 => k_is); (case c21 => k_is); (case k21 => k_is); (case a22 => k_is); (case l22 => k_is); (case c22 => k_is); (case k22 => k_is); (case a23 => k_is); (case l23 => k_is); (case c23 => k_is); (case k23 => k_is); (case a24 => k_is); (case l24 => k_is); (case c24 => k_is); (case k24 => k_is); (case a25 => k_is); (case l25 => k_is); (case c25 => k_is); (case k25 => k_is); (case a26 => k_is); (case l26 => k_is); (case c26 => k_is); (case k26 => k_is); (case a27 => k_is); (case l27 => k_is); (case c27 => k_is); (case k27 => k_is); (case a28 => k_is); (case l28 => k_is); (case c28 => k_is); (case k28 => k_is); (case xa_Desk => k_is); (case xk_Desk => k_is); (case ca_Desk => (first | rfl | decide +kernel)); (case a29 => k_is); (case l29 => k_is); (case c29 => k_is); (case k29 => k_is); (case im29 => k_is); (case ifn29 => k_is); (case a30 => k_is); (case l30 => k_is); (case c30 => k_is); (case k30 => k_is); (case a31 => k_is); (case l31 => k_is); (case c31 => k_is); (case k31 => k_is); (case z_isinstance => k_is); (case z_int => k_is); (case z_bool => k_is); (case z_tuple => k_is); (case z_len => k_is); (case z_enumerate => k_is); (case z_sum => k_is); (case z_range => k_is); (case z_max => k_is); (case z_min => k_is); (case z_list => k_is); (case z_str => k_is); (case z_repr => k_is); (case g_MAX_SIZE => k_is); (case g_ALIGNMENTS => k_is); (case gl_ALIGNMENTS => k_is); (case g_MAX_MANY => k_is); (case g_MAX_KINDS => k_is); (case g_MAX_ROW => k_is); (case g_MAX_PIECES => k_is); (case qx_all => (first | rfl | decide +kernel)); (case qt_tuple => (first | rfl | decide +kernel)); (case qj_tuple => (first | rfl | decide +kernel)); (case xa_Unfit => k_is); (case xk_Unfit => k_is); (case xs_Unfit => k_is); (case xt_Unfit => k_is); (case xi_Unfit => k_is); (case xg_Unfit => k_is); (case xh_Unfit => k_is); (case xc_Unfit => k_is); (case xm_Unfit => k_is); (case xsp => k_is); (case xtk => k_is); (case ca_Unfit => (first | rfl | decide +kernel)); (case xe_Unfit => k_exc); (case qt_int => (first | rfl | decide +kernel)); (case qj_int => (first | rfl | decide +kernel)); (case qt_bool => (first | rfl | decide +kernel)); (case qj_bool => (first | rfl | decide +kernel)); (case ipg_Desk => k_is); (case ihd_Desk => k_is); (case ipo_Desk => k_is); (case isa_Desk => k_is); (case ina_Desk__books => k_is); (case ina_Desk__edits => k_is); (case ina_Desk__undone => k_is)
