import PyProof.Rows.All
import Wide.All
import OpenK.AllK
import Wide.FinOn
import HandS.ForMost
import HandS.Wide
import HandS.Walk
import PyProof.ReprRoads
import KE.KeyNested
import HandS.Exc
import HandS.ExcField
import HandS.TupAny
import HandS.TupMul
import HandS.SetFor
import KE.GoesNew
import KE.GoesMore
import KE.BitLaws
import HandS.More
import HandS.Conv
import HandS.Text
import HandS.FStr
import HandS.IsInst
import HandS.Deep
import HandS.Strs
import HandS.SortOrd
import HandS.SortRule
import HandS.TupSets
import HandS.Style
import HandS.ExcOwn
import HandS.TryOnly
import HandS.WordsExc
import KE.KExcIs
import PyProof.DictRoadsH
import PyProof.Rows.TupDisplay
import HandS.Dict
import KE.KDictPairs
import KE.DatumOrd
import PyProof.ListRange
import PyProof.TupleOfSeq
import HandS.SortKw
import HandS.SortInts
import HandS.TupLe
import PyProof.Rows.SortKeyStr
import HandS.ExcInit
import KE.KExcSuper
import HandS.TryMany
import HandS.Iter
import KE.GoesNewDict
import HandS.SetBool
import KE.KDictCopyH
import KE.KDictOf
import HandS.ExcValue
import PySem.Challenge.RW_fallingfields_k37_bounds_of_least_wholes
set_option Elab.async false
set_option linter.all false
set_option maxRecDepth 100000
namespace L3
open PySem PySem.Spec L2
/-- an exception: its class by its name, the one field that it has -/
structure Exn where
  cls : Str
  arg : Option (Str × PyData) := none
inductive T where
  | d (x : PyData)
  | mr (i : Nat)
  | lr (i : Nat)
  | scr (ns : List Int)
  | wt (xs : List PyData)
  | exo (a : Addr) (cls : Value) (d : Option Addr) (e : Exn)
abbrev T.int (i : Int) : T := .d (.int i)
abbrev T.bl (b : Bool) : T := .d (.bool b)
abbrev T.non : T := .d .none
abbrev T.str (x : Str) : T := .d (.str x)
abbrev T.lst (x : List PyData) : T := .d (.list x)
abbrev T.tup (x : List PyData) : T := .d (.tuple x)
inductive Cell where
  | lst (ts : List T)
  | dct (kvs : List (Key × T))
  | dnk (kvs : List (NestedKey × T))
  | held (u : HO)
  | dnd (kvs : List (PyData × T))
  | exc (f : Str) (e : Exn)
structure Mem where
  D : List Cell
  L : List (Option (List PyData))
/-- a tuple that is known to have no names of its own -/
def TupC (K : PySem.W.Frag) (G : Hp) (a : Addr) (xs : List V) : Prop := (∃ o : Obj, G a = some (.frz o (.tup xs)) ∧ o.dict = none) ∨
  ∃ o its n, List.lookup a K = some o ∧ o.cls = Value.type "tuple" ∧ o.dict = none ∧ o.data = Data.seq its n ∧ its.size ≤ sizeLine ∧ Vals xs its.toList
theorem TupC.t {K : PySem.W.Frag} {G : Hp} {a : Addr} {xs : List V} : TupC K G a xs → SqT K G a xs
  | .inl ⟨o, e, _⟩ => .inl (.inr ⟨o, e⟩)
  | .inr ⟨o, its, n, h1, h2, _, h3, h4, h5⟩ => .inr ⟨o, its, n, h1, h2, h3, h4, h5⟩
theorem TupC.mono {K : PySem.W.Frag} {G G' : Hp} (g : ∀ a o, G a = some o → G' a = some o) {a : Addr} {xs : List V} : TupC K G a xs → TupC K G' a xs
  | .inl ⟨o, e, h⟩ => .inl ⟨o, g _ _ e, h⟩
  | .inr h => .inr h
mutual
inductive Rp (K : PySem.W.Frag) (G : Hp) : V → PyData → Prop
  | non : Rp K G .non .none
  | bl (b : Bool) : Rp K G (.bl b) (.bool b)
  | int (i : Int) : Rp K G (.int i) (.int i)
  | str (x : Str) : Rp K G (.str x) (.str x)
  | lst {a : Addr} {xs : List V} {ds : List PyData} : G a = some (.lst xs) → RpA K G xs ds → Rp K G (.ref a) (.list ds)
  | tup {a : Addr} {xs : List V} {ds : List PyData} : TupC K G a xs → RpA K G xs ds → Rp K G (.ref a) (.tuple ds)
inductive RpA (K : PySem.W.Frag) (G : Hp) : List V → List PyData → Prop
  | nil : RpA K G [] []
  | cons {v : V} {vs : List V} {d : PyData} {ds : List PyData} : Rp K G v d → RpA K G vs ds → RpA K G (v :: vs) (d :: ds)
end
/-- what stands frozen, the deck's addresses, the frame's own -/
structure Bk where
  G : Hp
  r : List Addr
  l : List Addr
/-- what an exception's own dict d holds -/
def ExR (K : PySem.W.Frag) (G : Hp) (d : Option Addr) (e : Exn) : Prop := match e.arg with
  | none => d = none
  | some (f, x) => ∃ dd v, d = some dd ∧ G dd = some (.xd [(f, v)]) ∧ Rp K G v x
mutual
/-- a key that no text is in, not too deep: its hash is the same in each world -/
def okKey : Nat → NestedKey → Bool
  | _, .none => true
  | _, .num _ => true
  | _, .text _ => false
  | 0, .tup _ => false
  | n + 1, .tup ks => okKeys n ks
def okKeys : Nat → List NestedKey → Bool
  | _, [] => true
  | n, k :: ks => okKey n k && okKeys n ks
end
mutual
/-- the key that a tree is: True is the number 1 -/
def nk : PyData → Option NestedKey
  | .none => some .none
  | .bool b => some (.num (if b = true then 1 else 0))
  | .int i => some (.num i)
  | .str x => some (.text x)
  | .tuple ds => (nks ds).map NestedKey.tup
  | _ => none
def nks : List PyData → Option (List NestedKey)
  | [] => some []
  | d :: ds => match nk d, nks ds with
    | some k, some ks => some (k :: ks)
    | _, _ => none
end
/-- a dict at a with the keys, the keys' own addresses, the values of es -/
def DNok (a : Addr) (es : List (NestedKey × Addr × V)) (h : Heap) : Prop := es.length ≤ sizeLine ∧ (a == sysModules) = false ∧ (es.map (·.1)).Nodup ∧
  ∃ (w : World) (xs : List (NestedKey × Addr × Value)), Paired (fun (p : NestedKey × Addr × V) (q : NestedKey × Addr × Value) => p.1 = q.1 ∧ p.2.1 = q.2.1 ∧ RelV p.2.2 q.2.2) es xs ∧
    ∃ o ds ep, h.get? a = some o ∧ o.ExactDict ∧ o.data = .dict ds ep ∧ ds.toList = xs.map fun x => (⟨x.1.hash w, .ref x.2.1, x.2.2⟩ : DictEntry)
def Rt (K : PySem.W.Frag) (B : Bk) : V → T → Prop
  | v, .d x => Rp K B.G v x
  | v, .mr i => ∃ a, v = .ref a ∧ B.r[i]? = some a
  | v, .lr i => ∃ a, v = .ref a ∧ B.l[i]? = some a
  | v, .scr ns => ∃ a, v = .ref a ∧ SqL K B.G a (ns.map V.int)
  | v, .wt ds => ∃ a xs, v = .ref a ∧ SqT K B.G a xs ∧ RpA K B.G xs ds
  | v, .exo a _ d e => v = .ref a ∧ ExR K B.G d e
/-- an exception that was caught: an object of ours at a, its class cls, its dict d -/
def exh (a : Addr) (cls : Value) (d : Option Addr) : HO := .ext fun h => ∃ (oe : Obj) (vs : Array Value), h.get? a = some oe ∧ Zc cls d oe ∧ oe.data = .fields vs
def CellAt (K : PySem.W.Frag) (B : Bk) (H : Hp) (a : Addr) : Cell → Prop
  | .lst ts => ∃ xs, H a = some (.lst xs) ∧ Paired (Rt K { B with l := [] }) xs ts
  | .dct kvs => ∃ vs, H a = some (.dK vs) ∧ Paired (fun (p : Key × V) (q : Key × T) => p.1 = q.1 ∧ Rt K { B with l := [] } p.2 q.2) vs kvs
  | .held u => H a = some u
  | .exc f e => ∃ (C : Addr) (d : Option Addr), H a = some (exh a (.ref C) d) ∧ ExR K B.G d e ∧ XfC K C ∧ PySem.W.findIn K (.ref C) f = some none
  | .dnd kvs => ∃ es, H a = some (.ext (DNok a es)) ∧ Paired (fun (p : NestedKey × Addr × V) (q : PyData × T) => nk q.1 = some p.1 ∧ okKey 8 p.1 = true ∧ Rp K B.G (.ref p.2.1) q.1 ∧ Rt K { B with l := [] } p.2.2 q.2) es kvs
  | .dnk kvs => ∃ es, H a = some (.ext (DNok a es)) ∧ Paired (fun (p : NestedKey × Addr × V) (q : NestedKey × T) => p.1 = q.1 ∧ okKey 8 q.1 = true ∧ Rp K B.G (.ref p.2.1) q.1.data ∧ Rt K { B with l := [] } p.2.2 q.2) es kvs
/-- the world: the heap H holds the memory M by the book B -/
structure Wd (K : PySem.W.Frag) (B : Bk) (M : Mem) (H : Hp) : Prop where
  le : ∀ a o, B.G a = some o → H a = some o
  rlen : B.r.length = M.D.length
  llen : B.l.length = M.L.length
  nd : (B.r ++ B.l).Nodup
  dc : ∀ (i : Nat) (a : Addr) (c : Cell), B.r[i]? = some a → M.D[i]? = some c → B.G a = none ∧ CellAt K B H a c
  lc : ∀ (i : Nat) (a : Addr) (ds : List PyData), B.l[i]? = some a → M.L[i]? = some (some ds) → B.G a = none ∧ ∃ xs, H a = some (.lst xs) ∧ RpA K B.G xs ds
  tr : ∀ a, a ∈ B.r ++ B.l → H a ≠ none
structure Ext (B : Bk) (H : Hp) (B' : Bk) (H' : Hp) : Prop where
  g : ∀ a o, B.G a = some o → B'.G a = some o
  r : B.r <+: B'.r
  l : B.l <+: B'.l
  fr : ∀ a o, H a = some o → a ∉ B.r → a ∉ B.l → H' a = some o
  tr : ∀ a, H' a = none → H a = none
  rn : ∀ a, a ∈ B'.r → a ∈ B.r ∨ H a = none
  ln : ∀ a, a ∈ B'.l → a ∈ B.l ∨ H a = none
  gf : ∀ a o, B'.G a = some o → B.G a = some o ∨ H a = none ∨ a ∈ B.l
theorem Ext.refl (B : Bk) (H : Hp) : Ext B H B H :=
  ⟨fun _ _ e => e, List.prefix_refl _, List.prefix_refl _, fun _ _ e _ _ => e, fun _ e => e, fun _ e => .inl e, fun _ e => .inl e, fun _ _ e => .inl e⟩
theorem Ext.trans {B B1 B2 : Bk} {H H1 H2 : Hp} (x : Ext B H B1 H1) (y : Ext B1 H1 B2 H2) : Ext B H B2 H2 where
  g a o e := y.g a o (x.g a o e)
  r := x.r.trans y.r
  l := x.l.trans y.l
  fr a o e nr nl := by
    refine y.fr a o (x.fr a o e nr nl) (fun z => ?_) (fun z => ?_)
    · rcases x.rn a z with q | q
      · exact nr q
      · rw [e] at q; cases q
    · rcases x.ln a z with q | q
      · exact nl q
      · rw [e] at q; cases q
  tr a e := x.tr a (y.tr a e)
  rn a e := by
    rcases y.rn a e with q | q
    · exact x.rn a q
    · exact .inr (x.tr a q)
  ln a e := by
    rcases y.ln a e with q | q
    · exact x.ln a q
    · exact .inr (x.tr a q)
  gf a o e := by
    rcases y.gf a o e with q | q | q
    · exact x.gf a o q
    · exact .inr (.inl (x.tr a q))
    · rcases x.ln a q with z | z
      · exact .inr (.inr z)
      · exact .inr (.inl z)
mutual
theorem Rp.mono {K : PySem.W.Frag} {G G' : Hp} (g : ∀ a o, G a = some o → G' a = some o) : ∀ {v : V} {x : PyData}, Rp K G v x → Rp K G' v x
  | _, _, .non => .non
  | _, _, .bl b => .bl b
  | _, _, .int i => .int i
  | _, _, .str x => .str x
  | _, _, .lst e q => .lst (g _ _ e) (RpA.mono g q)
  | _, _, .tup e q => .tup (e.mono g) (RpA.mono g q)
theorem RpA.mono {K : PySem.W.Frag} {G G' : Hp} (g : ∀ a o, G a = some o → G' a = some o) : ∀ {v : List V} {x : List PyData}, RpA K G v x → RpA K G' v x
  | _, _, .nil => .nil
  | _, _, .cons p q => .cons (Rp.mono g p) (RpA.mono g q)
end
theorem SqL.mono {K : PySem.W.Frag} {G G' : Hp} (g : ∀ a o, G a = some o → G' a = some o) {a : Addr} {xs : List V} (e : SqL K G a xs) : SqL K G' a xs := by
  rcases e with e | e
  · rcases e with e | ⟨o, e⟩
    · exact .inl (.inl (g _ _ e))
    · exact .inl (.inr ⟨o, g _ _ e⟩)
  · exact .inr e
theorem SqT.mono0 {K : PySem.W.Frag} {G G' : Hp} (g : ∀ a o, G a = some o → G' a = some o) {a : Addr} {xs : List V} (e : SqT K G a xs) : SqT K G' a xs := by
  rcases e with e | e
  · rcases e with e | ⟨o, e⟩
    · exact .inl (.inl (g _ _ e))
    · exact .inl (.inr ⟨o, g _ _ e⟩)
  · exact .inr e
/-- what a clean tuple is in a greater heap -/
theorem SqT.mono {K : PySem.W.Frag} {G G' : Hp} (g : ∀ a o, G a = some o → G' a = some o) {a : Addr} {xs : List V} (e : TupC K G a xs) : SqT K G' a xs := (e.mono g).t
theorem get_prefix {α : Type} {a b : List α} (p : a <+: b) {i : Nat} {x : α} (e : a[i]? = some x) : b[i]? = some x := by
  obtain ⟨c, rfl⟩ := p
  rw [List.getElem?_append_left (by
    rcases Nat.lt_or_ge i a.length with q | q
    · exact q
    · rw [List.getElem?_eq_none q] at e; cases e)]
  exact e
theorem ExR.mono {K : PySem.W.Frag} {G G' : Hp} (g : ∀ a o, G a = some o → G' a = some o) {d : Option Addr} {e : Exn} (h : ExR K G d e) : ExR K G' d e := by
  unfold ExR at h ⊢
  split at h
  · exact h
  · obtain ⟨dd, v, h1, h2, h3⟩ := h
    exact ⟨dd, v, h1, g _ _ h2, Rp.mono g h3⟩
theorem Rt.mono' {K : PySem.W.Frag} {B B' : Bk} (g : ∀ a o, B.G a = some o → B'.G a = some o) (r : B.r <+: B'.r) (l : B.l <+: B'.l) {v : V} {t : T} (h : Rt K B v t) : Rt K B' v t := by
  cases t with
  | d x => exact Rp.mono g h
  | mr i => obtain ⟨a, e, q⟩ := h; exact ⟨a, e, get_prefix r q⟩
  | lr i => obtain ⟨a, e, q⟩ := h; exact ⟨a, e, get_prefix l q⟩
  | scr ns => obtain ⟨a, e, q⟩ := h; exact ⟨a, e, SqL.mono g q⟩
  | wt xs => obtain ⟨a, vs, e, q, r⟩ := h; exact ⟨a, vs, e, SqT.mono0 g q, RpA.mono g r⟩
  | exo a c d e => exact ⟨h.1, h.2.mono g⟩
theorem Rt.mono {K : PySem.W.Frag} {B B' : Bk} {H H' : Hp} (x : Ext B H B' H') {v : V} {t : T} (h : Rt K B v t) : Rt K B' v t := Rt.mono' x.g x.r x.l h
theorem Paired.imp {α β : Type} {F F' : α → β → Prop} (f : ∀ a b, F a b → F' a b) : ∀ {l : List α} {m : List β}, Paired F l m → Paired F' l m
  | _, _, .nil => .nil
  | _, _, .cons h q => .cons (f _ _ h) (Paired.imp f q)
theorem Rts.mono {K : PySem.W.Frag} {B B' : Bk} {H H' : Hp} (x : Ext B H B' H') {v : List V} {t : List T} (h : Paired (Rt K B) v t) : Paired (Rt K B') v t := Paired.imp (fun _ _ q => Rt.mono x q) h
abbrev En := List (Option T)
structure Sl (K : PySem.W.Frag) (B : Bk) (σ : St) (τ : En) : Prop where
  len : σ.length = τ.length
  at_ : ∀ (i : Nat) (t : T), τ[i]? = some (some t) → ∃ v, σ[i]? = some (some v) ∧ Rt K B v t
theorem Sl.mono {K : PySem.W.Frag} {B B' : Bk} {H H' : Hp} (x : Ext B H B' H') {σ : St} {τ : En} (s : Sl K B σ τ) : Sl K B' σ τ :=
  ⟨s.len, fun i t e => let ⟨v, h, q⟩ := s.at_ i t e; ⟨v, h, Rt.mono x q⟩⟩
theorem Sl.set {K : PySem.W.Frag} {B : Bk} {σ : St} {τ : En} (s : Sl K B σ τ) (i : Nat) {v : V} {t : T} (q : Rt K B v t) : Sl K B (σ.set i (some v)) (τ.set i (some t)) := by
  refine ⟨by rw [List.length_set, List.length_set, s.len], fun j u e => ?_⟩
  by_cases h : i = j
  · subst h
    rcases Nat.lt_or_ge i τ.length with z | z
    · rw [List.getElem?_set_self z] at e
      cases e
      exact ⟨v, by rw [List.getElem?_set_self (by rw [s.len]; exact z)], q⟩
    · rw [List.getElem?_eq_none (by rw [List.length_set]; exact z)] at e
      cases e
  · rw [List.getElem?_set_ne h] at e
    obtain ⟨w, h1, h2⟩ := s.at_ j u e
    exact ⟨w, by rw [List.getElem?_set_ne h]; exact h1, h2⟩
theorem Sl.clr {K : PySem.W.Frag} {B : Bk} {σ : St} {τ : En} (s : Sl K B σ τ) (i : Nat) : Sl K B (σ.set i none) (τ.set i none) := by
  refine ⟨by rw [List.length_set, List.length_set, s.len], fun j u e => ?_⟩
  by_cases h : i = j
  · subst h
    rcases Nat.lt_or_ge i τ.length with z | z
    · rw [List.getElem?_set_self z] at e
      cases e
    · rw [List.getElem?_eq_none (by rw [List.length_set]; exact z)] at e
      cases e
  · rw [List.getElem?_set_ne h] at e
    obtain ⟨w, h1, h2⟩ := s.at_ j u e
    exact ⟨w, by rw [List.getElem?_set_ne h]; exact h1, h2⟩
def wipeT (τ : En) : List Nat → En
  | [] => τ
  | v :: vs => (wipeT τ vs).set v none
theorem Sl.wipe {K : PySem.W.Frag} {B : Bk} {σ : St} {τ : En} (s : Sl K B σ τ) : ∀ vs : List Nat, Sl K B (L2.wipe σ vs) (wipeT τ vs)
  | [] => s
  | v :: vs => (Sl.wipe s vs).clr v
abbrev Kt := T → Mem → Prop
abbrev Me := En → Mem → Kt → Prop
abbrev Mb := En → Mem → (Bool → Mem → Prop) → Prop
abbrev Ma := En → Mem → (List T → Mem → Prop) → Prop
structure Es where
  nx : En → Mem → Prop
  rt : Kt
  bk : En → Mem → Prop := fun _ _ => False
  ct : En → Mem → Prop := fun _ _ => False
abbrev Ms := Es → En → Mem → Prop
abbrev Mg := T → En → Mem → (En → Mem → Prop) → Prop
def rE (K : PySem.W.Frag) (m : Me) : TE := fun σ H Q' => ∃ τ M B Q, m τ M Q ∧ Wd K B M H ∧ Sl K B σ τ ∧ ∀ v t M' B' H', Q t M' → Wd K B' M' H' → Ext B H B' H' → Rt K B' v t → Q' v H'
def rB (K : PySem.W.Frag) (m : Mb) : TT := fun σ H Q' => ∃ τ M B Q, m τ M Q ∧ Wd K B M H ∧ Sl K B σ τ ∧ ∀ b M' B' H', Q b M' → Wd K B' M' H' → Ext B H B' H' → Q' b H'
def rA (K : PySem.W.Frag) (m : Ma) : TA := fun σ H Q' => ∃ τ M B Q, m τ M Q ∧ Wd K B M H ∧ Sl K B σ τ ∧ ∀ v t M' B' H', Q t M' → Wd K B' M' H' → Ext B H B' H' → Paired (Rt K B') v t → Q' v H'
/-- what is wanted behind a statement, told over trees -/
structure Go (K : PySem.W.Frag) (E : Es) (D : Ends) (B : Bk) (H : Hp) : Prop where
  nx : ∀ τ' M' B' σ' H', E.nx τ' M' → Wd K B' M' H' → Ext B H B' H' → Sl K B' σ' τ' → D.nx σ' H'
  rt : ∀ v t M' B' H', E.rt t M' → Wd K B' M' H' → Ext B H B' H' → Rt K B' v t → D.rt v H'
  bk : ∀ τ' M' B' σ' H', E.bk τ' M' → Wd K B' M' H' → Ext B H B' H' → Sl K B' σ' τ' → D.bk σ' H'
  ct : ∀ τ' M' B' σ' H', E.ct τ' M' → Wd K B' M' H' → Ext B H B' H' → Sl K B' σ' τ' → D.ct σ' H'
theorem Go.ext {K : PySem.W.Frag} {E : Es} {D : Ends} {B B1 : Bk} {H H1 : Hp} (x : Ext B H B1 H1) (g : Go K E D B H) : Go K E D B1 H1 :=
  ⟨fun t m b s h q w e => g.nx t m b s h q w (x.trans e), fun v t m b h q w e => g.rt v t m b h q w (x.trans e), fun t m b s h q w e => g.bk t m b s h q w (x.trans e), fun t m b s h q w e => g.ct t m b s h q w (x.trans e)⟩
def rS (K : PySem.W.Frag) (m : Ms) : TS := fun D σ H => ∃ E : Es, ∃ τ M B, m E τ M ∧ Wd K B M H ∧ Sl K B σ τ ∧ Go K E D B H
/-- alike but for the slots os -/
structure Ag (os : List Nat) (σ σ' : St) : Prop where
  len : σ'.length = σ.length
  at_ : ∀ j : Nat, j ∉ os → σ'[j]? = σ[j]?
theorem Ag.trans {o o' : List Nat} {a b c : St} (x : Ag o a b) (y : Ag o' b c) : Ag (o ++ o') a c :=
  ⟨y.len.trans x.len, fun j n => (y.at_ j fun z => n (List.mem_append_right _ z)).trans (x.at_ j fun z => n (List.mem_append_left _ z))⟩
theorem wipe_at (σ : St) (j : Nat) : ∀ vs : List Nat, (L2.wipe σ vs)[j]? = if j ∈ vs then (if j < σ.length then some none else none) else σ[j]?
  | [] => by simp [L2.wipe]
  | v :: vs => by
    unfold L2.wipe
    by_cases h : v = j
    · subst h
      rw [if_pos (by simp)]
      by_cases q : v < σ.length
      · rw [List.getElem?_set_self (by rw [wipe_length]; exact q), if_pos q]
      · rw [List.getElem?_eq_none (by rw [List.length_set, wipe_length]; omega), if_neg q]
    · rw [List.getElem?_set_ne h, wipe_at σ j vs]
      by_cases q : j ∈ vs
      · rw [if_pos q, if_pos (List.mem_cons_of_mem _ q)]
      · rw [if_neg q, if_neg]
        intro z
        rcases List.mem_cons.mp z with z | z
        · exact h z.symm
        · exact q z
theorem Ag.wipe {os vs : List Nat} {σ σ' : St} (sub : ∀ j ∈ os, j ∈ vs) (x : Ag os (L2.wipe σ vs) σ') : L2.wipe σ' vs = L2.wipe σ vs := by
  apply List.ext_getElem?
  intro j
  have hl : σ'.length = σ.length := x.len.trans (wipe_length σ vs)
  rw [wipe_at, wipe_at, hl]
  by_cases h : j ∈ vs
  · rw [if_pos h, if_pos h]
  · rw [if_neg h, if_neg h, x.at_ j fun z => h (sub j z), wipe_at, if_neg h]
def rG (K : PySem.W.Frag) (os : List Nat) (m : Mg) : TG := fun v σ H Q' => ∃ t τ M B Q, m t τ M Q ∧ Wd K B M H ∧ Sl K B σ τ ∧ Rt K B v t ∧ ∀ τ' M' B' σ' H', Q τ' M' → Wd K B' M' H' → Ext B H B' H' → Sl K B' σ' τ' → Ag os σ σ' → Q' σ' H'
abbrev ME (X : Cx) (e : Expr) (m : Me) : Prop := PE X e (rE X.K m)
abbrev MB (X : Cx) (e : Expr) (m : Mb) : Prop := PT X e (rB X.K m)
abbrev MA (X : Cx) (e : List Expr) (m : Ma) : Prop := PA X e (rA X.K m)
abbrev MS (X : Cx) (e : Stmt) (m : Ms) : Prop := PS X e (rS X.K m)
abbrev MSs (X : Cx) (e : List Stmt) (m : Ms) : Prop := PSs X e (rS X.K m)
abbrev MG (X : Cx) (e : Expr) (os : List Nat) (m : Mg) : Prop := PG X e (rG X.K os m)
theorem PE.of {X : Cx} {e : Expr} {t t' : TE} (h : PE X e t) (w : ∀ σ H Q, t' σ H Q → t σ H Q) : PE X e t' := ⟨fun _ _ _ _ _ iv q => h.run _ _ _ _ _ iv (w _ _ _ q)⟩
theorem PT.of {X : Cx} {e : Expr} {t t' : TT} (h : PT X e t) (w : ∀ σ H Q, t' σ H Q → t σ H Q) : PT X e t' := ⟨fun _ _ _ _ _ iv q => h.run _ _ _ _ _ iv (w _ _ _ q)⟩
theorem PW.of {X : Cx} {e : Expr} {t t' : TT} (h : PW X e t) (w : ∀ σ H Q, t' σ H Q → t σ H Q) : PW X e t' := ⟨fun _ _ _ _ _ _ iv q => h.run _ _ _ _ _ _ iv (w _ _ _ q)⟩
theorem PA.of {X : Cx} {e : List Expr} {t t' : TA} (h : PA X e t) (w : ∀ σ H Q, t' σ H Q → t σ H Q) : PA X e t' := ⟨fun _ _ _ _ _ _ iv q => h.run _ _ _ _ _ _ iv (w _ _ _ q)⟩
theorem PS.of {X : Cx} {e : Stmt} {t t' : TS} (h : PS X e t) (w : ∀ D σ H, t' D σ H → t D σ H) : PS X e t' := ⟨fun _ _ _ _ _ iv q => h.run _ _ _ _ _ iv (w _ _ _ q)⟩
theorem PSs.of {X : Cx} {e : List Stmt} {t t' : TS} (h : PSs X e t) (w : ∀ D σ H, t' D σ H → t D σ H) : PSs X e t' := ⟨fun _ _ _ _ _ iv q => h.run _ _ _ _ _ iv (w _ _ _ q)⟩
theorem PG.of {X : Cx} {e : Expr} {t t' : TG} (h : PG X e t) (w : ∀ v σ H Q, t' v σ H Q → t v σ H Q) : PG X e t' := ⟨fun _ _ _ _ _ _ _ iv rv q => h.run _ _ _ _ _ _ _ iv rv (w _ _ _ _ q)⟩
section
variable {X : Cx} {a b c e : Expr} {es : List Expr} {ma mb mc m : Me} {pos : Pos}
def mVar (i : Nat) : Me := fun τ M Q => ∃ t, τ[i]? = some (some t) ∧ Q t M
def mC (x : PyData) : Me := fun _ M Q => Q (.d x) M
theorem me_var {i : Nat} {x : Str} (h : PE X (.Name x pos) (tVar i)) : ME X (.Name x pos) (mVar i) := PE.of h fun σ H Q' ⟨τ, M, B, Q, ⟨t, ht, q⟩, w, s, k⟩ => by
  obtain ⟨v, hv, r⟩ := s.at_ i t ht
  exact ⟨v, hv, k v t M B H q w (.refl _ _) r⟩
theorem me_const {v : V} {x : PyData} (h : PE X e (tC v)) (hr : ∀ G, Rp X.K G v x) : ME X e (mC x) := PE.of h fun σ H Q' ⟨τ, M, B, Q, q, w, s, k⟩ => k v (.d x) M B H q w (.refl _ _) (hr _)
theorem me_int {i : Int} {j : Nat} : ME X (.Constant (.int i) j pos) (mC (.int i)) := me_const pe_int fun _ => .int i
theorem me_bl {i : Bool} {j : Nat} : ME X (.Constant (.bool i) j pos) (mC (.bool i)) := me_const pe_bl fun _ => .bl i
theorem me_non {j : Nat} : ME X (.Constant .none j pos) (mC .none) := me_const pe_non fun _ => .non
theorem me_str {i : Str} {j : Nat} : ME X (.Constant (.str i) j pos) (mC (.str i)) := me_const pe_str fun _ => .str i
abbrev F2 := T → T → Mem → Kt → Prop
/-- an operation by values is told by f -/
def OpL (K : PySem.W.Frag) (r : R2) (f : F2) : Prop := ∀ x y t u M B H Q Q', f t u M Q → Wd K B M H → Rt K B x t → Rt K B y u →
  (∀ v t' M' B' H', Q t' M' → Wd K B' M' H' → Ext B H B' H' → Rt K B' v t' → Q' v H') → r x y H Q'
def mOp (f : F2) (ma mb : Me) : Me := fun τ M Q => ma τ M fun x M1 => mb τ M1 fun y M2 => f x y M2 Q
theorem two {K : PySem.W.Frag} {r : R2} {f : F2} (ho : OpL K r f) {σ : St} {H : Hp} {Q' : VK} (h : rE K (mOp f ma mb) σ H Q') : tOp r (rE K ma) (rE K mb) σ H Q' := by
  obtain ⟨τ, M, B, Q, h, w, s, k⟩ := h
  refine ⟨τ, M, B, _, h, w, s, fun x t M1 B1 H1 h1 w1 e1 r1 => ⟨τ, M1, B1, _, h1, w1, s.mono e1, fun y u M2 B2 H2 h2 w2 e2 r2 => ?_⟩⟩
  exact ho x y t u M2 B2 H2 Q Q' h2 w2 (Rt.mono e2 r1) r2 fun v t' M' B' H' q w' e' r' => k v t' M' B' H' q w' (e1.trans (e2.trans e')) r'
theorem me_op {op : Operator} {r : R2} {f : F2} (ho : OpR X (binaryOp op) r) (hl : OpL X.K r f) (ha : ME X a ma) (hb : ME X b mb) : ME X (.BinOp a op b pos) (mOp f ma mb) := PE.of (pe_op ho ha hb) fun _ _ _ h => two hl h
theorem me_cmp {op : CmpOp} {r : R2} {f : F2} (ho : OpR X (compareOp op) r) (hl : OpL X.K r f) (ha : ME X a ma) (hb : ME X b mb) (hm : behindInMarks op b = false) : ME X (.Compare a [op] [b] pos) (mOp f ma mb) := PE.of (pe_cmpR ho ha hb hm) fun _ _ _ h => two hl h
/-- a value as a test -/
def mTest (m : Me) : Mb := fun τ M Q => m τ M fun x M1 => ∃ k, x = .d (.bool k) ∧ Q k M1
theorem mb_cmp {op : CmpOp} {r : R2} {f : F2} (ho : OpR X (compareOp op) r) (hl : OpL X.K r f) (ha : ME X a ma) (hb : ME X b mb) (hm : behindInMarks op b = false) : MB X (.Compare a [op] [b] pos) (mTest (mOp f ma mb)) := by
  refine PT.of (pt_cmpR ho ha hb hm) fun σ H Q' ⟨τ, M, B, Q, h, w, s, k⟩ => ?_
  refine two hl ⟨τ, M, B, _, h, w, s, fun v t M' B' H' ⟨k2, e, q⟩ w' e' r' => ?_⟩
  subst e
  cases r'
  exact ⟨k2, rfl, k k2 M' B' H' q w' e'⟩
end
end L3
set_option Elab.async false
set_option linter.all false
set_option maxRecDepth 100000
namespace L3
open PySem PySem.Spec L2
section
variable {K : PySem.W.Frag} {B : Bk} {M : Mem} {H : Hp}
mutual
theorem Rp.dp {G : Hp} : ∀ {v : V} {x : PyData}, Rp K G v x → Dp K G v x
  | _, _, .non => .non
  | _, _, .bl b => .bl b
  | _, _, .int i => .int i
  | _, _, .str x => .str x
  | _, _, .lst e q => .lst (.inl (.inl e)) (RpA.dp q)
  | _, _, .tup e q => .tup e.t (RpA.dp q)
theorem RpA.dp {G : Hp} : ∀ {v : List V} {x : List PyData}, RpA K G v x → DpAll K G v x
  | _, _, .nil => .nil
  | _, _, .cons p q => .cons (Rp.dp p) (RpA.dp q)
end
theorem Wd.rp (w : Wd K B M H) {v : V} {x : PyData} (h : Rp K B.G v x) : Rp K H v x := Rp.mono w.le h
theorem Wd.rpa (w : Wd K B M H) {v : List V} {x : List PyData} (h : RpA K B.G v x) : RpA K H v x := RpA.mono w.le h
theorem RpA.length {G : Hp} : ∀ {v : List V} {x : List PyData}, RpA K G v x → v.length = x.length
  | _, _, .nil => rfl
  | _, _, .cons _ q => by rw [List.length_cons, List.length_cons, RpA.length q]
theorem RpA.append {G : Hp} : ∀ {v w : List V} {x y : List PyData}, RpA K G v x → RpA K G w y → RpA K G (v ++ w) (x ++ y)
  | _, _, _, _, .nil, q => q
  | _, _, _, _, .cons p q, r => .cons p (RpA.append q r)
theorem RpA.get {G : Hp} : ∀ {v : List V} {x : List PyData} {i : Nat} {d : PyData}, RpA K G v x → x[i]? = some d → ∃ u, v[i]? = some u ∧ Rp K G u d
  | _, _, _, _, .nil, e => by simp at e
  | _, _, 0, _, .cons p _, e => by simp at e; subst e; exact ⟨_, rfl, p⟩
  | _, _, i + 1, _, .cons _ q, e => by
    obtain ⟨u, h1, h2⟩ := RpA.get (i := i) q (by simpa using e)
    exact ⟨u, by simpa using h1, h2⟩
theorem RpA.set {G : Hp} {u : V} {d : PyData} (r : Rp K G u d) : ∀ {v : List V} {x : List PyData} (i : Nat), RpA K G v x → RpA K G (v.set i u) (x.set i d)
  | _, _, _, .nil => .nil
  | _, _, 0, .cons _ q => .cons r q
  | _, _, i + 1, .cons p q => .cons p (RpA.set r i q)
theorem RpA.take {G : Hp} : ∀ {v : List V} {x : List PyData} (n : Nat), RpA K G v x → RpA K G (v.take n) (x.take n)
  | _, _, 0, _ => .nil
  | _, _, _ + 1, .nil => .nil
  | _, _, n + 1, .cons p q => .cons p (RpA.take n q)
theorem RpA.drop {G : Hp} : ∀ {v : List V} {x : List PyData} (n : Nat), RpA K G v x → RpA K G (v.drop n) (x.drop n)
  | _, _, 0, r => r
  | _, _, _ + 1, .nil => .nil
  | _, _, n + 1, .cons _ q => RpA.drop n q
theorem RpA.eraseIdx {G : Hp} : ∀ {v : List V} {x : List PyData} (n : Nat), RpA K G v x → RpA K G (v.eraseIdx n) (x.eraseIdx n)
  | _, _, _, .nil => .nil
  | _, _, 0, .cons _ q => q
  | _, _, n + 1, .cons p q => .cons p (RpA.eraseIdx n q)
theorem RpA.dropLast {G : Hp} {v : List V} {x : List PyData} (h : RpA K G v x) : RpA K G v.dropLast x.dropLast := by
  rw [List.dropLast_eq_take, List.dropLast_eq_take, RpA.length h]
  exact RpA.take _ h
theorem RpA.ints {G : Hp} : ∀ {v : List V} {ns : List Int}, RpA K G v (ns.map PyData.int) → v = ns.map V.int
  | _, [], .nil => rfl
  | _, _ :: _, .cons (.int _) q => by rw [RpA.ints q]; rfl
theorem RpA.of_ints {G : Hp} : ∀ ns : List Int, RpA K G (ns.map V.int) (ns.map PyData.int)
  | [] => .nil
  | n :: ns => .cons (.int n) (RpA.of_ints ns)
theorem RpA.rep {G : Hp} {v : List V} {x : List PyData} (h : RpA K G v x) : ∀ n : Nat, RpA K G (List.replicate n v).flatten (List.replicate n x).flatten
  | 0 => .nil
  | n + 1 => by
    rw [List.replicate_succ, List.replicate_succ, List.flatten_cons, List.flatten_cons]
    exact RpA.append h (RpA.rep h n)
/-- values that all are trees -/
def datas : List T → Option (List PyData)
  | [] => some []
  | .d x :: r => (datas r).map (x :: ·)
  | _ :: _ => none
theorem datas_rpa : ∀ {xs : List V} {ts : List T} {ds : List PyData}, Paired (Rt K B) xs ts → datas ts = some ds → RpA K B.G xs ds
  | _, _, _, .nil, e => by
    cases e
    exact .nil
  | _, _, _, .cons (b := t) p q, e => by
    cases t with
    | d x =>
      unfold datas at e
      cases h : datas _ with
      | none => rw [h] at e; cases e
      | some r =>
        rw [h] at e
        cases e
        exact .cons p (datas_rpa q h)
    | mr i => cases e
    | lr i => cases e
    | scr ns => cases e
    | wt xs => cases e
    | exo a c d e' => cases e
theorem Wd.fresh (w : Wd K B M H) {p : Addr} (hp : H p = none) : B.G p = none ∧ p ∉ B.r ∧ p ∉ B.l := by
  refine ⟨?_, fun z => ?_, fun z => ?_⟩
  · cases e : B.G p with
    | none => rfl
    | some o => rw [w.le _ _ e] at hp; cases hp
  · exact w.tr p (List.mem_append_left _ z) hp
  · exact w.tr p (List.mem_append_right _ z) hp
theorem upd_keep {G : Hp} {p : Addr} {o : HO} (h : G p = none) : ∀ a u, G a = some u → upd G p o a = some u := fun a u e => by
  rw [upd_ne (ne_of_none e h)]
  exact e
theorem CellAt.mono {B' : Bk} {H' : Hp} {a : Addr} {c : Cell} (g : ∀ a o, B.G a = some o → B'.G a = some o) (r : B.r <+: B'.r) (e : H' a = H a) (h : CellAt K B H a c) : CellAt K B' H' a c := by
  have f : ∀ v t, Rt K { B with l := [] } v t → Rt K { B' with l := [] } v t := fun v t q => Rt.mono' (B := { B with l := [] }) (B' := { B' with l := [] }) g r (List.prefix_refl _) q
  cases c with
  | lst ts =>
    obtain ⟨xs, h1, h2⟩ := h
    exact ⟨xs, e.trans h1, Paired.imp f h2⟩
  | dct kvs =>
    obtain ⟨xs, h1, h2⟩ := h
    exact ⟨xs, e.trans h1, Paired.imp (fun _ _ q => ⟨q.1, f _ _ q.2⟩) h2⟩
  | dnk kvs =>
    obtain ⟨xs, h1, h2⟩ := h
    exact ⟨xs, e.trans h1, Paired.imp (fun _ _ q => ⟨q.1, q.2.1, Rp.mono g q.2.2.1, f _ _ q.2.2.2⟩) h2⟩
  | held u => exact e.trans h
  | exc f2 e2 =>
    obtain ⟨C, d, h1, h2, h3⟩ := h
    exact ⟨C, d, e.trans h1, ExR.mono g h2, h3⟩
  | dnd kvs =>
    obtain ⟨xs, h1, h2⟩ := h
    exact ⟨xs, e.trans h1, Paired.imp (fun _ _ q => ⟨q.1, q.2.1, Rp.mono g q.2.2.1, f _ _ q.2.2.2⟩) h2⟩
theorem mem_of_get {α : Type} {l : List α} {i : Nat} {a : α} (e : l[i]? = some a) : a ∈ l := List.mem_of_getElem? e
/-- a new object that never changes -/
theorem Wd.alloc (w : Wd K B M H) {p : Addr} (hp : H p = none) (o : HO) : Wd K { B with G := upd B.G p o } M (upd H p o) ∧ Ext B H { B with G := upd B.G p o } (upd H p o) := by
  obtain ⟨hG, hr, hl⟩ := w.fresh hp
  have ne : ∀ {a : Addr}, a ∈ B.r ++ B.l → a ≠ p := fun {a} h z => by
    subst z
    exact w.tr _ h hp
  refine ⟨⟨fun a u e => ?_, w.rlen, w.llen, w.nd, fun i a c h1 h2 => ?_, fun i a ds h1 h2 => ?_, fun a ha => ?_⟩, ⟨upd_keep hG, List.prefix_refl _, List.prefix_refl _, fun a u e _ _ => upd_keep hp a u e, fun a e => ?_, fun a e => .inl e, fun a e => .inl e, fun a u e => ?_⟩⟩
  · by_cases z : a = p
    · subst z
      have e' : upd B.G a o a = some u := e
      rw [upd_same] at e' ⊢
      exact e'
    · have e' : upd B.G p o a = some u := e
      rw [upd_ne z] at e' ⊢
      exact w.le a u e'
  · obtain ⟨q1, q2⟩ := w.dc i a c h1 h2
    have na := ne (List.mem_append_left _ (mem_of_get h1))
    exact ⟨(upd_ne na).trans q1, CellAt.mono (upd_keep hG) (List.prefix_refl _) (upd_ne na) q2⟩
  · obtain ⟨q1, xs, q2, q3⟩ := w.lc i a ds h1 h2
    have na := ne (List.mem_append_right _ (mem_of_get h1))
    exact ⟨(upd_ne na).trans q1, xs, (upd_ne na).trans q2, RpA.mono (upd_keep hG) q3⟩
  · rw [upd_ne (ne ha)]
    exact w.tr a ha
  · by_cases z : a = p
    · subst z
      exact hp
    · rw [upd_ne z] at e
      exact e
  · by_cases z : a = p
    · subst z
      exact .inr (.inl hp)
    · have e' : upd B.G p o a = some u := e
      rw [upd_ne z] at e'
      exact .inl e'
theorem nodup_snoc {α : Type} {l : List α} {a : α} (h : l.Nodup) (n : a ∉ l) : (l ++ [a]).Nodup := by
  rw [List.nodup_append]
  refine ⟨h, by simp, fun x hx y hy => ?_⟩
  rw [List.mem_singleton] at hy
  subst hy
  intro z
  subst z
  exact n hx
/-- a new list of the frame's own -/
theorem Wd.newL (w : Wd K B M H) {p : Addr} (hp : H p = none) {xs : List V} {ds : List PyData} (h : RpA K B.G xs ds) :
    Wd K { B with l := B.l ++ [p] } { M with L := M.L ++ [some ds] } (upd H p (.lst xs)) ∧ Ext B H { B with l := B.l ++ [p] } (upd H p (.lst xs)) := by
  obtain ⟨hG, hr, hl⟩ := w.fresh hp
  have ne : ∀ {a : Addr}, a ∈ B.r ++ B.l → a ≠ p := fun {a} h z => by
    subst z
    exact w.tr _ h hp
  refine ⟨⟨fun a u e => upd_keep hp a u (w.le a u e), w.rlen, by simp [w.llen], ?_, fun i a c h1 h2 => ?_, fun i a es h1 h2 => ?_, fun a ha => ?_⟩, ⟨fun a u e => e, List.prefix_refl _, List.prefix_append _ _, fun a u e _ _ => upd_keep hp a u e, fun a e => ?_, fun a e => .inl e, fun a e => ?_, fun a u e => .inl e⟩⟩
  · show (B.r ++ (B.l ++ [p])).Nodup
    rw [← List.append_assoc]
    exact nodup_snoc w.nd fun z => ne z rfl
  · obtain ⟨q1, q2⟩ := w.dc i a c h1 h2
    have na := ne (List.mem_append_left _ (mem_of_get h1))
    exact ⟨q1, CellAt.mono (fun _ _ e => e) (List.prefix_refl _) (upd_ne na) q2⟩
  · have h1' : (B.l ++ [p])[i]? = some a := h1
    have h2' : (M.L ++ [some ds])[i]? = some (some es) := h2
    rcases Nat.lt_or_ge i B.l.length with z | z
    · rw [List.getElem?_append_left z] at h1'
      rw [List.getElem?_append_left (by rw [← w.llen]; exact z)] at h2'
      obtain ⟨q1, ys, q2, q3⟩ := w.lc i a es h1' h2'
      exact ⟨q1, ys, (upd_ne (ne (List.mem_append_right _ (mem_of_get h1')))).trans q2, q3⟩
    · rw [List.getElem?_append_right z] at h1'
      rw [List.getElem?_append_right (by rw [← w.llen]; exact z), ← w.llen] at h2'
      cases j : i - B.l.length with
      | succ k => rw [j] at h1'; simp at h1'
      | zero =>
        rw [j] at h1' h2'
        simp only [List.getElem?_cons_zero, Option.some.injEq] at h1' h2'
        subst h1'
        subst h2'
        exact ⟨hG, xs, upd_same, h⟩
  · have ha' : a ∈ B.r ++ (B.l ++ [p]) := ha
    rw [← List.append_assoc] at ha'
    rcases List.mem_append.mp ha' with z | z
    · rw [upd_ne (ne z)]
      exact w.tr a z
    · rw [List.mem_singleton] at z
      subst z
      rw [upd_same]
      exact fun q => nomatch q
  · by_cases z : a = p
    · subst z
      exact hp
    · rw [upd_ne z] at e
      exact e
  · rcases List.mem_append.mp e with z | z
    · exact .inl z
    · rw [List.mem_singleton] at z
      subst z
      exact .inr hp
theorem nodup_get {α : Type} : ∀ {l : List α} {i j : Nat} {a : α}, l.Nodup → l[i]? = some a → l[j]? = some a → i = j
  | [], _, _, _, _, e, _ => by simp at e
  | x :: l, 0, 0, _, _, _, _ => rfl
  | x :: l, 0, j + 1, a, n, e, f => by
    rw [List.getElem?_cons_zero] at e
    cases e
    rw [List.getElem?_cons_succ] at f
    exact absurd (mem_of_get f) (List.nodup_cons.mp n).1
  | x :: l, i + 1, 0, a, n, e, f => by
    rw [List.getElem?_cons_zero] at f
    cases f
    rw [List.getElem?_cons_succ] at e
    exact absurd (mem_of_get e) (List.nodup_cons.mp n).1
  | x :: l, i + 1, j + 1, a, n, e, f => by
    rw [List.getElem?_cons_succ] at e f
    rw [nodup_get (List.nodup_cons.mp n).2 e f]
theorem Wd.rl (w : Wd K B M H) {a : Addr} (h1 : a ∈ B.r) (h2 : a ∈ B.l) : False := (List.nodup_append.mp w.nd).2.2 a h1 a h2 rfl
/-- one of the frame's own lists is written -/
theorem Wd.setL (w : Wd K B M H) {i : Nat} {p : Addr} (hp : B.l[i]? = some p) {ds0 : List PyData} (h0 : M.L[i]? = some (some ds0)) {xs : List V} {ds : List PyData} (h : RpA K B.G xs ds) :
    Wd K B { M with L := M.L.set i (some ds) } (upd H p (.lst xs)) ∧ Ext B H B (upd H p (.lst xs)) := by
  obtain ⟨hG, _⟩ := w.lc i p ds0 hp h0
  have pl := mem_of_get hp
  refine ⟨⟨fun a u e => ?_, w.rlen, by simp [w.llen], w.nd, fun j a c h1 h2 => ?_, fun j a es h1 h2 => ?_, fun a ha => ?_⟩, ⟨fun a u e => e, List.prefix_refl _, List.prefix_refl _, fun a u e _ n => ?_, fun a e => ?_, fun a e => .inl e, fun a e => .inl e, fun a u e => .inl e⟩⟩
  · rw [upd_ne (ne_of_none e hG)]
    exact w.le a u e
  · obtain ⟨q1, q2⟩ := w.dc j a c h1 h2
    have na : a ≠ p := fun z => by
      subst z
      exact w.rl (mem_of_get h1) pl
    exact ⟨q1, CellAt.mono (fun _ _ e => e) (List.prefix_refl _) (upd_ne na) q2⟩
  · by_cases z : i = j
    · subst z
      rw [hp] at h1
      cases h1
      have lt : i < M.L.length := by
        rcases Nat.lt_or_ge i M.L.length with q | q
        · exact q
        · rw [List.getElem?_eq_none q] at h0; cases h0
      have h2' : (M.L.set i (some ds))[i]? = some (some es) := h2
      rw [List.getElem?_set_self lt] at h2'
      cases h2'
      exact ⟨hG, xs, upd_same, h⟩
    · have h2' : (M.L.set i (some ds))[j]? = some (some es) := h2
      rw [List.getElem?_set_ne z] at h2'
      obtain ⟨q1, ys, q2, q3⟩ := w.lc j a es h1 h2'
      refine ⟨q1, ys, (upd_ne fun y => z ?_).trans q2, q3⟩
      subst y
      exact nodup_get (List.nodup_append.mp w.nd).2.1 hp h1
  · by_cases z : a = p
    · subst z
      rw [upd_same]
      exact fun q => nomatch q
    · rw [upd_ne z]
      exact w.tr a ha
  · rw [upd_ne fun z => n (by subst z; exact pl)]
    exact e
  · by_cases z : a = p
    · subst z
      rw [upd_same] at e
      cases e
    · rw [upd_ne z] at e
      exact e
/-- one of the frame's own lists never changes any more -/
theorem Wd.freeze (w : Wd K B M H) {i : Nat} {p : Addr} (hp : B.l[i]? = some p) {ds : List PyData} (h0 : M.L[i]? = some (some ds)) :
    ∃ B', Wd K B' { M with L := M.L.set i none } H ∧ Ext B H B' H ∧ Rp K B'.G (.ref p) (.list ds) := by
  obtain ⟨hG, xs, e0, h⟩ := w.lc i p ds hp h0
  have pl := mem_of_get hp
  refine ⟨{ B with G := upd B.G p (.lst xs) }, ⟨fun a u e => ?_, w.rlen, by simp [w.llen], w.nd, fun j a c h1 h2 => ?_, fun j a es h1 h2 => ?_, w.tr⟩, ⟨upd_keep hG, List.prefix_refl _, List.prefix_refl _, fun a u e _ n => e, fun a e => e, fun a e => .inl e, fun a e => .inl e, fun a u e => ?_⟩, .lst upd_same (RpA.mono (upd_keep hG) h)⟩
  · by_cases z : a = p
    · subst z
      rw [show ({ B with G := upd B.G a (.lst xs) } : Bk).G = upd B.G a (.lst xs) from rfl, upd_same] at e
      rw [e0]
      exact e
    · have e' : upd B.G p (.lst xs) a = some u := e
      rw [upd_ne z] at e'
      exact w.le a u e'
  · obtain ⟨q1, q2⟩ := w.dc j a c h1 h2
    have na : a ≠ p := fun z => by
      subst z
      exact w.rl (mem_of_get h1) pl
    exact ⟨(upd_ne na).trans q1, CellAt.mono (upd_keep hG) (List.prefix_refl _) rfl q2⟩
  · by_cases z : i = j
    · subst z
      have lt : i < M.L.length := by
        rcases Nat.lt_or_ge i M.L.length with q | q
        · exact q
        · rw [List.getElem?_eq_none q] at h0; cases h0
      have h2' : (M.L.set i none)[i]? = some (some es) := h2
      rw [List.getElem?_set_self lt] at h2'
      cases h2'
    · have h2' : (M.L.set i none)[j]? = some (some es) := h2
      rw [List.getElem?_set_ne z] at h2'
      obtain ⟨q1, ys, q2, q3⟩ := w.lc j a es h1 h2'
      refine ⟨(upd_ne fun y => z ?_).trans q1, ys, q2, RpA.mono (upd_keep hG) q3⟩
      subst y
      exact nodup_get (List.nodup_append.mp w.nd).2.1 hp h1
  · by_cases z : a = p
    · subst z
      exact .inr (.inr pl)
    · have e' : upd B.G p (.lst xs) a = some u := e
      rw [upd_ne z] at e'
      exact .inl e'
/-- a new object of the deck -/
theorem Wd.newD (w : Wd K B M H) {p : Addr} (hp : H p = none) {o : HO} {c : Cell} (h : ∀ H', H' p = some o → CellAt K { B with r := B.r ++ [p] } H' p c) :
    Wd K { B with r := B.r ++ [p] } { M with D := M.D ++ [c] } (upd H p o) ∧ Ext B H { B with r := B.r ++ [p] } (upd H p o) := by
  obtain ⟨hG, hr, hl⟩ := w.fresh hp
  have ne : ∀ {a : Addr}, a ∈ B.r ++ B.l → a ≠ p := fun {a} ha z => by
    rw [z] at ha
    exact w.tr _ ha hp
  refine ⟨⟨fun a u e => upd_keep hp a u (w.le a u e), by simp [w.rlen], w.llen, ?_, fun i a c' h1 h2 => ?_, fun i a es h1 h2 => ?_, fun a ha => ?_⟩, ⟨fun a u e => e, List.prefix_append _ _, List.prefix_refl _, fun a u e _ _ => upd_keep hp a u e, fun a e => ?_, fun a e => ?_, fun a e => .inl e, fun a u e => .inl e⟩⟩
  · show ((B.r ++ [p]) ++ B.l).Nodup
    rw [List.nodup_append]
    obtain ⟨n1, n2, n3⟩ := List.nodup_append.mp w.nd
    refine ⟨nodup_snoc n1 hr, n2, fun x hx y hy z => ?_⟩
    rcases List.mem_append.mp hx with q | q
    · exact n3 x q y hy z
    · rw [List.mem_singleton] at q
      subst z
      subst q
      exact hl hy
  · have h1' : (B.r ++ [p])[i]? = some a := h1
    have h2' : (M.D ++ [c])[i]? = some c' := h2
    rcases Nat.lt_or_ge i B.r.length with z | z
    · rw [List.getElem?_append_left z] at h1'
      rw [List.getElem?_append_left (by rw [← w.rlen]; exact z)] at h2'
      obtain ⟨q1, q2⟩ := w.dc i a c' h1' h2'
      exact ⟨q1, CellAt.mono (B := B) (B' := { B with r := B.r ++ [p] }) (fun _ _ e => e) (List.prefix_append _ _) (upd_ne (ne (List.mem_append_left _ (mem_of_get h1')))) q2⟩
    · rw [List.getElem?_append_right z] at h1'
      rw [List.getElem?_append_right (by rw [← w.rlen]; exact z), ← w.rlen] at h2'
      cases j : i - B.r.length with
      | succ k => rw [j] at h1'; simp at h1'
      | zero =>
        rw [j] at h1' h2'
        simp only [List.getElem?_cons_zero, Option.some.injEq] at h1' h2'
        subst h1'
        subst h2'
        exact ⟨hG, h _ upd_same⟩
  · obtain ⟨q1, ys, q2, q3⟩ := w.lc i a es h1 h2
    exact ⟨q1, ys, (upd_ne (ne (List.mem_append_right _ (mem_of_get h1)))).trans q2, q3⟩
  · have ha' : a ∈ (B.r ++ [p]) ++ B.l := ha
    rcases List.mem_append.mp ha' with z | z
    · rcases List.mem_append.mp z with z | z
      · rw [upd_ne (ne (List.mem_append_left _ z))]
        exact w.tr a (List.mem_append_left _ z)
      · rw [List.mem_singleton] at z
        subst z
        rw [upd_same]
        exact fun q => nomatch q
    · rw [upd_ne (ne (List.mem_append_right _ z))]
      exact w.tr a (List.mem_append_right _ z)
  · by_cases z : a = p
    · subst z
      exact hp
    · rw [upd_ne z] at e
      exact e
  · rcases List.mem_append.mp e with z | z
    · exact .inl z
    · rw [List.mem_singleton] at z
      subst z
      exact .inr hp
/-- an object of the deck is written -/
theorem Wd.setD (w : Wd K B M H) {i : Nat} {p : Addr} (hp : B.r[i]? = some p) {c0 : Cell} (h0 : M.D[i]? = some c0) {o : HO} {c : Cell} (h : ∀ H', H' p = some o → CellAt K B H' p c) :
    Wd K B { M with D := M.D.set i c } (upd H p o) ∧ Ext B H B (upd H p o) := by
  obtain ⟨hG, _⟩ := w.dc i p c0 hp h0
  have pl := mem_of_get hp
  refine ⟨⟨fun a u e => ?_, by simp [w.rlen], w.llen, w.nd, fun j a c' h1 h2 => ?_, fun j a es h1 h2 => ?_, fun a ha => ?_⟩, ⟨fun a u e => e, List.prefix_refl _, List.prefix_refl _, fun a u e n _ => ?_, fun a e => ?_, fun a e => .inl e, fun a e => .inl e, fun a u e => .inl e⟩⟩
  · rw [upd_ne (ne_of_none e hG)]
    exact w.le a u e
  · by_cases z : i = j
    · subst z
      rw [hp] at h1
      cases h1
      have lt : i < M.D.length := by
        rcases Nat.lt_or_ge i M.D.length with q | q
        · exact q
        · rw [List.getElem?_eq_none q] at h0; cases h0
      have h2' : (M.D.set i c)[i]? = some c' := h2
      rw [List.getElem?_set_self lt] at h2'
      cases h2'
      exact ⟨hG, h _ upd_same⟩
    · have h2' : (M.D.set i c)[j]? = some c' := h2
      rw [List.getElem?_set_ne z] at h2'
      obtain ⟨q1, q2⟩ := w.dc j a c' h1 h2'
      refine ⟨q1, CellAt.mono (fun _ _ e => e) (List.prefix_refl _) (upd_ne fun y => z ?_) q2⟩
      subst y
      exact nodup_get (List.nodup_append.mp w.nd).1 hp h1
  · obtain ⟨q1, ys, q2, q3⟩ := w.lc j a es h1 h2
    refine ⟨q1, ys, (upd_ne fun z => ?_).trans q2, q3⟩
    subst z
    exact w.rl pl (mem_of_get h1)
  · by_cases z : a = p
    · subst z
      rw [upd_same]
      exact fun q => nomatch q
    · rw [upd_ne z]
      exact w.tr a ha
  · rw [upd_ne fun z => n (by subst z; exact pl)]
    exact e
  · by_cases z : a = p
    · subst z
      rw [upd_same] at e
      cases e
    · rw [upd_ne z] at e
      exact e
end
end L3
set_option Elab.async false
set_option linter.all false
set_option maxRecDepth 100000
namespace L3
open PySem PySem.Spec L2 PyProof.Rows
def nuT (us : List Value) : Obj := { cls := .type "tuple", data := .seq us.toArray }
theorem okC {P : Program} {w : World} {H : Hp} {h : Heap} {a : Addr} {us : List Value} {xs : List V} (z : xs.length ≤ sizeLine) (r : Vals xs us) (e : h.get? a = some (nuT us)) : ObjOk P w H h a (.frz (nuT us) (.tup xs)) := by
  unfold L2.ObjOk
  refine ⟨e, ?_⟩
  unfold L2.ObjOk
  exact ⟨z, us, r, _, e, rfl, 0, rfl⟩
section
variable {X : Cx} {es : List Expr} {t : TA} {pos : Pos}
def tTupC (t : TA) : TE := fun σ H Q => t σ H fun xs H1 => xs.length ≤ sizeLine ∧ ∀ (p : Addr) (o : Obj), H1 p = none → o.dict = none → Q (.ref p) (upd H1 p (.frz o (.tup xs)))
theorem pe_tupC {x1 : Nat} (h : PA X es t) : PE X (.Tuple es x1 pos) (tTupC t) := ⟨fun pins s σ H Q I hq => by
  refine wpAny_Tuple_spliced (thn (h.run pos pins s σ H (fun xs H1 => xs.length ≤ sizeLine ∧ ∀ (p : Addr) (o : Obj), H1 p = none → o.dict = none → Q (.ref p) (upd H1 p (.frz o (.tup xs)))) I hq) fun us s1 ⟨xs, H1, I1, r, z, q⟩ => ?_)
  refine ⟨by rw [← r.length]; exact z, ?_⟩
  exact ⟨.ref s1.heap.objs.size, upd H1 s1.heap.objs.size (.frz (nuT us) (.tup xs)), I1.laid (fun b u e => Heap.get?_push_of_some _ e) (Nat.le_refl _) (okC z r (Heap.get?_push_size _ rfl)), rfl, q _ _ (I1.hok.fresh (Nat.le_refl _)) rfl⟩⟩
def rCatC (K : PySem.W.Frag) : R2 := fun x y H Q => ∃ a b xs ys, x = .ref a ∧ y = .ref b ∧ SqT K H a xs ∧ SqT K H b ys ∧ xs.length + ys.length ≤ sizeLine ∧ (xs = [] → Q (.ref b) H) ∧ (xs ≠ [] → ys = [] → Q (.ref a) H) ∧
  (xs ≠ [] → ys ≠ [] → ∀ (p : Addr) (o : Obj), H p = none → o.dict = none → Q (.ref p) (upd H p (.frz o (.tup (xs ++ ys)))))
theorem op_catC : OpR X (binaryOp .Add) (rCatC X.K) := by
  intro pins s σ H x y v u Q I rx ry h
  obtain ⟨a, b, xs, ys, rfl, rfl, ha, hb, hz, q0, q1, q2⟩ := h
  by_cases hx : xs = []
  · exact op_catA pins s σ H (.ref a) (.ref b) v u Q I rx ry ⟨a, b, xs, ys, rfl, rfl, ha, hb, hz, q0, q1, fun z => absurd hx z⟩
  · cases rx
    cases ry
    obtain ⟨us, r1, p1, _⟩ := I.tuple ha
    obtain ⟨vs, r2, p2, _⟩ := I.tuple hb
    refine HT.cat_tup p1 p2 (fun z => hx ?_) (fun z => ?_) (fun z => ?_) (by rw [← r1.length, ← r2.length]; exact hz)
    · subst z
      cases r1
      rfl
    · subst z
      cases r2
      exact ⟨.ref a, H, I, rfl, q1 hx rfl⟩
    · have hy : ys ≠ [] := fun e => by
        subst e
        cases r2
        exact z rfl
      exact ⟨.ref s.heap.objs.size, upd H s.heap.objs.size (.frz (nuT (us ++ vs)) (.tup (xs ++ ys))), I.laid (fun b u e => Heap.get?_push_of_some _ e) (Nat.le_refl _) (okC (by rw [List.length_append]; exact hz) (Vals.append r1 r2) (Heap.get?_push_size _ rfl)), rfl, q2 hx hy _ _ (I.hok.fresh (Nat.le_refl _)) rfl⟩
def rSlC (K : PySem.W.Frag) : V → Option Int → Option Int → Hp → VK → Prop := fun x lo hi H Q => ∃ a xs, x = .ref a ∧ SqT K H a xs ∧ (HT.sIx xs.length 0 lo = 0 ∧ HT.sIx xs.length xs.length hi = xs.length → Q (.ref a) H) ∧
  (¬(HT.sIx xs.length 0 lo = 0 ∧ HT.sIx xs.length xs.length hi = xs.length) → ∀ (p : Addr) (o : Obj), H p = none → o.dict = none → Q (.ref p) (upd H p (.frz o (.tup (cutV xs lo hi)))))
theorem sl_tupC : SlR X (rSlC X.K) := by
  intro pins s σ H x v vl vu lo hi sl Q I rx hs pl pu h
  obtain ⟨a, xs, rfl, ha, q1, q2⟩ := h
  by_cases hw : HT.sIx xs.length 0 lo = 0 ∧ HT.sIx xs.length xs.length hi = xs.length
  · exact sl_tupA pins s σ H (.ref a) v vl vu lo hi sl Q I rx hs pl pu ⟨a, xs, rfl, ha, q1, fun z => absurd hw z⟩
  · cases rx
    obtain ⟨us, r1, p1, hz⟩ := I.tuple ha
    have e : us.toArray.size = xs.length := by rw [r1.length]; simp
    have p2 := p1
    obtain ⟨o, ho, hc, _⟩ := p2
    refine ⟨"tuple", "tuple.__getitem__", slot_tuple_getitem.lookup, ⟨o, ho, hc⟩, HT.getItem_tuple_cut p1 hs pl pu (by rw [e]; exact hw) ?_ (by rw [e]; exact hz)⟩
    rw [e]
    have r3 : Vals (cutV xs lo hi) (List.take (HT.sIx xs.length xs.length hi - HT.sIx xs.length 0 lo) (List.drop (HT.sIx xs.length 0 lo) us)) := Vals.take _ (Vals.drop _ r1)
    exact ⟨.ref s.heap.objs.size, upd H s.heap.objs.size (.frz (nuT _) (.tup (cutV xs lo hi))), I.laid (fun b u e => Heap.get?_push_of_some _ e) (Nat.le_refl _) (okC (by
      unfold cutV
      rw [List.length_take, List.length_drop]
      omega) r3 (Heap.get?_push_size _ rfl)), rfl, q2 hw _ _ (I.hok.fresh (Nat.le_refl _)) rfl⟩
theorem call_tupleC : CallR X (.type "tuple") fun xs H Q => ∃ p ys, xs = [V.ref p] ∧ ((SqL X.K H p ys ∧ ∀ (l : Addr) (o : Obj), H l = none → o.dict = none → Q (.ref l) (upd H l (.frz o (.tup ys)))) ∨ (SqT X.K H p ys ∧ Q (.ref p) H)) := by
  intro pins s σ H xs us Q I r h
  obtain ⟨p, ys, rfl, h⟩ := h
  rcases h with ⟨hl, q⟩ | h
  · rw [Vals.ref1 r]
    obtain ⟨its, rv, pl, hz⟩ := I.list hl
    obtain ⟨o, n, h1, h2⟩ := pl
    refine call_tuple_list (items := its.toArray) ⟨o, h1, h2.1, n, h2.2.2⟩ (fun h' hk => ?_) (by simpa [← rv.length] using hz)
    have I2 := I.kept (t' := s.toks) hk
    exact ⟨.ref h'.objs.size, upd H h'.objs.size (.frz (nuT its) (.tup ys)), I2.laid (fun b u e => Heap.get?_push_of_some _ e) (Nat.le_refl _) (okC hz rv (Heap.get?_push_size _ rfl)), rfl, q _ _ (I2.hok.fresh (Nat.le_refl _)) rfl⟩
  · exact call_tuple_of pins s σ H _ us Q I r ⟨p, ys, rfl, .inr h⟩
/-- t * n, n from 2 on -/
def rRepC (K : PySem.W.Frag) : R2 := fun x y H Q => ∃ l k xs, x = .ref l ∧ y = .int k ∧ SqT K H l xs ∧ xs ≠ [] ∧ 2 ≤ k ∧ k ≤ 1000 ∧ xs.length ≤ 1000 ∧ ∀ (p : Addr) (o : Obj), H p = none → o.dict = none → Q (.ref p) (upd H p (.frz o (.tup (List.replicate k.toNat xs).flatten)))
theorem vals_rep {xs : List V} {us : List Value} (r : Vals xs us) : ∀ n : Nat, Vals (List.replicate n xs).flatten (List.replicate n us).flatten
  | 0 => .nil
  | n + 1 => by
    rw [List.replicate_succ, List.replicate_succ, List.flatten_cons, List.flatten_cons]
    exact Vals.append r (vals_rep r n)
theorem foldl_rep (us : List Value) : ∀ (n : Nat) (a : Array Value), (List.replicate n us.toArray).foldl (fun x1 x2 => x1 ++ x2) a = a ++ (List.replicate n us).flatten.toArray
  | 0, a => by simp
  | n + 1, a => by
    rw [List.replicate_succ, List.foldl_cons, foldl_rep us n, List.replicate_succ, List.flatten_cons]
    simp
theorem op_repC : OpR X (binaryOp .Mult) (rRepC X.K) := by
  intro pins s σ H x y v u Q I rx ry h
  obtain ⟨l, k, xs, rfl, rfl, hT, hne, k2, k3, hl, q⟩ := h
  cases rx
  obtain ⟨t, rfl⟩ := ry
  obtain ⟨its, r, ⟨⟨cls, dd, data, sl⟩, ho, hc, n, hd⟩, hs⟩ := I.tuple hT
  simp only at hc hd
  subst hc hd
  have hlen := r.length
  have hi : its.toArray.isEmpty = false := by
    cases r with
    | nil => exact absurd rfl hne
    | cons _ _ => rfl
  have hsz : its.toArray.size = xs.length := by rw [hlen]; simp
  have hm : (xs.length : Int) * k ≤ 1000 * 1000 := Int.mul_le_mul (by omega) k3 (by omega) (by omega)
  have hm0 : 0 ≤ (xs.length : Int) * k := Int.mul_nonneg (by omega) (by omega)
  have hf : ((List.replicate k.toNat xs).flatten).length ≤ sizeLine := by
    rw [List.length_flatten, List.map_replicate, List.sum_replicate_nat]
    have : k.toNat * xs.length ≤ 1000 * 1000 := Nat.mul_le_mul (by omega) hl
    exact Nat.le_trans this (by decide)
  have r3 := vals_rep r k.toNat
  have e3 : (List.foldl (fun x1 x2 => x1 ++ x2) #[] (List.replicate k.toNat its.toArray)) = ((List.replicate k.toNat its).flatten).toArray := by
    rw [foldl_rep]
    simp
  refine wpAny_binaryOp_repeat_ref (T := "tuple") (U := "int") (by decide) ⟨_, ho, rfl⟩ (fun s' => typeIs_int s' k t) noFill_tuple_mul F.fills_int_mul F.slot_int_rmul repeat_tuple F.slot_int_index.lookup
    (call_meets F.slot_int_rmul (typeIs_int s k t) F.entry_int_rmul (F.args_int_rmul_2 _ _) (int_rmul_tuple k t l its.toArray n dd sl)
      ⟨ho, rfl, ⟨_, ho, rfl⟩, call_meets F.slot_tuple_mul ⟨_, ho, rfl⟩ F.entry_tuple_mul (F.args_tuple_mul_2 _ _) (tuple_mulW l its.toArray n dd sl k t (by simp; omega) (by rw [hi]; simp; omega) (by rw [hi]; simp; omega) (by rw [hsz]; omega) ?_ ?_) ⟨ho, ?_⟩⟩)
  · unfold Builtin.Tuple.tupleTooMany
    rw [hsz]
    refine decide_eq_false ?_
    have : (sizeLine : Int) ≥ 1000 * 1000 := by decide
    omega
  · rw [e3]
    have := r3.length
    simp only [List.size_toArray]
    omega
  · rw [e3]
    exact ⟨.ref s.heap.objs.size, upd H s.heap.objs.size (.frz (nuT _) (.tup (List.replicate k.toNat xs).flatten)), I.laid (fun b u e => Heap.get?_push_of_some _ e) (Nat.le_refl _) (okC hf r3 (Heap.get?_push_size _ rfl)), rfl, q _ _ (I.hok.fresh (Nat.le_refl _)) rfl⟩
theorem ints_get : ∀ {vs : List Value} {ns : List Int}, IntsAre vs ns → ∀ (i : Nat) (h1 : i < vs.length) (h2 : i < ns.length), ∃ t, vs[i] = Value.int ns[i] t
  | _, _, .nil, i, h1, _ => absurd h1 (Nat.not_lt_zero i)
  | _, _, .cons n t q, 0, _, _ => ⟨t, rfl⟩
  | _, _, .cons n t q, i + 1, h1, h2 => ints_get q i (Nat.lt_of_succ_lt_succ h1) (Nat.lt_of_succ_lt_succ h2)
theorem loop_count {prog : Program} {w : World} {A : Around} {E : Value → Shared → Prop} {s : Shared} {items : Array Value} {ns : List Int} {k : Int} {f : (a : Value) → a ∈ items → Nat → Sem (ForInStep Nat)} (hi : IntsAre items.toList ns)
    (hf : ∀ a m acc p t, a = Value.int p t → ∀ Q : ForInStep Nat → Shared → Prop, Q (.yield (if p = k then acc + 1 else acc)) s → wpAny (model prog w) A (f a m acc) Q E s) :
    ∀ (i : Nat) (h : i ≤ items.size) (acc : Nat) (Q : Nat → Shared → Prop), Q (acc + (ns.drop (items.size - i)).count k) s → wpAny (model prog w) A (Array.forIn'.loop items f i h acc) Q E s
  | 0, h, acc, Q, q => by
    unfold Array.forIn'.loop
    have hl : ns.length = items.size := by
      have h2 := hi.length
      simpa using h2.symm
    rw [Nat.sub_zero, ← hl, List.drop_length] at q
    exact wpAny_pure q
  | i + 1, h, acc, Q, q => by
    have hl : ns.length = items.size := by
      have h2 := hi.length
      simpa using h2.symm
    unfold Array.forIn'.loop
    have hj : items.size - 1 - i < items.size := by omega
    obtain ⟨t, ht⟩ : ∃ t, items[items.size - 1 - i] = Value.int (ns[items.size - 1 - i]'(by omega)) t := ints_get hi _ (by simpa using hj) (by omega)
    refine wpAny_bind (hf _ _ acc _ t ht _ ?_)
    refine loop_count hi hf i _ _ Q ?_
    have e : items.size - (i + 1) = items.size - 1 - i := by omega
    have e2 : items.size - i = items.size - 1 - i + 1 := by omega
    rw [e, List.drop_eq_getElem_cons (by omega), List.count_cons, ← e2] at q
    by_cases hk : ns[items.size - 1 - i]'(by omega) = k
    · rw [if_pos hk]
      rw [beq_iff_eq.mpr hk, if_pos rfl] at q
      have e3 : acc + 1 + List.count k (List.drop (items.size - i) ns) = acc + (List.count k (List.drop (items.size - i) ns) + 1) := by omega
      rw [e3]
      exact q
    · rw [if_neg hk]
      have hk2 : (ns[items.size - 1 - i]'(by omega) == k) = false := beq_false_of_ne hk
      rw [hk2] at q
      simpa using q
theorem tuple_count (l : Addr) (items : Array Value) (n : Nat) (dd : Option Addr) (sl : Array (Option Value)) (ns : List Int) (k : Int) (u : Tok) (hi : IntsAre items.toList ns) :
    Meets (Builtin.«tuple.count» ⟨[.ref l, .int k u], []⟩) (fun _ R s => s.heap.get? l = some { cls := .type "tuple", dict := dd, data := .seq items n, slots := sl } ∧
      ∀ t tk, R (.ok (.ret (Value.int (ns.count k : Nat) t))) { s with toks := tk }) :=
  .of_wp fun prog w A R s h => by
    obtain ⟨hl, h⟩ := h
    wp_walk using wpAny_tupleItemsOf hl rfl
    refine loop_count (k := k) hi (fun a m acc p t ha Q q => ?_) items.size (Nat.le_refl _) 0 _ ?_
    · subst ha
      refine wpAny_bind (SeqAt.EqAt.int_int p t k u prog w _ _ ?_)
      by_cases hp : p = k
      · rw [beq_iff_eq.mpr hp, if_pos rfl]
        rw [if_pos hp] at q
        exact wpAny_pure q
      · rw [beq_false_of_ne hp, if_neg Bool.false_ne_true]
        rw [if_neg hp] at q
        exact wpAny_pure q
    · rw [Nat.sub_self, List.drop_zero, Nat.zero_add]
      wp_walk
      exact ⟨_, rfl, h _ _⟩
theorem tupC_is {pins : List (Addr × Obj)} {σ : L2.St} {H : Hp} {s : Shared} {a : Addr} {xs : List V} (I : Inv X pins σ H s) (h : TupC X.K H a xs) : s.TypeIs (.ref a) "tuple" ∧ ∃ ob, s.heap.get? a = some ob ∧ ob.dict = none := by
  rcases h with ⟨o, e, hd⟩ | ⟨o, its, n, h1, h2, h3, h4, h5, h6⟩
  · have ok := I.hok a _ e
    unfold L2.ObjOk at ok
    obtain ⟨g, t⟩ := ok
    unfold L2.ObjOk at t
    obtain ⟨_, us, _, o2, g2, c2, _⟩ := t
    exact ⟨⟨o2, g2, c2⟩, o, g, hd⟩
  · have := tyV_is (v := .ref a) (T := "tuple") (x := .ref a) I rfl (.inr (.inl ⟨rfl, o, h1, h2, h3⟩))
    exact ⟨this.1, this.2 a rfl⟩
def tCnt (K : PySem.W.Frag) (to : TE) (t : TA) : TE := fun σ H Q => to σ H fun x H1 => ∃ a xs, x = .ref a ∧ TupC K H1 a xs ∧ t σ H1 fun vs H2 => ∃ (ns : List Int) (k : Int), vs = [.int k] ∧ SqT K H2 a (ns.map V.int) ∧ Q (.int (ns.count k : Nat)) H2
theorem pe_tcount {o e : Expr} {to : TE} {t : TA} {apos cpos : Pos} (ho : PE X o to) (ha : PA X [e] t)
    (hbase : attributeBase o "count" X.env (eval o X.env) = eval o X.env := by rfl)
    (hfew : ((backTo cpos (starEach [e] X.env)).all (fun x => !x.1) && (backToKw cpos (keywordEach [] X.env)).all (fun x => x.1.isSome) && decide (([e] : List Expr).length + ([] : List Keyword).length + (if ([] : List Keyword).isEmpty then 0 else 1) < 30)) = true := by rfl)
    (hline : (apos.endLine == cpos.line) = true := by rfl) (hs : starEach [e] X.env = (false, eval e X.env) :: starEach [] X.env := by rfl) (hpl : (backTo cpos (starEach [] X.env)).any (·.1) = false := by rfl) :
    PE X (.Call (.Attribute o "count" apos) [e] [] cpos) (tCnt X.K to t) := ⟨fun pins s σ H Q I h => by
  refine wpAny_Call_method_late hbase hfew hline rfl (thn (ho.run pins s σ H (fun x H1 => ∃ a xs, x = .ref a ∧ TupC X.K H1 a xs ∧ t σ H1 fun vs H2 => ∃ (ns : List Int) (k : Int), vs = [.int k] ∧ SqT X.K H2 a (ns.map V.int) ∧ Q (.int (ns.count k : Nat)) H2) I h) fun v s1 ⟨x, H1, I1, r1, a, xs, ex, hT, q1⟩ => ?_)
  subst ex
  cases r1
  obtain ⟨h1, ob, h2, h3⟩ := tupC_is I1 hT
  refine ⟨"tuple", "tuple.count", F.plainAttrs_tuple, F.slot_tuple_count, F.type_tuple_count, h1, fun b hb => ?_, ?_⟩
  · cases hb
    exact ⟨ob, h2, h3⟩
  · have hA := ha.run cpos pins s1 σ H1 (fun vs H2 => ∃ (ns : List Int) (k : Int), vs = [.int k] ∧ SqT X.K H2 a (ns.map V.int) ∧ Q (.int (ns.count k : Nat)) H2) I1 q1
    rw [hs] at hA ⊢
    refine Calls.callWith_builtin (by
      show (false || (backTo cpos (starEach [] X.env)).any (·.1)) = false
      rw [hpl]
      rfl) (Calls.evalArgs_plain (thn hA fun us s2 ⟨vs, H2, I2, r2, ns, k, e2, hq, q2⟩ => ?_))
    subst e2
    obtain ⟨u, rfl, ru⟩ := Vals.one r2
    obtain ⟨t0, rfl⟩ := ru
    obtain ⟨its, rv, ⟨⟨cls, dd, data, sl⟩, hg, hc, n, hd⟩, _⟩ := I2.tuple hq
    simp only at hc hd
    subst hc hd
    refine call_meets F.slot_tuple_count ⟨_, hg, rfl⟩ F.entry_tuple_count (F.args_tuple_count_2 _ _) (tuple_count a its.toArray n dd sl ns k t0 (by simpa using ints_of_vals rv)) ⟨hg, fun t tk => ?_⟩
    exact ⟨.int (ns.count k : Nat), H2, I2.kept (t' := tk) fun _ _ z => z, ⟨t, rfl⟩, q2⟩⟩
end
end L3
set_option Elab.async false
set_option linter.all false
set_option maxRecDepth 100000
namespace L3
open PySem PySem.Spec L2
theorem OpR.or {X : Cx} {f : Value → Value → Sem Value} {r q : R2} (h : OpR X f r) (k : OpR X f q) : OpR X f (fun x y H Q => r x y H Q ∨ q x y H Q) := by
  intro pn sh sg hp a b va vb W iv ra rb z
  exact z.elim (h pn sh sg hp a b va vb W iv ra rb) (k pn sh sg hp a b va vb W iv ra rb)
theorem CallR.or {X : Cx} {f : Value} {r q : List V → Hp → VK → Prop} (h : CallR X f r) (k : CallR X f q) : CallR X f (fun x H Q => r x H Q ∨ q x H Q) := by
  intro pn sh sg hp a va W iv ra z
  exact z.elim (h pn sh sg hp a va W iv ra) (k pn sh sg hp a va W iv ra)
/-- what a value is now, as a tree -/
def now (t : T) (M : Mem) : Option PyData := match t with
  | .d x => some x
  | .lr i => match M.L[i]? with
    | some (some ds) => some (.list ds)
    | _ => none
  | .mr i => match M.D[i]? with
    | some (.lst ts) => (datas ts).map .list
    | _ => none
  | .scr ns => some (.list (ns.map .int))
  | .wt _ => none
  | .exo .. => none
section
variable {K : PySem.W.Frag} {B : Bk} {M : Mem} {H : Hp}
theorem Wd.dpNow (w : Wd K B M H) {v : V} {t : T} {x : PyData} (r : Rt K B v t) (e : now t M = some x) : Dp K H v x := by
  cases t with
  | d y => cases e; exact Rp.dp (w.rp r)
  | lr i =>
    obtain ⟨a, rfl, ha⟩ := r
    unfold now at e
    cases h : M.L[i]? with
    | none => simp [h] at e
    | some o =>
      cases o with
      | none => simp [h] at e
      | some ds =>
        simp only [h] at e
        cases e
        obtain ⟨_, xs, h1, h2⟩ := w.lc i a ds ha h
        exact .lst (.inl (.inl h1)) (RpA.dp (w.rpa h2))
  | mr i =>
    obtain ⟨a, rfl, ha⟩ := r
    unfold now at e
    cases h : M.D[i]? with
    | none => simp [h] at e
    | some o =>
      cases o with
      | dct _ => simp [h] at e
      | dnk _ => simp [h] at e
      | held _ => simp [h] at e
      | exc _ _ => simp [h] at e
      | dnd _ => simp [h] at e
      | lst ts =>
        simp only [h] at e
        cases q : datas ts with
        | none => rw [q] at e; cases e
        | some ds =>
          rw [q] at e
          cases e
          obtain ⟨_, xs, h1, h2⟩ := w.dc i a _ ha h
          exact .lst (.inl (.inl h1)) (RpA.dp (w.rpa (datas_rpa (B := { B with l := [] }) h2 q)))
  | scr ns =>
    obtain ⟨a, rfl, ha⟩ := r
    cases e
    refine .lst (SqL.mono w.le ha) ?_
    exact RpA.dp (G := H) (RpA.of_ints ns)
  | wt xs => cases e
  | exo a c d e' => cases e
end
def oI (C : Int → Int → Prop) (g : Int → Int → PyData) : F2 := fun x y M Q => match x, y with
  | .d (.int i), .d (.int j) => C i j ∧ Q (.d (g i j)) M
  | _, _ => False
theorem opl_I {K : PySem.W.Frag} {C : Int → Int → Prop} {gV : Int → Int → V} {g : Int → Int → PyData} (hg : ∀ i j G, Rp K G (gV i j) (g i j)) : OpL K (rI C gV) (oI C g) := by
  intro x y t u M B H Q Q' h w rx ry k
  unfold oI at h
  split at h
  · cases rx
    cases ry
    obtain ⟨c, q⟩ := h
    exact ⟨_, _, rfl, rfl, c, k _ _ M B H q w (.refl _ _) (hg _ _ _)⟩
  · exact h.elim
theorem opl_I0 {K : PySem.W.Frag} {gV : Int → Int → V} {g : Int → Int → PyData} (hg : ∀ i j G, Rp K G (gV i j) (g i j)) : OpL K (rI0 gV) (oI (fun _ _ => True) g) := by
  intro x y t u M B H Q Q' h w rx ry k
  obtain ⟨i, j, e1, e2, _, q⟩ := opl_I (C := fun _ _ => True) hg x y t u M B H Q Q' h w rx ry k
  exact ⟨i, j, e1, e2, q⟩
def oAdd : F2 := fun x y M Q => match x, y with
  | .d (.int i), .d (.int j) => Q (.int (i + j)) M
  | .d (.str a), .d (.str b) => a.length + b.length ≤ sizeLine ∧ Q (.str (a ++ b)) M
  | .d (.list a), .d (.list b) => a.length + b.length ≤ sizeLine ∧ Q (.lst (a ++ b)) M
  | .d (.tuple a), .d (.tuple b) => a.length + b.length ≤ sizeLine ∧ Q (.tup (a ++ b)) M
  | _, _ => False
def rAdd (K : PySem.W.Frag) : R2 := fun x y H Q => rI0 (fun i j => .int (i + j)) x y H Q ∨ ((∃ i j, x = .str i ∧ y = .str j ∧ i.length + j.length ≤ sizeLine ∧ Q (.str (i ++ j)) H) ∨ (rCat x y H Q ∨ rCatC K x y H Q))
theorem opr_add {X : Cx} : OpR X (binaryOp .Add) (rAdd X.K) := op_add.or (op_add_str.or (op_cat.or op_catC))
theorem opl_add {K : PySem.W.Frag} : OpL K (rAdd K) oAdd := by
  intro x y t u M B H Q Q' h w rx ry k
  unfold oAdd at h
  split at h
  · cases rx
    cases ry
    exact .inl ⟨_, _, rfl, rfl, k _ _ M B H h w (.refl _ _) (.int _)⟩
  · cases rx
    cases ry
    exact .inr (.inl ⟨_, _, rfl, rfl, h.1, k _ _ M B H h.2 w (.refl _ _) (.str _)⟩)
  · cases rx with
    | lst e1 q1 =>
      cases ry with
      | lst e2 q2 =>
        refine .inr (.inr (.inl ⟨_, _, _, _, rfl, rfl, w.le _ _ e1, w.le _ _ e2, ?_, fun p hp => ?_⟩))
        · rw [RpA.length q1, RpA.length q2]
          exact h.1
        · obtain ⟨w', x'⟩ := w.alloc hp (.lst (_ ++ _))
          exact k _ _ M _ _ h.2 w' x' (.lst upd_same (RpA.mono x'.g (RpA.append q1 q2)))
  · cases rx with
    | tup e1 q1 =>
      cases ry with
      | tup e2 q2 =>
        obtain ⟨hl, q⟩ := h
        refine .inr (.inr (.inr ⟨_, _, _, _, rfl, rfl, SqT.mono w.le e1, SqT.mono w.le e2, ?_, fun z => ?_, fun _ z => ?_, fun _ z p o hp ho => ?_⟩))
        · rw [RpA.length q1, RpA.length q2]
          exact hl
        · subst z
          cases q1
          exact k _ _ M B H q w (.refl _ _) (.tup e2 q2)
        · subst z
          cases q2
          rw [List.append_nil] at q
          exact k _ _ M B H q w (.refl _ _) (.tup e1 q1)
        · obtain ⟨w', x'⟩ := w.alloc hp (.frz o (.tup (_ ++ _)))
          exact k _ _ M _ _ q w' x' (.tup (.inl ⟨o, upd_same, ho⟩) (RpA.mono x'.g (RpA.append q1 q2)))
  · exact h.elim
def oMul : F2 := fun x y M Q => match x, y with
  | .d (.int i), .d (.int j) => CMul i j ∧ Q (.int (i * j)) M
  | .d (.list a), .d (.int j) => (-(2 ^ 63) ≤ j ∧ j < 2 ^ 63 ∧ a.length * j.toNat ≤ sizeLine) ∧ Q (.lst (List.replicate j.toNat a).flatten) M
  | _, _ => False
def rMul : R2 := fun x y H Q => rI CMul (fun i j => .int (i * j)) x y H Q ∨ rRep x y H Q
theorem opr_mul {X : Cx} : OpR X (binaryOp .Mult) rMul := op_mul.or op_rep
theorem opl_mul {K : PySem.W.Frag} : OpL K rMul oMul := by
  intro x y t u M B H Q Q' h w rx ry k
  unfold oMul at h
  split at h
  · cases rx
    cases ry
    exact .inl ⟨_, _, rfl, rfl, h.1, k _ _ M B H h.2 w (.refl _ _) (.int _)⟩
  · cases rx with
    | lst e1 q1 =>
      cases ry
      obtain ⟨⟨h1, h2, h3⟩, q⟩ := h
      refine .inr ⟨_, _, _, rfl, rfl, w.le _ _ e1, h1, h2, ?_, fun p hp => ?_⟩
      · rw [RpA.length q1]
        exact h3
      · obtain ⟨w', x'⟩ := w.alloc hp (.lst _)
        exact k _ _ M _ _ q w' x' (.lst upd_same (RpA.mono x'.g (RpA.rep q1 _)))
  · exact h.elim
/-- ==, != -/
def oEq (n : Bool) : F2 := fun x y M Q => match x, y with
  | .d (.str a), .d (.str b) => Q (.bl (if n then !decide (a = b) else decide (a = b))) M
  | _, _ => match now x M, now y M with
    | some a, some b => (SeqAt.shaped a = true ∧ SeqAt.shaped b = true) ∧ Q (.bl (if n then !PyData.eqv a b else PyData.eqv a b)) M
    | _, _ => False
def rEqs (K : PySem.W.Frag) : R2 := fun x y H Q => rEq x y H Q ∨ rEqD K x y H Q
def rNes (K : PySem.W.Frag) : R2 := fun x y H Q => rNe x y H Q ∨ rNeD K x y H Q
theorem dec_str {a b : Str} : decide (V.str a = V.str b) = decide (a = b) := by
  by_cases h : a = b
  · rw [h, decide_eq_true rfl, decide_eq_true rfl]
  · rw [decide_eq_false h, decide_eq_false fun z => h (V.str.inj z)]
theorem opl_eq {K : PySem.W.Frag} : OpL K (rEqs K) (oEq false) := by
  intro x y t u M B H Q Q' h w rx ry k
  unfold oEq at h
  split at h
  · cases rx
    cases ry
    exact .inl ⟨rfl, by rw [dec_str]; exact k _ _ M B H h w (.refl _ _) (.bl _)⟩
  · split at h
    · rename_i a b e1 e2
      exact .inr ⟨a, b, w.dpNow rx e1, w.dpNow ry e2, h.1.1, h.1.2, k _ _ M B H h.2 w (.refl _ _) (.bl _)⟩
    · exact h.elim
theorem opl_ne {K : PySem.W.Frag} : OpL K (rNes K) (oEq true) := by
  intro x y t u M B H Q Q' h w rx ry k
  unfold oEq at h
  split at h
  · cases rx
    cases ry
    exact .inl ⟨rfl, by rw [dec_str]; exact k _ _ M B H h w (.refl _ _) (.bl _)⟩
  · split at h
    · rename_i a b e1 e2
      exact .inr ⟨a, b, w.dpNow rx e1, w.dpNow ry e2, h.1.1, h.1.2, k _ _ M B H h.2 w (.refl _ _) (.bl _)⟩
    · exact h.elim
theorem opr_eq {X : Cx} (hu : X.A.units + 64 < cLine) : OpR X (compareOp .Eq) (rEqs X.K) := op_eq.or (op_eqD hu)
theorem opr_ne {X : Cx} (hu : X.A.units + 64 < cLine) : OpR X (compareOp .NotEq) (rNes X.K) := op_ne.or (op_neD hu)
abbrev F1 := T → Mem → Kt → Prop
def mUn (f : F1) (m : Me) : Me := fun τ M Q => m τ M fun x M1 => f x M1 Q
def oNeg : F1 := fun x M Q => match x with
  | .d (.int i) => Q (.int (-i)) M
  | _ => False
section
variable {X : Cx} {a b c e : Expr} {es : List Expr} {ma mb mc m : Me} {pos : Pos}
theorem me_neg (ha : ME X a ma) : ME X (.UnaryOp .USub a pos) (mUn oNeg ma) := PE.of (pe_un un_neg ha) fun σ H Q' ⟨τ, M, B, Q, h, w, s, k⟩ => by
  refine ⟨τ, M, B, _, h, w, s, fun v t M1 B1 H1 h1 w1 e1 r1 => ?_⟩
  unfold oNeg at h1
  split at h1
  · cases r1
    exact ⟨_, rfl, k _ _ M1 B1 H1 h1 w1 e1 (.int _)⟩
  · exact h1.elim
theorem mb_val (h : ME X e m) (he : ∀ whole, isTrue e X.env whole = (do let v ← whole; standAt e.pos; holding [v] (truthy v)) := by intro _; rfl) : MB X e (mTest m) := PT.of (pt_val h he) fun σ H Q' ⟨τ, M, B, Q, h, w, s, k⟩ => by
  refine ⟨τ, M, B, _, h, w, s, fun v t M1 B1 H1 h1 w1 e1 r1 => ?_⟩
  obtain ⟨b, rfl, q⟩ := h1
  cases r1
  exact ⟨b, rfl, k b M1 B1 H1 q w1 e1⟩
abbrev MW (X : Cx) (e : Expr) (m : Mb) : Prop := PW X e (rB X.K m)
def bAnd (t u : Mb) : Mb := fun τ M Q => t τ M fun b M1 => if b = true then u τ M1 Q else Q false M1
def bOr (t u : Mb) : Mb := fun τ M Q => t τ M fun b M1 => if b = true then Q true M1 else u τ M1 Q
def bNot (t : Mb) : Mb := fun τ M Q => t τ M fun b M1 => Q (!b) M1
variable {ta tb tc : Mb}
theorem MW.toB (h : MW X e ta) : MB X e ta := PW.pt h
theorem mw_and1 (h : MB X a ta) : MW X (.BoolOp .And [a] pos) ta := pw_and1 h
theorem mw_or1 (h : MB X a ta) : MW X (.BoolOp .Or [a] pos) ta := pw_or1 h
theorem mw_and {rest : List Expr} (h : MB X a ta) (g : MW X (.BoolOp .And (b :: rest) pos) tb) : MW X (.BoolOp .And (a :: b :: rest) pos) (bAnd ta tb) := PW.of (pw_and h g) fun σ H Q' ⟨τ, M, B, Q, h, w, s, k⟩ => by
  refine ⟨τ, M, B, _, h, w, s, fun v M1 B1 H1 h1 w1 e1 => ?_⟩
  cases v with
  | true => exact ⟨τ, M1, B1, Q, h1, w1, s.mono e1, fun v M2 B2 H2 h2 w2 e2 => k v M2 B2 H2 h2 w2 (e1.trans e2)⟩
  | false => exact k _ M1 B1 H1 h1 w1 e1
theorem mw_or {rest : List Expr} (h : MB X a ta) (g : MW X (.BoolOp .Or (b :: rest) pos) tb) : MW X (.BoolOp .Or (a :: b :: rest) pos) (bOr ta tb) := PW.of (pw_or h g) fun σ H Q' ⟨τ, M, B, Q, h, w, s, k⟩ => by
  refine ⟨τ, M, B, _, h, w, s, fun v M1 B1 H1 h1 w1 e1 => ?_⟩
  cases v with
  | false => exact ⟨τ, M1, B1, Q, h1, w1, s.mono e1, fun v M2 B2 H2 h2 w2 e2 => k v M2 B2 H2 h2 w2 (e1.trans e2)⟩
  | true => exact k _ M1 B1 H1 h1 w1 e1
theorem mb_not (h : MB X a ta) : MB X (.UnaryOp .Not a pos) (bNot ta) := PT.of (pt_not h) fun σ H Q' ⟨τ, M, B, Q, h, w, s, k⟩ => by
  exact ⟨τ, M, B, _, h, w, s, fun v M1 B1 H1 h1 w1 e1 => k _ M1 B1 H1 h1 w1 e1⟩
/-- and, or, not as values (of bools) -/
def mAnd (x y : Me) : Me := fun τ M Q => x τ M fun t M1 => match t with
  | .d (.bool true) => y τ M1 Q
  | .d (.bool false) => Q (.bl false) M1
  | _ => False
def mOr (x y : Me) : Me := fun τ M Q => x τ M fun t M1 => match t with
  | .d (.bool true) => Q (.bl true) M1
  | .d (.bool false) => y τ M1 Q
  | _ => False
def mNot (x : Me) : Me := fun τ M Q => x τ M fun t M1 => match t with
  | .d (.bool b) => Q (.bl (!b)) M1
  | _ => False
def mIte (c : Mb) (x y : Me) : Me := fun τ M Q => c τ M fun b M1 => if b = true then x τ M1 Q else y τ M1 Q
theorem me_ite (hc : MB X c ta) (ha : ME X a ma) (hb : ME X b mb) : ME X (.IfExp c a b pos) (mIte ta ma mb) := PE.of (pe_ifExp hc ha hb) fun σ H Q' ⟨τ, M, B, Q, h, w, s, k⟩ => by
  refine ⟨τ, M, B, _, h, w, s, fun v M1 B1 H1 h1 w1 e1 => ?_⟩
  cases v with
  | true => exact ⟨τ, M1, B1, Q, h1, w1, s.mono e1, fun v t M2 B2 H2 h2 w2 e2 => k v t M2 B2 H2 h2 w2 (e1.trans e2)⟩
  | false => exact ⟨τ, M1, B1, Q, h1, w1, s.mono e1, fun v t M2 B2 H2 h2 w2 e2 => k v t M2 B2 H2 h2 w2 (e1.trans e2)⟩
/-- a op b op' c -/
def mChain (f g : F2) (x y z : Me) : Me := fun τ M Q => x τ M fun a M1 => y τ M1 fun b M2 => f a b M2 fun t M3 => match t with
  | .d (.bool true) => z τ M3 fun c M4 => g b c M4 Q
  | .d (.bool false) => Q (.bl false) M3
  | _ => False
def aNil : Ma := fun _ M Q => Q [] M
def aCons (m : Me) (r : Ma) : Ma := fun τ M Q => m τ M fun x M1 => r τ M1 fun xs M2 => Q (x :: xs) M2
variable {mr : Ma}
theorem ma_nil : MA X [] aNil := PA.of pa_nil fun σ H Q' ⟨τ, M, B, Q, h, w, s, k⟩ => k _ _ M B H h w (.refl _ _) .nil
theorem ma_cons (ha : ME X e m) (hr : MA X es mr) (hs : starEach (e :: es) X.env = (false, eval e X.env) :: starEach es X.env := by rfl) : MA X (e :: es) (aCons m mr) := PA.of (pa_cons ha hr hs) fun σ H Q' ⟨τ, M, B, Q, h, w, s, k⟩ => by
  refine ⟨τ, M, B, _, h, w, s, fun v t M1 B1 H1 h1 w1 e1 r1 => ⟨τ, M1, B1, _, h1, w1, s.mono e1, fun v2 t2 M2 B2 H2 h2 w2 e2 r2 => ?_⟩⟩
  exact k _ _ M2 B2 H2 h2 w2 (e1.trans e2) (.cons (Rt.mono e2 r1) r2)
def mTup (r : Ma) : Me := fun τ M Q => r τ M fun ts M1 => match datas ts with
  | some ds => ds.length ≤ sizeLine ∧ Q (.tup ds) M1
  | none => False
def mLst (r : Ma) : Me := fun τ M Q => r τ M fun ts M1 => match datas ts with
  | some ds => ds.length ≤ sizeLine ∧ Q (.lst ds) M1
  | none => False
/-- a list display that the frame changes itself -/
def mNewL (r : Ma) : Me := fun τ M Q => r τ M fun ts M1 => match datas ts with
  | some ds => ds.length ≤ sizeLine ∧ Q (.lr M1.L.length) { M1 with L := M1.L ++ [some ds] }
  | none => False
theorem me_tup {x1 : Nat} (h : MA X es mr) : ME X (.Tuple es x1 pos) (mTup mr) := PE.of (pe_tupC h) fun σ H Q' ⟨τ, M, B, Q, h, w, s, k⟩ => by
  refine ⟨τ, M, B, _, h, w, s, fun v t M1 B1 H1 h1 w1 e1 r1 => ?_⟩
  split at h1
  · rename_i ds hd
    have q := datas_rpa r1 hd
    refine ⟨by rw [RpA.length q]; exact h1.1, fun p o hp ho => ?_⟩
    obtain ⟨w2, e2⟩ := w1.alloc hp (.frz o (.tup v))
    exact k _ _ M1 _ _ h1.2 w2 (e1.trans e2) (.tup (.inl ⟨o, upd_same, ho⟩) (RpA.mono e2.g q))
  · exact h1.elim
theorem me_lst (h : MA X es mr) : ME X (.List es pos) (mLst mr) := PE.of (pe_lst h) fun σ H Q' ⟨τ, M, B, Q, h, w, s, k⟩ => by
  refine ⟨τ, M, B, _, h, w, s, fun v t M1 B1 H1 h1 w1 e1 r1 => ?_⟩
  split at h1
  · rename_i ds hd
    have q := datas_rpa r1 hd
    refine ⟨by rw [RpA.length q]; exact h1.1, fun p hp => ?_⟩
    obtain ⟨w2, e2⟩ := w1.alloc hp (.lst v)
    exact k _ _ M1 _ _ h1.2 w2 (e1.trans e2) (.lst upd_same (RpA.mono e2.g q))
  · exact h1.elim
theorem get_snoc {α : Type} {l : List α} {a : α} : (l ++ [a])[l.length]? = some a := by
  rw [List.getElem?_append_right (Nat.le_refl _), Nat.sub_self]
  rfl
theorem me_newL (h : MA X es mr) : ME X (.List es pos) (mNewL mr) := PE.of (pe_lst h) fun σ H Q' ⟨τ, M, B, Q, h, w, s, k⟩ => by
  refine ⟨τ, M, B, _, h, w, s, fun v t M1 B1 H1 h1 w1 e1 r1 => ?_⟩
  split at h1
  · rename_i ds hd
    have q := datas_rpa r1 hd
    refine ⟨by rw [RpA.length q]; exact h1.1, fun p hp => ?_⟩
    obtain ⟨w2, e2⟩ := w1.newL hp q
    exact k _ _ _ _ _ h1.2 w2 (e1.trans e2) ⟨p, rfl, by rw [← w1.llen]; exact get_snoc⟩
  · exact h1.elim
/-- a list that is the frame's own, from a list that never changes again (list(..), [.. for ..]): no -/
def mFrz (m : Me) : Me := fun τ M Q => m τ M fun t M1 => match t with
  | .lr i => (match M1.L[i]? with
    | some (some ds) => Q (.lst ds) { M1 with L := M1.L.set i none }
    | _ => False)
  | t => Q t M1
theorem me_frz (h : ME X e m) : ME X e (mFrz m) := PE.of h fun σ H Q' ⟨τ, M, B, Q, h, w, s, k⟩ => by
  refine ⟨τ, M, B, _, h, w, s, fun v t M1 B1 H1 h1 w1 e1 r1 => ?_⟩
  split at h1
  · split at h1
    · rename_i hL
      obtain ⟨a, rfl, ha⟩ := r1
      obtain ⟨B2, w2, e2, r2⟩ := w1.freeze ha hL
      exact k _ _ _ _ _ h1 w2 (e1.trans e2) r2
    · exact h1.elim
  · exact k _ _ M1 B1 H1 h1 w1 e1 r1
end
end L3
set_option Elab.async false
set_option linter.all false
set_option maxRecDepth 100000
namespace L3
open PySem PySem.Spec L2
theorem atI_of {α β : Type} {xs : List α} {ys : List β} {i : Int} {y : β} (hl : xs.length = ys.length) (e : atI ys i = some y) : ∃ j, ixN xs.length i = some j ∧ ixN ys.length i = some j ∧ ys[j]? = some y := by
  unfold atI at e
  cases h : ixN ys.length i with
  | none => rw [h] at e; cases e
  | some j =>
    rw [h] at e
    exact ⟨j, by rw [hl]; exact h, rfl, e⟩
theorem RpA.atI {K : PySem.W.Frag} {G : Hp} {xs : List V} {ds : List PyData} {i : Int} {d : PyData} (r : RpA K G xs ds) (e : L2.atI ds i = some d) : ∃ u, L2.atI xs i = some u ∧ Rp K G u d := by
  obtain ⟨j, h1, _, h3⟩ := atI_of (RpA.length r) e
  obtain ⟨u, h4, h5⟩ := RpA.get r h3
  exact ⟨u, by unfold L2.atI; rw [h1]; exact h4, h5⟩
theorem paired_len {α β : Type} {F : α → β → Prop} {l : List α} {m : List β} (h : Paired F l m) : l.length = m.length := by
  induction h with
  | nil => rfl
  | cons _ _ ih => rw [List.length_cons, List.length_cons, ih]
theorem paired_get {α β : Type} {F : α → β → Prop} {l : List α} {m : List β} (h : Paired F l m) : ∀ {i : Nat} {y : β}, m[i]? = some y → ∃ x, l[i]? = some x ∧ F x y := by
  induction h with
  | nil => intro i y e; simp at e
  | cons p _ ih =>
    intro i y e
    cases i with
    | zero => simp at e; subst e; exact ⟨_, rfl, p⟩
    | succ i => exact ih e
theorem paired_atI {α β : Type} {F : α → β → Prop} {l : List α} {m : List β} {i : Int} {y : β} (h : Paired F l m) (e : L2.atI m i = some y) : ∃ u, L2.atI l i = some u ∧ F u y := by
  obtain ⟨j, h1, _, h3⟩ := atI_of (paired_len h) e
  obtain ⟨u, h4, h5⟩ := paired_get h h3
  exact ⟨u, by unfold L2.atI; rw [h1]; exact h4, h5⟩
def oIx : F2 := fun x y M Q => match x, y with
  | .d (.list xs), .d (.int j) => ∃ t, atI xs j = some t ∧ Q (.d t) M
  | .d (.tuple xs), .d (.int j) => ∃ t, atI xs j = some t ∧ Q (.d t) M
  | .lr i, .d (.int j) => (match M.L[i]? with
    | some (some xs) => ∃ t, atI xs j = some t ∧ Q (.d t) M
    | _ => False)
  | .mr i, .d (.int j) => (match M.D[i]? with
    | some (.lst ts) => ∃ t, atI ts j = some t ∧ Q t M
    | _ => False)
  | _, _ => False
def rIx2 (K : PySem.W.Frag) : R2 := fun x y H Q => rIxL K x y H Q ∨ rIxT K x y H Q
theorem ixr {X : Cx} : IxR X (rIx2 X.K) := ix_list.or ix_tup
theorem opl_ix {K : PySem.W.Frag} : OpL K (rIx2 K) oIx := by
  intro x y t u M B H Q Q' h w rx ry k
  unfold oIx at h
  split at h
  · cases ry
    cases rx with
    | lst e q =>
      obtain ⟨d, h1, h2⟩ := h
      obtain ⟨v, h3, h4⟩ := RpA.atI q h1
      exact .inl ⟨_, _, _, v, rfl, rfl, .of (w.le _ _ e), h3, k _ _ M B H h2 w (.refl _ _) h4⟩
  · cases ry
    cases rx with
    | tup e q =>
      obtain ⟨d, h1, h2⟩ := h
      obtain ⟨v, h3, h4⟩ := RpA.atI q h1
      exact .inr ⟨_, _, _, v, rfl, rfl, SqT.mono w.le e, h3, k _ _ M B H h2 w (.refl _ _) h4⟩
  · split at h
    · rename_i hL
      cases ry
      obtain ⟨a, rfl, ha⟩ := rx
      obtain ⟨_, vs, e, q⟩ := w.lc _ _ _ ha hL
      obtain ⟨d, h1, h2⟩ := h
      obtain ⟨v, h3, h4⟩ := RpA.atI q h1
      exact .inl ⟨_, _, _, v, rfl, rfl, .of e, h3, k _ _ M B H h2 w (.refl _ _) h4⟩
    · exact h.elim
  · split at h
    · rename_i hD
      cases ry
      obtain ⟨a, rfl, ha⟩ := rx
      obtain ⟨_, vs, e, q⟩ := w.dc _ _ _ ha hD
      obtain ⟨d, h1, h2⟩ := h
      obtain ⟨v, h3, h4⟩ := paired_atI q h1
      refine .inl ⟨_, _, _, v, rfl, rfl, .of e, h3, k _ _ M B H h2 w (.refl _ _) ?_⟩
      exact Rt.mono' (B := { B with l := [] }) (B' := B) (fun _ _ e => e) (List.prefix_refl _) (List.nil_prefix) h4
    · exact h.elim
  · exact h.elim
section
variable {X : Cx} {a b c e : Expr} {es : List Expr} {ma mb mc m : Me} {pos : Pos} {mr : Ma}
theorem me_ix (ha : ME X a ma) (hb : ME X b mb) (hs : PlainIx b) : ME X (.Subscript a b pos) (mOp oIx ma mb) := PE.of (pe_ix ixr ha hb hs) fun _ _ _ h => two opl_ix h
def cutT {α : Type} (xs : List α) (lo hi : Option Int) : List α := (xs.drop (HT.sIx xs.length 0 lo)).take (HT.sIx xs.length xs.length hi - HT.sIx xs.length 0 lo)
theorem RpA.cut {K : PySem.W.Frag} {G : Hp} {xs : List V} {ds : List PyData} {lo hi : Option Int} (r : RpA K G xs ds) : RpA K G (cutV xs lo hi) (cutT ds lo hi) := by
  unfold cutV cutT
  rw [RpA.length r]
  exact RpA.take _ (RpA.drop _ r)
theorem cut_map {α β : Type} (f : α → β) (xs : List α) (lo hi : Option Int) : cutT (xs.map f) lo hi = (cutT xs lo hi).map f := by
  unfold cutT
  rw [List.length_map, List.map_take, List.map_drop]
theorem cutT_all {α : Type} {xs : List α} {lo hi : Option Int} (h : HT.sIx xs.length 0 lo = 0 ∧ HT.sIx xs.length xs.length hi = xs.length) : cutT xs lo hi = xs := by
  unfold cutT
  rw [h.1, h.2, List.drop_zero, Nat.sub_zero, List.take_length]
abbrev Mo := En → Mem → (Option Int → Mem → Prop) → Prop
def rO (K : PySem.W.Frag) (m : Mo) : TO := fun σ H Q' => ∃ τ M B Q, m τ M Q ∧ Wd K B M H ∧ Sl K B σ τ ∧ ∀ b M' B' H', Q b M' → Wd K B' M' H' → Ext B H B' H' → Q' b H'
theorem PO.of {e : Option Expr} {t t' : TO} (h : PO X e t) (w : ∀ σ H Q, t' σ H Q → t σ H Q) : PO X e t' := ⟨fun _ _ _ _ _ iv q => h.run _ _ _ _ _ iv (w _ _ _ q)⟩
def oNone : Mo := fun _ M Q => Q none M
def oPart (m : Me) : Mo := fun τ M Q => m τ M fun t M1 => match t with
  | .d (.int i) => Q (some i) M1
  | _ => False
theorem mo_none : PO X none (rO X.K oNone) := PO.of po_none fun σ H Q' ⟨τ, M, B, Q, h, w, s, k⟩ => k _ M B H h w (.refl _ _)
theorem mo_some (h : ME X e m) : PO X (some e) (rO X.K (oPart m)) := PO.of (po_some h) fun σ H Q' ⟨τ, M, B, Q, h, w, s, k⟩ => by
  refine ⟨τ, M, B, _, h, w, s, fun v t M1 B1 H1 h1 w1 e1 r1 => ?_⟩
  split at h1
  · cases r1
    exact ⟨_, rfl, k _ M1 B1 H1 h1 w1 e1⟩
  · exact h1.elim
def oSl (x : T) (lo hi : Option Int) (M : Mem) (Q : Kt) : Prop := match x with
  | .d (.list xs) => Q (.lst (cutT xs lo hi)) M
  | .d (.tuple xs) => Q (.tup (cutT xs lo hi)) M
  | .scr ns => Q (.lst ((cutT ns lo hi).map .int)) M
  | .lr i => (match M.L[i]? with
    | some (some xs) => Q (.lst (cutT xs lo hi)) M
    | _ => False)
  | _ => False
def mSl (m : Me) (lo hi : Mo) : Me := fun τ M Q => m τ M fun x M1 => lo τ M1 fun l M2 => hi τ M2 fun u M3 => oSl x l u M3 Q
theorem me_slice {lo hi : Option Expr} {ml mh : Mo} {p2 : Pos} (he : ME X e m) (hl : PO X lo (rO X.K ml)) (hu : PO X hi (rO X.K mh)) : ME X (.Subscript e (.Slice lo hi none p2) pos) (mSl m ml mh) := by
  refine PE.of (pe_slice (sl_list.or sl_tupC) he hl hu) fun σ H Q' ⟨τ, M, B, Q, h, w, s, k⟩ => ?_
  refine ⟨τ, M, B, _, h, w, s, fun v t M1 B1 H1 h1 w1 e1 r1 => ⟨τ, M1, B1, _, h1, w1, s.mono e1, fun l M2 B2 H2 h2 w2 e2 => ⟨τ, M2, B2, _, h2, w2, (s.mono e1).mono e2, fun u M3 B3 H3 h3 w3 e3 => ?_⟩⟩⟩
  have e123 := e1.trans (e2.trans e3)
  have r3 := Rt.mono e3 (Rt.mono e2 r1)
  unfold oSl at h3
  split at h3
  · cases r3 with
    | lst e q =>
      refine .inl ⟨_, _, rfl, .of (w3.le _ _ e), fun p hp => ?_⟩
      obtain ⟨w4, e4⟩ := w3.alloc hp (.lst _)
      exact k _ _ M3 _ _ h3 w4 (e123.trans e4) (.lst upd_same (RpA.mono e4.g (RpA.cut q)))
  · cases r3 with
    | tup e q =>
      refine .inr ⟨_, _, rfl, SqT.mono w3.le e, fun z => ?_, fun _ p o hp ho => ?_⟩
      · have z' := z
        rw [RpA.length q] at z'
        rw [cutT_all z'] at h3
        exact k _ _ M3 B3 H3 h3 w3 e123 (.tup e q)
      · obtain ⟨w4, e4⟩ := w3.alloc hp (.frz o (.tup _))
        exact k _ _ M3 _ _ h3 w4 (e123.trans e4) (.tup (.inl ⟨o, upd_same, ho⟩) (RpA.mono e4.g (RpA.cut q)))
  · obtain ⟨a, rfl, e⟩ := r3
    refine .inl ⟨_, _, rfl, SqL.mono w3.le e, fun p hp => ?_⟩
    obtain ⟨w4, e4⟩ := w3.alloc hp (.lst _)
    refine k _ _ M3 _ _ h3 w4 (e123.trans e4) (.lst upd_same ?_)
    rw [← cut_map]
    exact RpA.cut (RpA.of_ints _)
  · split at h3
    · rename_i hL
      obtain ⟨a, rfl, ha⟩ := r3
      obtain ⟨_, vs, e, q⟩ := w3.lc _ _ _ ha hL
      refine .inl ⟨_, _, rfl, .of e, fun p hp => ?_⟩
      obtain ⟨w4, e4⟩ := w3.alloc hp (.lst _)
      exact k _ _ M3 _ _ h3 w4 (e123.trans e4) (.lst upd_same (RpA.mono e4.g (RpA.cut q)))
    · exact h3.elim
  · exact h3.elim
abbrev FA := List T → Mem → Kt → Prop
def CaL (K : PySem.W.Frag) (r : List V → Hp → VK → Prop) (f : FA) : Prop := ∀ xs ts M B H Q Q', f ts M Q → Wd K B M H → Paired (Rt K B) xs ts →
  (∀ v t' M' B' H', Q t' M' → Wd K B' M' H' → Ext B H B' H' → Rt K B' v t' → Q' v H') → r xs H Q'
def mCall (f : FA) (r : Ma) : Me := fun τ M Q => r τ M fun ts M1 => f ts M1 Q
theorem call_of {K : PySem.W.Frag} {r : List V → Hp → VK → Prop} {f : FA} (hl : CaL K r f) {σ : L2.St} {H : Hp} {Q' : VK} (h : rE K (mCall f mr) σ H Q') : tCB r (rA K mr) σ H Q' := by
  obtain ⟨τ, M, B, Q, h, w, s, k⟩ := h
  exact ⟨τ, M, B, _, h, w, s, fun v t M1 B1 H1 h1 w1 e1 r1 => hl v t M1 B1 H1 Q Q' h1 w1 r1 fun v t M2 B2 H2 h2 w2 e2 => k v t M2 B2 H2 h2 w2 (e1.trans e2)⟩
theorem me_callB {x : Str} {p : Pos} {id : String} {r : List V → Hp → VK → Prop} {f : FA} (hc : CallR X (.builtin id) r) (hl : CaL X.K r f) (hg : Gl X x) (hm : X.mg x = none) (hv : bootBuiltins x = some (.builtin id)) (ha : MA X (e :: es) mr) (hn : x ≠ "__name__" := by decide) (hdb : (x == ("__debug__" : Str)) = false := by decide)
    (he : starEach (e :: es) X.env = (false, eval e X.env) :: starEach es X.env := by rfl) (hpl : (backTo pos (starEach es X.env)).any (·.1) = false := by rfl) : ME X (.Call (.Name x p) (e :: es) [] pos) (mCall f mr) := PE.of (pe_callB hc hg hm hv ha hn hdb he hpl) fun _ _ _ h => call_of hl h
theorem me_callTy {x : Str} {p : Pos} {id : String} {r : List V → Hp → VK → Prop} {f : FA} (hc : CallR X (.type id) r) (hl : CaL X.K r f) (hg : Gl X x) (hm : X.mg x = none) (hv : bootBuiltins x = some (.type id)) (ha : MA X (e :: es) mr) (hn : x ≠ "__name__" := by decide) (hdb : (x == ("__debug__" : Str)) = false := by decide)
    (he : starEach (e :: es) X.env = (false, eval e X.env) :: starEach es X.env := by rfl) (hpl : (backTo pos (starEach es X.env)).any (·.1) = false := by rfl) : ME X (.Call (.Name x p) (e :: es) [] pos) (mCall f mr) := PE.of (pe_callTy hc hg hm hv ha hn hdb he hpl) fun _ _ _ h => call_of hl h
end
section
variable {K : PySem.W.Frag}
theorem paired_one {F : V → T → Prop} {xs : List V} {t : T} (h : Paired F xs [t]) : ∃ v, xs = [v] ∧ F v t := by
  cases h with
  | cons p q =>
    cases q
    exact ⟨_, rfl, p⟩
theorem paired_two {F : V → T → Prop} {xs : List V} {t u : T} (h : Paired F xs [t, u]) : ∃ v w, xs = [v, w] ∧ F v t ∧ F w u := by
  cases h with
  | cons p q =>
    obtain ⟨w, rfl, r⟩ := paired_one q
    exact ⟨_, _, rfl, p, r⟩
theorem now_flat {t : T} {M : Mem} {x : PyData} (e : now t M = some x) : t = .d x ∨ ∃ xs, x = .list xs := by
  cases t with
  | d y => cases e; exact .inl rfl
  | lr i =>
    have e' : (match M.L[i]? with | some (some ds) => some (PyData.list ds) | _ => none) = some x := e
    split at e'
    · cases e'; exact .inr ⟨_, rfl⟩
    · cases e'
  | mr i =>
    have e' : (match M.D[i]? with | some (.lst ts) => (datas ts).map PyData.list | _ => none) = some x := e
    split at e'
    · rename_i ts _
      cases q : datas ts with
      | none => rw [q] at e'; cases e'
      | some ds => rw [q] at e'; cases e'; exact .inr ⟨_, rfl⟩
    · cases e'
  | scr ns => cases e; exact .inr ⟨_, rfl⟩
  | wt xs => cases e
  | exo a c d e' => cases e
/-- the list or the tuple that a value is now -/
theorem Wd.seq {B : Bk} {M : Mem} {H : Hp} (w : Wd K B M H) {v : V} {t : T} (r : Rt K B v t) :
    (∀ xs, now t M = some (.list xs) → ∃ p ys, v = .ref p ∧ SqL K H p ys ∧ RpA K B.G ys xs) ∧ (∀ xs, now t M = some (.tuple xs) → ∃ p ys, v = .ref p ∧ SqT K H p ys ∧ RpA K B.G ys xs) := by
  refine ⟨fun xs e => ?_, fun xs e => ?_⟩
  · cases t with
    | d y =>
      cases e
      cases r with
      | lst e q => exact ⟨_, _, rfl, .of (w.le _ _ e), q⟩
    | lr i =>
      obtain ⟨a, rfl, ha⟩ := r
      unfold now at e
      cases h : M.L[i]? with
      | none => simp [h] at e
      | some o =>
        cases o with
        | none => simp [h] at e
        | some ds =>
          simp only [h] at e
          cases e
          obtain ⟨_, vs, h1, h2⟩ := w.lc i a _ ha h
          exact ⟨_, _, rfl, .of h1, h2⟩
    | mr i =>
      obtain ⟨a, rfl, ha⟩ := r
      unfold now at e
      cases h : M.D[i]? with
      | none => simp [h] at e
      | some o =>
        cases o with
        | dct _ => simp [h] at e
        | dnk _ => simp [h] at e
        | held _ => simp [h] at e
        | exc _ _ => simp [h] at e
        | dnd _ => simp [h] at e
        | lst ts =>
          simp only [h] at e
          cases q : datas ts with
          | none => rw [q] at e; cases e
          | some ds =>
            rw [q] at e
            cases e
            obtain ⟨_, vs, h1, h2⟩ := w.dc i a _ ha h
            exact ⟨_, _, rfl, .of h1, datas_rpa (B := { B with l := [] }) h2 q⟩
    | scr ns =>
      obtain ⟨a, rfl, ha⟩ := r
      cases e
      exact ⟨_, _, rfl, SqL.mono w.le ha, RpA.of_ints ns⟩
    | wt xs => cases e
    | exo a c d e' => cases e
  · rcases now_flat e with z | ⟨ys, z⟩
    · subst z
      cases r with
      | tup e q => exact ⟨_, _, rfl, SqT.mono w.le e, q⟩
    · cases z
/-- len -/
def fLen : FA := fun ts M Q => match ts with
  | [t] => (match now t M with
    | some (.list xs) => Q (.int xs.length) M
    | some (.tuple xs) => Q (.int xs.length) M
    | some (.str z) => z.length ≤ sizeLine ∧ Q (.int z.length) M
    | _ => False)
  | _ => False
def rLen (K : PySem.W.Frag) : List V → Hp → VK → Prop := fun xs H Q => (∃ p ys, xs = [.ref p] ∧ (SqL K H p ys ∨ SqT K H p ys) ∧ Q (.int ys.length) H) ∨ (∃ z, xs = [.str z] ∧ z.length ≤ sizeLine ∧ Q (.int z.length) H)
theorem cr_len {X : Cx} : CallR X (.builtin "len") (rLen X.K) := call_len_seq.or call_len_str
theorem cal_len : CaL K (rLen K) fLen := by
  intro xs ts M B H Q Q' h w r k
  unfold fLen at h
  split at h
  · obtain ⟨v, rfl, r1⟩ := paired_one r
    split at h
    · rename_i e
      obtain ⟨p, ys, rfl, h1, h2⟩ := (w.seq r1).1 _ e
      refine .inl ⟨p, ys, rfl, .inl h1, ?_⟩
      rw [RpA.length h2]
      exact k _ _ M B H h w (.refl _ _) (.int _)
    · rename_i e
      obtain ⟨p, ys, rfl, h1, h2⟩ := (w.seq r1).2 _ e
      refine .inl ⟨p, ys, rfl, .inr h1, ?_⟩
      rw [RpA.length h2]
      exact k _ _ M B H h w (.refl _ _) (.int _)
    · rename_i z e
      rcases now_flat e with y | ⟨ys, y⟩
      · subst y
        cases r1
        exact .inr ⟨_, rfl, h.1, k _ _ M B H h.2 w (.refl _ _) (.int _)⟩
      · cases y
    · exact h.elim
  · exact h.elim
/-- tuple(..) -/
def fTuple : FA := fun ts M Q => match ts with
  | [t] => (match now t M with
    | some (.list xs) => Q (.tup xs) M
    | some (.tuple xs) => Q (.tup xs) M
    | _ => False)
  | _ => False
def rTuple (K : PySem.W.Frag) : List V → Hp → VK → Prop := fun xs H Q => ∃ p ys, xs = [.ref p] ∧ ((SqL K H p ys ∧ ∀ (l : Addr) (o : Obj), H l = none → o.dict = none → Q (.ref l) (upd H l (.frz o (.tup ys)))) ∨ (SqT K H p ys ∧ Q (.ref p) H))
theorem now_tup {t : T} {M : Mem} {xs : List PyData} (e : now t M = some (.tuple xs)) : t = .d (.tuple xs) := by
  rcases now_flat e with z | ⟨ys, z⟩
  · exact z
  · cases z
theorem cal_tuple : CaL K (rTuple K) fTuple := by
  intro xs ts M B H Q Q' h w r k
  unfold fTuple at h
  split at h
  · obtain ⟨v, rfl, r1⟩ := paired_one r
    split at h
    · rename_i e
      obtain ⟨p, ys, rfl, h1, h2⟩ := (w.seq r1).1 _ e
      refine ⟨p, ys, rfl, .inl ⟨h1, fun l o hl ho => ?_⟩⟩
      obtain ⟨w4, e4⟩ := w.alloc hl (.frz o (.tup ys))
      exact k _ _ M _ _ h w4 e4 (.tup (.inl ⟨o, upd_same, ho⟩) (RpA.mono e4.g h2))
    · rename_i e
      have e0 := now_tup e
      subst e0
      obtain ⟨p, ys, rfl, h1, h2⟩ := (w.seq r1).2 _ e
      exact ⟨p, ys, rfl, .inr ⟨h1, k _ _ M B H h w (.refl _ _) r1⟩⟩
    · exact h.elim
  · exact h.elim
/-- all ints -/
def intsOf : List PyData → Option (List Int)
  | [] => some []
  | .int i :: r => (intsOf r).map (i :: ·)
  | _ :: _ => none
theorem intsOf_eq : ∀ {ds : List PyData} {ns : List Int}, intsOf ds = some ns → ds = ns.map .int
  | [], _, e => by cases e; rfl
  | .int i :: r, ns, e => by
    unfold intsOf at e
    cases h : intsOf r with
    | none => rw [h] at e; cases e
    | some l =>
      rw [h] at e
      cases e
      rw [intsOf_eq h]
      rfl
  | .none :: _, _, e => by cases e
  | .bool _ :: _, _, e => by cases e
  | .str _ :: _, _, e => by cases e
  | .list _ :: _, _, e => by cases e
  | .tuple _ :: _, _, e => by cases e
  | .dict _ :: _, _, e => by cases e
theorem intsOf_map : ∀ ns : List Int, intsOf (ns.map .int) = some ns
  | [] => rfl
  | n :: r => by
    show (intsOf (r.map .int)).map (n :: ·) = _
    rw [intsOf_map r]
    rfl
/-- the ints of a list now -/
def nowI (t : T) (M : Mem) : Option (List Int) := match now t M with
  | some (.list xs) => intsOf xs
  | _ => none
theorem Wd.nowIs {B : Bk} {M : Mem} {H : Hp} (w : Wd K B M H) {v : V} {t : T} (r : Rt K B v t) {ns : List Int} (e : nowI t M = some ns) : ∃ p, v = .ref p ∧ SqL K H p (ns.map V.int) := by
  unfold nowI at e
  split at e
  · rename_i xs hx
    obtain ⟨p, ys, rfl, h1, h2⟩ := (w.seq r).1 _ hx
    rw [intsOf_eq e] at h2
    rw [RpA.ints h2] at h1
    exact ⟨p, rfl, h1⟩
  · cases e
def fMax : FA := fun ts M Q => match ts with
  | [.d (.int i), .d (.int j)] => Q (.int (if j > i then j else i)) M
  | [t] => (match nowI t M with
    | some ns => 0 < ns.length ∧ ∀ m, m ∈ ns → (∀ y, y ∈ ns → y ≤ m) → Q (.int m) M
    | none => False)
  | _ => False
def fMin : FA := fun ts M Q => match ts with
  | [.d (.int i), .d (.int j)] => Q (.int (if j < i then j else i)) M
  | [t] => (match nowI t M with
    | some ns => 0 < ns.length ∧ ∀ m, m ∈ ns → (∀ y, y ∈ ns → m ≤ y) → Q (.int m) M
    | none => False)
  | _ => False
def rMax2 (K : PySem.W.Frag) : List V → Hp → VK → Prop := fun xs H Q => (∃ i j, xs = [.int i, .int j] ∧ Q (.int (if j > i then j else i)) H) ∨ rMax K xs H Q
def rMin2 (K : PySem.W.Frag) : List V → Hp → VK → Prop := fun xs H Q => (∃ i j, xs = [.int i, .int j] ∧ Q (.int (if j < i then j else i)) H) ∨ rMin K xs H Q
theorem crl_max {X : Cx} (hc : X.calm = true) : CallR X (.builtin "max") (rMax2 X.K) := (call_max2 hc).or (cr_max hc)
theorem crl_min {X : Cx} (hc : X.calm = true) : CallR X (.builtin "min") (rMin2 X.K) := (call_min2 hc).or (cr_min hc)
theorem cal_max : CaL K (rMax2 K) fMax := by
  intro xs ts M B H Q Q' h w r k
  unfold fMax at h
  split at h
  · obtain ⟨v, u, rfl, r1, r2⟩ := paired_two r
    cases r1
    cases r2
    exact .inl ⟨_, _, rfl, k _ _ M B H h w (.refl _ _) (.int _)⟩
  · obtain ⟨v, rfl, r1⟩ := paired_one r
    split at h
    · rename_i ns e
      obtain ⟨p, rfl, h1⟩ := w.nowIs r1 e
      exact .inr ⟨p, ns, rfl, h1, h.1, fun m m1 m2 => k _ _ M B H (h.2 m m1 m2) w (.refl _ _) (.int _)⟩
    · exact h.elim
  · exact h.elim
theorem cal_min : CaL K (rMin2 K) fMin := by
  intro xs ts M B H Q Q' h w r k
  unfold fMin at h
  split at h
  · obtain ⟨v, u, rfl, r1, r2⟩ := paired_two r
    cases r1
    cases r2
    exact .inl ⟨_, _, rfl, k _ _ M B H h w (.refl _ _) (.int _)⟩
  · obtain ⟨v, rfl, r1⟩ := paired_one r
    split at h
    · rename_i ns e
      obtain ⟨p, rfl, h1⟩ := w.nowIs r1 e
      exact .inr ⟨p, ns, rfl, h1, h.1, fun m m1 m2 => k _ _ M B H (h.2 m m1 m2) w (.refl _ _) (.int _)⟩
    · exact h.elim
  · exact h.elim
def fInt : FA := fun ts M Q => match ts with
  | [.d (.int i)] => Q (.int i) M
  | [.d (.bool b)] => Q (.int (if b then 1 else 0)) M
  | _ => False
theorem cal_int : CaL K (fun xs H Q => (∃ i, xs = [V.int i] ∧ Q (.int i) H) ∨ ∃ k, xs = [V.bl k] ∧ Q (.int (if k then 1 else 0)) H) fInt := by
  intro xs ts M B H Q Q' h w r k
  unfold fInt at h
  split at h
  · obtain ⟨v, rfl, r1⟩ := paired_one r
    cases r1
    exact .inl ⟨_, rfl, k _ _ M B H h w (.refl _ _) (.int _)⟩
  · obtain ⟨v, rfl, r1⟩ := paired_one r
    cases r1
    exact .inr ⟨_, rfl, k _ _ M B H h w (.refl _ _) (.int _)⟩
  · exact h.elim
def fAbs : FA := fun ts M Q => match ts with
  | [.d (.int i)] => Q (.int (if i < 0 then -i else i)) M
  | _ => False
theorem cal_abs : CaL K (fun xs H Q => ∃ i, xs = [V.int i] ∧ Q (.int (if i < 0 then -i else i)) H) fAbs := by
  intro xs ts M B H Q Q' h w r k
  unfold fAbs at h
  split at h
  · obtain ⟨v, rfl, r1⟩ := paired_one r
    cases r1
    exact ⟨_, rfl, k _ _ M B H h w (.refl _ _) (.int _)⟩
  · exact h.elim
end
end L3
set_option Elab.async false
set_option linter.all false
set_option maxRecDepth 100000
namespace L3
open PySem PySem.Spec L2
def noL : T → Bool
  | .lr _ => false
  | _ => true
def isL (t : T) (M : Mem) : Prop := match t with
  | .lr i => ∃ ds, M.L[i]? = some (some ds)
  | .mr i => ∃ ts, M.D[i]? = some (.lst ts)
  | .d (.list _) => True
  | _ => False
theorem Rt.deck {K : PySem.W.Frag} {B : Bk} {v : V} {t : T} (n : noL t = true) (r : Rt K B v t) : Rt K { B with l := [] } v t := by
  cases t with
  | lr i => cases n
  | d x => exact r
  | mr i => exact r
  | scr ns => exact r
  | wt xs => exact r
  | exo a c d e => exact r
theorem Rt.undeck {K : PySem.W.Frag} {B : Bk} {v : V} {t : T} (r : Rt K { B with l := [] } v t) : Rt K B v t := Rt.mono' (B := { B with l := [] }) (B' := B) (fun _ _ e => e) (List.prefix_refl _) (List.nil_prefix) r
theorem Wd.isL {K : PySem.W.Frag} {B : Bk} {M : Mem} {H : Hp} (w : Wd K B M H) {v : V} {t : T} (r : Rt K B v t) (h : L3.isL t M) : ∃ p xs, v = .ref p ∧ SqL K H p xs := by
  unfold L3.isL at h
  split at h
  · obtain ⟨ds, e⟩ := h
    obtain ⟨a, rfl, ha⟩ := r
    obtain ⟨_, xs, h1, _⟩ := w.lc _ _ _ ha e
    exact ⟨a, xs, rfl, .of h1⟩
  · obtain ⟨ts, e⟩ := h
    obtain ⟨a, rfl, ha⟩ := r
    obtain ⟨_, xs, h1, _⟩ := w.dc _ _ _ ha e
    exact ⟨a, xs, rfl, .of h1⟩
  · cases r with
    | lst e q => exact ⟨_, _, rfl, .of (w.le _ _ e)⟩
  · exact h.elim
def MeL (K : PySem.W.Frag) (r : V → List V → Hp → VK → Prop) (f : T → FA) : Prop := ∀ x xs t ts M B H Q Q', f t ts M Q → Wd K B M H → Rt K B x t → Paired (Rt K B) xs ts →
  (∀ v t' M' B' H', Q t' M' → Wd K B' M' H' → Ext B H B' H' → Rt K B' v t' → Q' v H') → r x xs H Q'
def mMeth (f : T → FA) (o : Me) (r : Ma) : Me := fun τ M Q => o τ M fun x M1 => isL x M1 ∧ r τ M1 fun ts M2 => f x ts M2 Q
def mMeth0 (f : T → FA) (o : Me) : Me := fun τ M Q => o τ M fun x M1 => isL x M1 ∧ f x [] M1 Q
section
variable {X : Cx} {o e : Expr} {es : List Expr} {mo m : Me} {mr : Ma} {name : Str} {id : String} {apos cpos : Pos} {r : V → List V → Hp → VK → Prop} {f : T → FA}
theorem me_lm (pa : PlainAttrs "list") (slot : Slot "list" name id) (hty : typeOf (.builtin id) = pure (.type "method_descriptor")) (hm : MtR X id r) (hl : MeL X.K r f) (ho : ME X o mo) (ha : MA X (e :: es) mr)
    (hbase : attributeBase o name X.env (eval o X.env) = eval o X.env := by rfl)
    (hfew : ((backTo cpos (starEach (e :: es) X.env)).all (fun x => !x.1) && (backToKw cpos (keywordEach [] X.env)).all (fun x => x.1.isSome) && decide ((e :: es).length + ([] : List Keyword).length + (if ([] : List Keyword).isEmpty then 0 else 1) < 30)) = true := by rfl)
    (hline : (apos.endLine == cpos.line) = true := by rfl) (hs : starEach (e :: es) X.env = (false, eval e X.env) :: starEach es X.env := by rfl) (hplain : (backTo cpos (starEach es X.env)).any (·.1) = false := by rfl) :
    ME X (.Call (.Attribute o name apos) (e :: es) [] cpos) (mMeth f mo mr) := by
  refine PE.of (pe_bm pa slot hty hm ho ha hbase hfew hline hs hplain) fun σ H Q' ⟨τ, M, B, Q, h, w, s, k⟩ => ?_
  refine ⟨τ, M, B, _, h, w, s, fun v t M1 B1 H1 h1 w1 e1 r1 => ?_⟩
  obtain ⟨p, xs, rfl, hq⟩ := w1.isL r1 h1.1
  refine ⟨.inl ⟨rfl, xs, hq⟩, τ, M1, B1, _, h1.2, w1, s.mono e1, fun vs ts M2 B2 H2 h2 w2 e2 r2 => ?_⟩
  exact hl _ vs t ts M2 B2 H2 Q Q' h2 w2 (Rt.mono e2 r1) r2 fun v t M3 B3 H3 h3 w3 e3 => k v t M3 B3 H3 h3 w3 (e1.trans (e2.trans e3))
end
def fApp (x : T) : FA := fun ts M Q => match x, ts with
  | .lr i, [.d z] => (match M.L[i]? with
    | some (some ds) => ds.length < sizeLine ∧ Q .non { M with L := M.L.set i (some (ds ++ [z])) }
    | _ => False)
  | .mr i, [t] => (match M.D[i]? with
    | some (.lst us) => noL t = true ∧ us.length < sizeLine ∧ Q .non { M with D := M.D.set i (.lst (us ++ [t])) }
    | _ => False)
  | _, _ => False
theorem paired_snoc {F : V → T → Prop} {xs : List V} {ts : List T} (h : Paired F xs ts) {x : V} {t : T} (q : F x t) : Paired F (xs ++ [x]) (ts ++ [t]) := PySem.Paired.snoc h q
theorem mel_app {K : PySem.W.Frag} : MeL K rAppend fApp := by
  intro x xs t ts M B H Q Q' h w rx rs k
  unfold fApp at h
  split at h
  · rename_i i z
    split at h
    · rename_i ds hL
      obtain ⟨v, rfl, r1⟩ := paired_one rs
      obtain ⟨a, rfl, ha⟩ := rx
      obtain ⟨_, vs, e, q⟩ := w.lc _ _ _ ha hL
      refine ⟨a, vs, v, rfl, rfl, e, by rw [RpA.length q]; exact h.1, ?_⟩
      obtain ⟨w2, e2⟩ := w.setL ha hL (RpA.append q (.cons r1 .nil))
      exact k _ _ _ _ _ h.2 w2 e2 .non
    · exact h.elim
  · rename_i i z
    split at h
    · rename_i us hD
      obtain ⟨v, rfl, r1⟩ := paired_one rs
      obtain ⟨a, rfl, ha⟩ := rx
      obtain ⟨_, vs, e, q⟩ := w.dc _ _ _ ha hD
      refine ⟨a, vs, v, rfl, rfl, e, by rw [paired_len q]; exact h.2.1, ?_⟩
      obtain ⟨w2, e2⟩ := w.setD ha hD (o := .lst (vs ++ [v])) (c := .lst (us ++ [z])) fun H' eH => ⟨_, eH, paired_snoc q (r1.deck h.1)⟩
      exact k _ _ _ _ _ h.2.2 w2 e2 .non
    · exact h.elim
  · exact h.elim
def fPop (x : T) : FA := fun ts M Q => match x, ts with
  | .lr i, [] => (match M.L[i]? with
    | some (some ds) => ∃ z, ds[ds.length - 1]? = some z ∧ Q (.d z) { M with L := M.L.set i (some ds.dropLast) }
    | _ => False)
  | .mr i, [] => (match M.D[i]? with
    | some (.lst us) => ∃ t, us[us.length - 1]? = some t ∧ Q t { M with D := M.D.set i (.lst us.dropLast) }
    | _ => False)
  | _, _ => False
def lookT (kvs : List (Key × T)) (k : Key) : Option T := (kvs.find? fun kv => decide (kv.1 = k)).map (·.2)
def putT (kvs : List (Key × T)) (k : Key) (t : T) : List (Key × T) :=
  if (kvs.any fun kv => decide (kv.1 = k)) = true then kvs.map (fun kv => if kv.1 = k then (kv.1, t) else kv) else kvs ++ [(k, t)]
abbrev KT (K : PySem.W.Frag) (B : Bk) : List (Key × V) → List (Key × T) → Prop := Paired (fun (p : Key × V) (q : Key × T) => p.1 = q.1 ∧ Rt K { B with l := [] } p.2 q.2)
theorem KT.look {K : PySem.W.Frag} {B : Bk} {vs : List (Key × V)} {ts : List (Key × T)} {k : Key} (h : KT K B vs ts) : ∀ {t : T}, lookT ts k = some t → ∃ v, valV vs k = some v ∧ Rt K { B with l := [] } v t := by
  induction h with
  | nil => intro t e; cases e
  | @cons p q ps qs f _ ih =>
    intro t e
    by_cases z : q.1 = k
    · have e' : lookT (q :: qs) k = some q.2 := by simp [lookT, List.find?_cons, z]
      rw [e'] at e
      cases e
      exact ⟨p.2, valV_pos (f.1.trans z), f.2⟩
    · have e' : lookT (q :: qs) k = lookT qs k := by simp [lookT, List.find?_cons, z]
      rw [e'] at e
      obtain ⟨v, h1, h2⟩ := ih e
      exact ⟨v, (valV_neg fun y => z (f.1.symm.trans y)).trans h1, h2⟩
theorem KT.any {K : PySem.W.Frag} {B : Bk} {vs : List (Key × V)} {ts : List (Key × T)} {k : Key} (h : KT K B vs ts) : (vs.any fun kv => decide (kv.1 = k)) = (ts.any fun kv => decide (kv.1 = k)) := by
  induction h with
  | nil => rfl
  | cons f _ ih => rw [List.any_cons, List.any_cons, ih, f.1]
theorem KT.put {K : PySem.W.Frag} {B : Bk} {vs : List (Key × V)} {ts : List (Key × T)} {k : Key} {v : V} {t : T} (h : KT K B vs ts) (r : Rt K { B with l := [] } v t) : KT K B (putK vs k v) (putT ts k t) := by
  unfold putK putT
  rw [h.any]
  split
  · have m : ∀ {vs : List (Key × V)} {ts : List (Key × T)}, KT K B vs ts → KT K B (vs.map fun kv => if kv.1 = k then (kv.1, v) else kv) (ts.map fun kv => if kv.1 = k then (kv.1, t) else kv) := by
      intro vs ts h
      induction h with
      | nil => exact .nil
      | @cons p q ps qs f _ ih =>
        refine .cons ?_ ih
        by_cases z : q.1 = k
        · have e1 : (fun kv : Key × V => if kv.1 = k then (kv.1, v) else kv) p = (p.1, v) := if_pos (f.1.trans z)
          have e2 : (fun kv : Key × T => if kv.1 = k then (kv.1, t) else kv) q = (q.1, t) := if_pos z
          rw [e1, e2]
          exact ⟨f.1, r⟩
        · have e1 : (fun kv : Key × V => if kv.1 = k then (kv.1, v) else kv) p = p := if_neg fun y => z (f.1.symm.trans y)
          have e2 : (fun kv : Key × T => if kv.1 = k then (kv.1, t) else kv) q = q := if_neg z
          rw [e1, e2]
          exact f
    exact m h
  · exact PySem.Paired.snoc h ⟨rfl, r⟩
def keyOf : T → Option Key
  | .d (.str s) => some (.inr s)
  | .d (.int i) => some (.inl i)
  | _ => none
def oDGet : F2 := fun x y M Q => match x, keyOf y with
  | .mr i, some k => (match M.D[i]? with
    | some (.dct kvs) => ∃ t, lookT kvs k = some t ∧ Q t M
    | _ => False)
  | _, _ => False
section
variable {X : Cx} {o i e value : Expr} {es : List Expr} {mo mi mv m : Me} {pos pos' : Pos}
def mDPut (d k v : Me) : Ms := fun E τ M => v τ M fun t M1 => d τ M1 fun x M2 => k τ M2 fun y M3 => match x, keyOf y with
  | .mr i, some kk => (match M3.D[i]? with
    | some (.dct kvs) => noL t = true ∧ kvs.length < sizeLine ∧ E.nx τ { M3 with D := M3.D.set i (.dct (putT kvs kk t)) }
    | _ => False)
  | _, _ => False
/-- o[i] = v, a list -/
def mLPut (d k v : Me) : Ms := fun E τ M => v τ M fun t M1 => d τ M1 fun x M2 => k τ M2 fun y M3 => match x, y, t with
  | .lr i, .d (.int j), .d z => (match M3.L[i]? with
    | some (some ds) => ∃ n, ixN ds.length j = some n ∧ E.nx τ { M3 with L := M3.L.set i (some (ds.set n z)) }
    | _ => False)
  | _, _, _ => False
theorem paired_set {F : V → T → Prop} {x : V} {t : T} (f : F x t) : ∀ {xs : List V} {ts : List T} (n : Nat), Paired F xs ts → Paired F (xs.set n x) (ts.set n t)
  | _, _, _, .nil => .nil
  | _, _, 0, .cons _ q => .cons f q
  | _, _, n + 1, .cons p q => .cons p (paired_set f n q)
def mLPutD (d k v : Me) : Ms := fun E τ M => v τ M fun t M1 => d τ M1 fun x M2 => k τ M2 fun y M3 => match x, y with
  | .mr i, .d (.int j) => (match M3.D[i]? with
    | some (.lst ds) => noL t = true ∧ ∃ n, ixN ds.length j = some n ∧ E.nx τ { M3 with D := M3.D.set i (.lst (ds.set n t)) }
    | _ => False)
  | _, _ => False
theorem ms_lput (ho : ME X o mo) (hi : ME X i mi) (hv : ME X value mv) (hg : ∀ {to ti : TE}, PE X o to → PE X i ti → PG X (.Subscript o i pos') (gSub to ti rSetL)) (hs : swapsWithSole [.Subscript o i pos'] value pos.line X.env = pure false := by rfl)
    (hw : swappedStores [.Subscript o i pos'] value X.env = pure none := by rfl) (h1 : (assignEach [.Subscript o i pos'] X.env).map (·.2) = [assign (.Subscript o i pos') X.env] := by rfl) :
    MS X (.Assign [.Subscript o i pos'] value pos) (mLPut mo mi mv) := PS.of (ps_asg hv (hg ho hi) hs hw h1) fun D σ H ⟨E, τ, M, B, h, w, s, g⟩ => by
  refine ⟨τ, M, B, _, h, w, s, fun v t M1 B1 H1 h1 w1 e1 r1 => ⟨τ, M1, B1, _, h1, w1, s.mono e1, fun x tx M2 B2 H2 h2 w2 e2 r2 => ⟨τ, M2, B2, _, h2, w2, (s.mono e1).mono e2, fun y ty M3 B3 H3 h3 w3 e3 r3 => ?_⟩⟩⟩
  split at h3
  · split at h3
    · rename_i ds hL
      obtain ⟨a, rfl, ha⟩ := Rt.mono e3 r2
      cases r3
      obtain ⟨_, vs, e, q⟩ := w3.lc _ _ _ ha hL
      obtain ⟨n, hn, hQ⟩ := h3
      refine ⟨a, vs, _, n, rfl, rfl, e, by rw [RpA.length q]; exact hn, ?_⟩
      obtain ⟨w4, e4⟩ := w3.setL ha hL (RpA.set (Rt.mono e3 (Rt.mono e2 r1)) n q)
      have e14 := e1.trans (e2.trans (e3.trans e4))
      exact g.nx _ _ _ _ _ hQ w4 e14 (s.mono e14)
    · exact h3.elim
  · exact h3.elim
theorem ms_lputD (ho : ME X o mo) (hi : ME X i mi) (hv : ME X value mv) (hg : ∀ {to ti : TE}, PE X o to → PE X i ti → PG X (.Subscript o i pos') (gSub to ti rSetL)) (hs : swapsWithSole [.Subscript o i pos'] value pos.line X.env = pure false := by rfl)
    (hw : swappedStores [.Subscript o i pos'] value X.env = pure none := by rfl) (h1 : (assignEach [.Subscript o i pos'] X.env).map (·.2) = [assign (.Subscript o i pos') X.env] := by rfl) :
    MS X (.Assign [.Subscript o i pos'] value pos) (mLPutD mo mi mv) := PS.of (ps_asg hv (hg ho hi) hs hw h1) fun D σ H ⟨E, τ, M, B, h, w, s, g⟩ => by
  refine ⟨τ, M, B, _, h, w, s, fun v t M1 B1 H1 h1 w1 e1 r1 => ⟨τ, M1, B1, _, h1, w1, s.mono e1, fun x tx M2 B2 H2 h2 w2 e2 r2 => ⟨τ, M2, B2, _, h2, w2, (s.mono e1).mono e2, fun y ty M3 B3 H3 h3 w3 e3 r3 => ?_⟩⟩⟩
  split at h3
  · split at h3
    · rename_i ds hD
      obtain ⟨a, rfl, ha⟩ := Rt.mono e3 r2
      cases r3
      obtain ⟨_, vs, e, q⟩ := w3.dc _ _ _ ha hD
      obtain ⟨hno, n, hn, hQ⟩ := h3
      refine ⟨a, vs, _, n, rfl, rfl, e, by rw [paired_len q]; exact hn, ?_⟩
      obtain ⟨w4, e4⟩ := w3.setD ha hD (o := .lst (vs.set n v)) (c := .lst (ds.set n t)) fun H' eH => ⟨_, eH, paired_set (Rt.deck hno (Rt.mono e3 (Rt.mono e2 r1))) n q⟩
      have e14 := e1.trans (e2.trans (e3.trans e4))
      exact g.nx _ _ _ _ _ hQ w4 e14 (s.mono e14)
    · exact h3.elim
  · exact h3.elim
end
theorem KT.keys {K : PySem.W.Frag} {B : Bk} {vs : List (Key × V)} {ts : List (Key × T)} (h : KT K B vs ts) : vs.map (·.1) = ts.map (·.1) := by
  induction h with
  | nil => rfl
  | cons f _ ih => rw [List.map_cons, List.map_cons, ih, f.1]
theorem Ext.adoptR {B B2 : Bk} {H H2 : Hp} {p : Addr} {o : HO} (hp : H p = none) (hn : p ∉ B.r) (hm : p ∉ B.l) (x : Ext B H B2 H2) : Ext B H { B2 with r := B2.r ++ [p] } (upd H2 p o) := by
  refine ⟨x.g, x.r.trans (List.prefix_append _ _), x.l, fun a u e h1 h2 => ?_, fun a e => ?_, fun a e => ?_, x.ln, x.gf⟩
  · rw [upd_ne (ne_of_none e hp)]
    exact x.fr a u e h1 h2
  · by_cases z : a = p
    · rw [z]
      exact hp
    · rw [upd_ne z] at e
      exact x.tr a e
  · rcases List.mem_append.mp e with z | z
    · exact x.rn a z
    · rw [List.mem_singleton] at z
      rw [z]
      exact .inr hp
/-- an object that stood beside the world comes into the deck -/
theorem Wd.adoptR {K : PySem.W.Frag} {B : Bk} {M : Mem} {H : Hp} (w : Wd K B M H) {p : Addr} (hG : B.G p = none) (hr : p ∉ B.r) (hl : p ∉ B.l) {o : HO} {c : Cell} (h : ∀ H', H' p = some o → CellAt K { B with r := B.r ++ [p] } H' p c) :
    Wd K { B with r := B.r ++ [p] } { M with D := M.D ++ [c] } (upd H p o) := by
  have ne : ∀ {a : Addr}, a ∈ B.r ++ B.l → a ≠ p := fun {a} ha z => by
    rw [z] at ha
    exact (List.mem_append.mp ha).elim hr hl
  refine ⟨fun a u e => ?_, by simp [w.rlen], w.llen, ?_, fun i a c' h1 h2 => ?_, fun i a es h1 h2 => ?_, fun a ha => ?_⟩
  · rw [upd_ne (ne_of_none e hG)]
    exact w.le a u e
  · show ((B.r ++ [p]) ++ B.l).Nodup
    obtain ⟨n1, n2, n3⟩ := List.nodup_append.mp w.nd
    rw [List.nodup_append]
    refine ⟨nodup_snoc n1 hr, n2, fun x hx y hy z => ?_⟩
    rcases List.mem_append.mp hx with q | q
    · exact n3 x q y hy z
    · rw [List.mem_singleton] at q
      subst z
      subst q
      exact hl hy
  · have h1' : (B.r ++ [p])[i]? = some a := h1
    have h2' : (M.D ++ [c])[i]? = some c' := h2
    rcases Nat.lt_or_ge i B.r.length with z | z
    · rw [List.getElem?_append_left z] at h1'
      rw [List.getElem?_append_left (by rw [← w.rlen]; exact z)] at h2'
      obtain ⟨q1, q2⟩ := w.dc i a c' h1' h2'
      exact ⟨q1, CellAt.mono (B := B) (B' := { B with r := B.r ++ [p] }) (fun _ _ e => e) (List.prefix_append _ _) (upd_ne (ne (List.mem_append_left _ (mem_of_get h1')))) q2⟩
    · rw [List.getElem?_append_right z] at h1'
      rw [List.getElem?_append_right (by rw [← w.rlen]; exact z), ← w.rlen] at h2'
      cases j : i - B.r.length with
      | succ k => rw [j] at h1'; simp at h1'
      | zero =>
        rw [j] at h1' h2'
        simp only [List.getElem?_cons_zero, Option.some.injEq] at h1' h2'
        subst h1'
        subst h2'
        exact ⟨hG, h _ upd_same⟩
  · obtain ⟨q1, ys, q2, q3⟩ := w.lc i a es h1 h2
    exact ⟨q1, ys, (upd_ne (ne (List.mem_append_right _ (mem_of_get h1)))).trans q2, q3⟩
  · have ha' : a ∈ (B.r ++ [p]) ++ B.l := ha
    by_cases z : a = p
    · rw [z, upd_same]
      exact fun q => nomatch q
    · rw [upd_ne z]
      refine w.tr a ?_
      rcases List.mem_append.mp ha' with y | y
      · rcases List.mem_append.mp y with y | y
        · exact List.mem_append_left _ y
        · rw [List.mem_singleton] at y
          exact absurd y z
      · exact List.mem_append_right _ y
/-- an object that stood beside the world never changes again -/
theorem Wd.adoptG {K : PySem.W.Frag} {B : Bk} {M : Mem} {H : Hp} (w : Wd K B M H) {p : Addr} (hG : B.G p = none) (hr : p ∉ B.r) (hl : p ∉ B.l) {o : HO} (hH : H p = some o) : Wd K { B with G := upd B.G p o } M H := by
  refine ⟨fun a u e => ?_, w.rlen, w.llen, w.nd, fun i a c h1 h2 => ?_, fun i a ds h1 h2 => ?_, w.tr⟩
  · have e' : upd B.G p o a = some u := e
    by_cases z : a = p
    · rw [z, upd_same] at e'
      rw [z, hH]
      exact e'
    · rw [upd_ne z] at e'
      exact w.le a u e'
  · obtain ⟨q1, q2⟩ := w.dc i a c h1 h2
    have na : a ≠ p := fun z => hr (by rw [← z]; exact mem_of_get h1)
    exact ⟨(upd_ne na).trans q1, CellAt.mono (B := B) (B' := { B with G := upd B.G p o }) (upd_keep hG) (List.prefix_refl _) rfl q2⟩
  · obtain ⟨q1, xs, q2, q3⟩ := w.lc i a ds h1 h2
    have na : a ≠ p := fun z => hl (by rw [← z]; exact mem_of_get h1)
    exact ⟨(upd_ne na).trans q1, xs, q2, RpA.mono (upd_keep hG) q3⟩
/-- an object beside the world -/
theorem Wd.side {K : PySem.W.Frag} {B : Bk} {M : Mem} {H : Hp} (w : Wd K B M H) {p : Addr} (hp : H p = none) (o : HO) : Wd K B M (upd H p o) := by
  obtain ⟨hG, hr, hl⟩ := w.fresh hp
  refine ⟨fun a u e => ?_, w.rlen, w.llen, w.nd, fun i a c h1 h2 => ?_, fun i a ds h1 h2 => ?_, fun a ha => ?_⟩
  · rw [upd_ne (ne_of_none e hG)]
    exact w.le a u e
  · obtain ⟨q1, q2⟩ := w.dc i a c h1 h2
    exact ⟨q1, CellAt.mono (fun _ _ e => e) (List.prefix_refl _) (upd_ne fun z => hr (by rw [← z]; exact mem_of_get h1)) q2⟩
  · obtain ⟨q1, xs, q2, q3⟩ := w.lc i a ds h1 h2
    exact ⟨q1, xs, (upd_ne fun z => hl (by rw [← z]; exact mem_of_get h1)).trans q2, q3⟩
  · rw [upd_ne fun z => ?_]
    · exact w.tr a ha
    · subst z
      exact w.tr a ha hp
theorem Ext.side {B : Bk} {H : Hp} {p : Addr} (hp : H p = none) (o : HO) : Ext B H B (upd H p o) := by
  refine ⟨fun _ _ e => e, List.prefix_refl _, List.prefix_refl _, fun a u e _ _ => ?_, fun a e => ?_, fun _ e => .inl e, fun _ e => .inl e, fun _ _ e => .inl e⟩
  · rw [upd_ne (ne_of_none e hp)]
    exact e
  · by_cases z : a = p
    · rw [z]
      exact hp
    · rw [upd_ne z] at e
      exact e
end L3
set_option Elab.async false
set_option linter.all false
set_option maxRecDepth 100000
namespace L3
open PySem PySem.Spec L2
def mNext : Ms := fun E τ M => E.nx τ M
def mSeq (s r : Ms) : Ms := fun E τ M => s { E with nx := r E } τ M
def mDrop (m : Me) : Ms := fun E τ M => m τ M fun _ M1 => E.nx τ M1
def mRet (m : Me) : Ms := fun E τ M => m τ M E.rt
def mIf (c : Mb) (s r : Ms) : Ms := fun E τ M => c τ M fun b M1 => if b = true then s E τ M1 else r E τ M1
def mSet (i : Nat) (m : Me) : Ms := fun E τ M => m τ M fun t M1 => E.nx (τ.set i (some t)) M1
def mAsg (m : Me) (g : Mg) : Ms := fun E τ M => m τ M fun t M1 => g t τ M1 E.nx
def mPar (i j : Nat) (r : Ma) : Ms := fun E τ M => r τ M fun ts M1 => match ts with
  | [t, u] => E.nx ((τ.set i (some t)).set j (some u)) M1
  | _ => False
section
variable {X : Cx} {e c tg : Expr} {m : Me} {mc : Mb} {mr : Ma} {st : Stmt} {sts a b : List Stmt} {s r : Ms} {pos : Pos} {g : Mg}
theorem mss_nil : MSs X [] mNext := PSs.of pss_nil fun D σ H ⟨E, τ, M, B, h, w, sl, g⟩ => g.nx τ M B σ H h w (.refl _ _) sl
theorem mss_cons (h1 : MS X st s) (h2 : MSs X sts r) : MSs X (st :: sts) (mSeq s r) := PSs.of (pss_cons h1 h2) fun D σ H ⟨E, τ, M, B, h, w, sl, g⟩ =>
  ⟨{ E with nx := r E }, τ, M, B, h, w, sl, fun τ' M' B' σ' H' q w' e' s' => ⟨E, τ', M', B', q, w', s', g.ext e'⟩, g.rt, g.bk, g.ct⟩
theorem mss_one (h1 : MS X st s) : MSs X [st] s := pss_one h1
theorem ms_expr (he : ME X e m) (hs : swapsWith e none pos.line X.env = pure false := by rfl) : MS X (.Expr e pos) (mDrop m) := PS.of (ps_expr he hs) fun D σ H ⟨E, τ, M, B, h, w, sl, g⟩ =>
  ⟨τ, M, B, _, h, w, sl, fun v t M1 B1 H1 h1 w1 e1 _ => g.nx τ M1 B1 σ H1 h1 w1 e1 (sl.mono e1)⟩
theorem ms_ret (he : ME X e m) : MS X (.Return (some e) pos) (mRet m) := PS.of (ps_ret he) fun D σ H ⟨E, τ, M, B, h, w, sl, g⟩ =>
  ⟨τ, M, B, _, h, w, sl, g.rt⟩
theorem ms_if (hc : MB X c mc) (ha : MSs X a s) (hb : MSs X b r) : MS X (.If c a b pos) (mIf mc s r) := PS.of (ps_if hc ha hb) fun D σ H ⟨E, τ, M, B, h, w, sl, g⟩ => by
  refine ⟨τ, M, B, _, h, w, sl, fun k M1 B1 H1 h1 w1 e1 => ?_⟩
  cases k with
  | true => exact ⟨E, τ, M1, B1, h1, w1, sl.mono e1, g.ext e1⟩
  | false => exact ⟨E, τ, M1, B1, h1, w1, sl.mono e1, g.ext e1⟩
theorem ms_set {i : Nat} {x : Str} {pos' : Pos} (hN : X.N.Nodup) (hi : X.N[i]? = some x) (hx : Loc X.env.scope x) (he : ME X e m) (hs : swapsWith e (some (.Name x pos')) pos.line X.env = pure false := by rfl)
    (hf : X.fn x = true ∨ X.env.scope.names.lookup x = some .local := by first | exact .inl rfl | exact .inr rfl | assumption) : MS X (.Assign [.Name x pos'] e pos) (mSet i m) := PS.of (L2.ps_set hN hi hx he hs hf) fun D σ H ⟨E, τ, M, B, h, w, sl, g⟩ =>
  ⟨τ, M, B, _, h, w, sl, fun v t M1 B1 H1 h1 w1 e1 r1 => g.nx _ M1 B1 _ H1 h1 w1 e1 ((sl.mono e1).set i r1)⟩
theorem ms_asg {os : List Nat} (he : ME X e m) (hg : MG X tg os g) (hs : swapsWithSole [tg] e pos.line X.env = pure false := by rfl) (hw : swappedStores [tg] e X.env = pure none := by rfl)
    (h1 : (assignEach [tg] X.env).map (·.2) = [assign tg X.env] := by rfl) : MS X (.Assign [tg] e pos) (mAsg m g) := PS.of (ps_asg he hg hs hw h1) fun D σ H ⟨E, τ, M, B, h, w, sl, g⟩ =>
  ⟨τ, M, B, _, h, w, sl, fun v t M1 B1 H1 h1 w1 e1 r1 => ⟨t, τ, M1, B1, _, h1, w1, sl.mono e1, r1, fun τ2 M2 B2 σ2 H2 h2 w2 e2 s2 _ => g.nx _ M2 B2 _ H2 h2 w2 (e1.trans e2) s2⟩⟩
theorem ms_par {i j : Nat} {x y : Str} {e1 e2 : Expr} {px py pt : Pos} {kt k2 : Nat} {pt2 : Pos} (hc : X.calm = true) (hN : X.N.Nodup) (hi : X.N[i]? = some x) (hj : X.N[j]? = some y) (hij : i ≠ j)
    (hx : X.env.scope.names.lookup x = some .local) (hy : X.env.scope.names.lookup y = some .local) (ha : MA X [e1, e2] mr)
    (hw : swappedStores [.Tuple [.Name x px, .Name y py] kt pt] (.Tuple [e1, e2] k2 pt2) X.env = pure (some [x, y]))
    (hs : swapsWithSole [.Tuple [.Name x px, .Name y py] kt pt] (.Tuple [e1, e2] k2 pt2) pos.line X.env = pure false := by rfl) :
    MS X (.Assign [.Tuple [.Name x px, .Name y py] kt pt] (.Tuple [e1, e2] k2 pt2) pos) (mPar i j mr) := PS.of (ps_par hc hN hi hj hij hx hy ha hw hs) fun D σ H ⟨E, τ, M, B, h, w, sl, g⟩ => by
  refine ⟨τ, M, B, _, h, w, sl, fun v t M1 B1 H1 h1 w1 e1 r1 => ?_⟩
  split at h1
  · obtain ⟨v, u, rfl, r2, r3⟩ := paired_two r1
    exact ⟨v, u, rfl, g.nx _ M1 B1 _ H1 h1 w1 e1 (((sl.mono e1).set i r2).set j r3)⟩
  · exact h1.elim
def gN (i : Nat) : Mg := fun t τ M Q => Q (τ.set i (some t)) M
abbrev Mgs := List PyData → En → Mem → (En → Mem → Prop) → Prop
def gsNil : Mgs := fun xs τ M Q => xs = [] ∧ Q τ M
def gsCons (g : Mg) (r : Mgs) : Mgs := fun xs τ M Q => match xs with
  | x :: ys => g (.d x) τ M fun τ1 M1 => r ys τ1 M1 Q
  | [] => False
def gTu (n : Nat) (r : Mgs) : Mg := fun t τ M Q => match t with
  | .d (.tuple xs) => xs.length = n ∧ r xs τ M Q
  | .wt xs => xs.length = n ∧ r xs τ M Q
  | _ => False
def rGs (K : PySem.W.Frag) (os : List Nat) (m : Mgs) : TGs := fun vs σ H Q' => ∃ ds τ M B Q, m ds τ M Q ∧ Wd K B M H ∧ Sl K B σ τ ∧ RpA K B.G vs ds ∧ ∀ τ' M' B' σ' H', Q τ' M' → Wd K B' M' H' → Ext B H B' H' → Sl K B' σ' τ' → Ag os σ σ' → Q' σ' H'
theorem PGs.of {es : List Expr} {t t' : TGs} (h : PGs X es t) (w : ∀ v σ H Q, t' v σ H Q → t v σ H Q) : PGs X es t' := ⟨fun _ _ _ _ _ _ _ iv rv q => h.run _ _ _ _ _ _ _ iv rv (w _ _ _ _ q)⟩
abbrev MGs (X : Cx) (es : List Expr) (os : List Nat) (m : Mgs) : Prop := PGs X es (rGs X.K os m)
variable {gr : Mgs} {es : List Expr}
theorem mg_name {i : Nat} {x : Str} (hN : X.N.Nodup) (hi : X.N[i]? = some x) (hx : Loc X.env.scope x) (hf : X.fn x = true ∨ X.env.scope.names.lookup x = some .local := by first | exact .inl rfl | exact .inr rfl | assumption) : MG X (.Name x pos) [i] (gN i) :=
  PG.of (pg_name hN hi hx hf) fun v σ H Q' ⟨t, τ, M, B, Q, h, w, s, r, k⟩ => k _ M B _ H h w (.refl _ _) (s.set i r) ⟨List.length_set, fun j n => List.getElem?_set_ne fun z => n (by simp [z])⟩
theorem mgs_nil : MGs X [] [] gsNil := PGs.of pgs_nil fun v σ H Q' ⟨ds, τ, M, B, Q, h, w, s, r, k⟩ => by
  obtain ⟨rfl, q⟩ := h
  cases r
  exact ⟨rfl, k _ M B _ H q w (.refl _ _) s ⟨rfl, fun _ _ => rfl⟩⟩
theorem mgs_cons {o1 o2 : List Nat} (h1 : MG X e o1 g) (h2 : MGs X es o2 gr) (hs : (assignEach (e :: es) X.env).map (·.2) = assign e X.env :: (assignEach es X.env).map (·.2) := by rfl) : MGs X (e :: es) (o1 ++ o2) (gsCons g gr) :=
  PGs.of (pgs_cons h1 h2 hs) fun v σ H Q' ⟨ds, τ, M, B, Q, h, w, s, r, k⟩ => by
  unfold gsCons at h
  split at h
  · cases r with
    | cons p q =>
      refine ⟨_, _, rfl, _, τ, M, B, _, h, w, s, p, fun τ1 M1 B1 σ1 H1 h1 w1 e1 s1 a1 => ?_⟩
      exact ⟨_, τ1, M1, B1, Q, h1, w1, s1, RpA.mono e1.g q, fun τ2 M2 B2 σ2 H2 h2 w2 e2 s2 a2 => k τ2 M2 B2 σ2 H2 h2 w2 (e1.trans e2) s2 (a1.trans a2)⟩
  · exact h.elim
theorem mg_tup {os : List Nat} {k : Nat} {n : Nat} (hc : X.calm = true) (h : MGs X es os gr) (hn : (assignEach es X.env).length = n := by rfl) (hst : (assignEach es X.env).findIdx? (·.1) = none := by rfl) : MG X (.Tuple es k pos) os (gTu n gr) :=
  PG.of (pg_tup hc h hn hst) fun v σ H Q' ⟨t, τ, M, B, Q, h, w, s, r, k⟩ => by
  unfold gTu at h
  split at h
  · cases r with
    | tup e q => exact ⟨_, _, rfl, SqT.mono w.le e, (RpA.length q).trans h.1, _, τ, M, B, Q, h.2, w, s, q, k⟩
  · obtain ⟨a, vs, rfl, e, q⟩ := r
    exact ⟨_, _, rfl, SqT.mono0 w.le e, (RpA.length q).trans h.1, _, τ, M, B, Q, h.2, w, s, q, k⟩
  · exact h.elim
end
abbrev Mi := En → Mem → (List T → Mem → Prop) → Prop
/-- J gives the trees ts, one after another, while what is frozen in G stands -/
def WalkT (K : PySem.W.Frag) (B : Bk) (J : It) (ts : List T) : Prop := Walk J ts.length (fun H => ∀ a o, B.G a = some o → H a = some o) fun i H x H' =>
  (H' = H ∧ ∃ t, ts[i]? = some t ∧ Rt K B x t) ∨ ∃ p vs ds u, x = .ref p ∧ H p = none ∧ H' = upd H p u ∧ RpA K B.G vs ds ∧ (u = .tup vs ∧ ts[i]? = some (.wt ds) ∨ ∃ o : Obj, o.dict = none ∧ u = .frz o (.tup vs) ∧ ts[i]? = some (.d (.tuple ds)))
def rI (K : PySem.W.Frag) (m : Mi) : TI := fun σ H R => ∃ τ M B Q, m τ M Q ∧ Wd K B M H ∧ Sl K B σ τ ∧ ∀ ts M' B' H' J, Q ts M' → Wd K B' M' H' → Ext B H B' H' → WalkT K B' J ts → R J H'
abbrev MI (X : Cx) (tg iter : Expr) (m : Mi) : Prop := PI X tg iter (rI X.K m)
theorem PI.of {X : Cx} {tg iter : Expr} {t t' : TI} (h : PI X tg iter t) (w : ∀ σ H Q, t' σ H Q → t σ H Q) : PI X tg iter t' := ⟨fun _ _ _ _ _ iv q => h.run _ _ _ _ _ iv (w _ _ _ q)⟩
section
variable {X : Cx} {e c tg : Expr} {m : Me} {mr : Ma} {pos : Pos}
/-- a list or a tuple that never changes -/
def iSeq (m : Me) : Mi := fun τ M Q => m τ M fun t M1 => match t with
  | .d (.list xs) => Q (xs.map T.d) M1
  | .d (.tuple xs) => Q (xs.map T.d) M1
  | .scr ns => Q (ns.map T.int) M1
  | _ => False
theorem mapd_get {xs : List PyData} {i : Nat} {x : PyData} (e : xs[i]? = some x) : (xs.map T.d)[i]? = some (.d x) := by
  rw [List.getElem?_map, e]
  rfl
theorem walkT_l {K : PySem.W.Frag} {B : Bk} {a : Addr} {vs : List V} {ds : List PyData} (e : SqL K B.G a vs) (q : RpA K B.G vs ds) : WalkT K B (Itl K a) (ds.map T.d) := by
  unfold WalkT
  rw [List.length_map, ← RpA.length q]
  refine walk_list.mono (fun H g => SqL.mono g e) fun i H x H' hi g y => .inl ⟨y.1, ?_⟩
  have hd : i < ds.length := by rw [← RpA.length q]; exact hi
  obtain ⟨u, h1, h2⟩ := RpA.get q (List.getElem?_eq_getElem hd)
  refine ⟨_, mapd_get (List.getElem?_eq_getElem hd), ?_⟩
  rw [y.2] at h1
  cases h1
  exact h2
theorem walkT_t {K : PySem.W.Frag} {B : Bk} {a : Addr} {vs : List V} {ds : List PyData} (e : SqT K B.G a vs) (q : RpA K B.G vs ds) : WalkT K B (Itt K a) (ds.map T.d) := by
  unfold WalkT
  rw [List.length_map, ← RpA.length q]
  refine walk_tup.mono (fun H g => SqT.mono0 g e) fun i H x H' hi g y => .inl ⟨y.1, ?_⟩
  have hd : i < ds.length := by rw [← RpA.length q]; exact hi
  obtain ⟨u, h1, h2⟩ := RpA.get q (List.getElem?_eq_getElem hd)
  refine ⟨_, mapd_get (List.getElem?_eq_getElem hd), ?_⟩
  rw [y.2] at h1
  cases h1
  exact h2
/-- a list's, a tuple's iterator has come -/
theorem pie_l {pn : List (Addr × Obj)} {sg : L2.St} {hp : Hp} {sh : Shared} {a : Addr} {vs : List V} {R : It → Hp → Prop} (iv : Inv X pn sg hp sh) (hq : SqL X.K hp a vs) (hR : R (Itl X.K a) hp) :
    wpAny (model X.prog X.w) X.A (pyIter (.ref a)) (PIE X pn sg tg R) X.xe sh := by
  obtain ⟨its, _, pl, _⟩ := iv.list hq
  refine wpAny_pyIter_list pl.isList ?_
  refine ⟨sh.heap.objs.size, [sh.heap.objs.size], _, _, hp, rfl, ?_, turn_list a _, ?_, fun b mb => ?_, hR⟩
  · exact iv.kept (t' := sh.toks) fun _ _ z => Heap.get?_push_of_some _ z
  · exact ⟨_, Heap.get?_push_size _ rfl, rfl, rfl⟩
  · obtain rfl : b = sh.heap.objs.size := List.mem_singleton.mp mb
    exact iv.fpOk (Nat.le_refl _) (iv.hok.fresh (Nat.le_refl _))
theorem pie_t {pn : List (Addr × Obj)} {sg : L2.St} {hp : Hp} {sh : Shared} {a : Addr} {vs : List V} {R : It → Hp → Prop} (iv : Inv X pn sg hp sh) (hq : SqT X.K hp a vs) (hR : R (Itt X.K a) hp) :
    wpAny (model X.prog X.w) X.A (pyIter (.ref a)) (PIE X pn sg tg R) X.xe sh := by
  obtain ⟨its, _, pl, _⟩ := iv.tuple hq
  refine wpAny_pyIter_tuple (items := its.toArray) pl ?_
  refine ⟨sh.heap.objs.size, [sh.heap.objs.size], _, _, hp, rfl, ?_, turn_tuple a _, ?_, fun b mb => ?_, hR⟩
  · exact iv.kept (t' := sh.toks) fun _ _ z => Heap.get?_push_of_some _ z
  · exact ⟨_, Heap.get?_push_size _ rfl, rfl, rfl⟩
  · obtain rfl : b = sh.heap.objs.size := List.mem_singleton.mp mb
    exact iv.fpOk (Nat.le_refl _) (iv.hok.fresh (Nat.le_refl _))
theorem mi_seq (he : ME X e m) : MI X tg e (iSeq m) := by
  refine ⟨fun pn sh sg hp R iv ⟨τ, M, B, Q, h, w, s, k⟩ => ?_⟩
  let P := fun (x : V) (H1 : Hp) => ∃ t M1 B1, (match t with | .d (.list xs) => Q (xs.map T.d) M1 | .d (.tuple xs) => Q (xs.map T.d) M1 | .scr ns => Q (ns.map T.int) M1 | _ => False) ∧ Wd X.K B1 M1 H1 ∧ Ext B hp B1 H1 ∧ Rt X.K B1 x t
  refine thn (he.run pn sh sg hp P iv ⟨τ, M, B, _, h, w, s, fun v t M1 B1 H1 h1 w1 e1 r1 => ⟨t, M1, B1, h1, w1, e1, r1⟩⟩) fun v s1 ⟨x, H1, i1, rx, t, M1, B1, h1, w1, e1, r1⟩ => ?_
  split at h1
  · cases r1 with
    | lst e q =>
      cases rx
      exact pie_l i1 (.of (w1.le _ _ e)) (k _ M1 B1 H1 _ h1 w1 e1 (walkT_l (.of e) q))
  · cases r1 with
    | tup e q =>
      cases rx
      exact pie_t i1 (SqT.mono w1.le e) (k _ M1 B1 H1 _ h1 w1 e1 (walkT_t e.t q))
  · obtain ⟨a, rfl, e⟩ := r1
    cases rx
    refine pie_l i1 (SqL.mono w1.le e) (k _ M1 B1 H1 _ h1 w1 e1 ?_)
    have := walkT_l (K := X.K) (B := B1) e (RpA.of_ints _)
    rw [List.map_map] at this
    exact this
  · exact h1.elim
/-- range(n) -/
def rangeT (n : Nat) : List T := (List.range n).map fun (i : Nat) => T.int (i : Int)
def iRange (r : Ma) : Mi := fun τ M Q => r τ M fun ts M1 => match ts with
  | [.d (.int j)] => (-(2 ^ 62) ≤ j ∧ j < 2 ^ 62) ∧ Q (rangeT j.toNat) M1
  | _ => False
theorem mi_range {a : Expr} {p : Pos} (hg : Gl X "range") (hm : X.mg "range" = none) (ha : MA X [a] mr) (hs : starEach [a] X.env = [(false, eval a X.env)] := by rfl) : MI X tg (.Call (.Name "range" p) [a] [] pos) (iRange mr) := PI.of (pi_range1 hg hm ha hs) fun σ H R ⟨τ, M, B, Q, h, w, s, k⟩ => by
  refine ⟨τ, M, B, _, h, w, s, fun v t M1 B1 H1 h1 w1 e1 r1 => ?_⟩
  split at h1
  · obtain ⟨v, rfl, r⟩ := paired_one r1
    cases r
    rename_i j
    refine ⟨j, rfl, h1.1.1, h1.1.2, k _ M1 B1 H1 _ h1.2 w1 e1 ?_⟩
    unfold WalkT rangeT
    rw [List.length_map, List.length_range]
    refine walk_range.mono (fun _ _ => trivial) fun i H x H' hi _ y => .inl ⟨y.1, T.int (i : Int), ?_, ?_⟩
    · rw [List.getElem?_map, List.getElem?_range hi]
      rfl
    · rw [y.2]
      show Rt X.K B1 (.int (0 + (i : Int))) (T.int (i : Int))
      rw [Int.zero_add]
      exact .int _
  · exact h1.elim
def goFor (g : Mg) (b : Ms) (E : Es) : List T → En → Mem → Prop
  | [], τ, M => E.nx τ M
  | t :: ts, τ, M => g t τ M fun τ1 M1 => b { E with nx := goFor g b E ts, ct := goFor g b E ts, bk := E.nx } τ1 M1
def mFor (i : Mi) (g : Mg) (b : Ms) : Ms := fun E τ M => i τ M fun ts M1 => goFor g b E ts τ M1
theorem drop_at {α : Type} {l : List α} {i : Nat} (h : i < l.length) : l.drop i = l[i] :: l.drop (i + 1) := List.drop_eq_getElem_cons h
/-- what is given at a turn is in the world -/
theorem WalkT.step {K : PySem.W.Frag} {B1 B2 : Bk} {M2 : Mem} {H1 H2 H3 : Hp} {ts : List T} {i : Nat} {x : V} (hi : i < ts.length) (w2 : Wd K B2 M2 H2) (e2 : Ext B1 H1 B2 H2)
    (y : (H3 = H2 ∧ ∃ t, ts[i]? = some t ∧ Rt K B1 x t) ∨ ∃ p vs ds u, x = .ref p ∧ H2 p = none ∧ H3 = upd H2 p u ∧ RpA K B1.G vs ds ∧ (u = .tup vs ∧ ts[i]? = some (.wt ds) ∨ ∃ o : Obj, o.dict = none ∧ u = .frz o (.tup vs) ∧ ts[i]? = some (.d (.tuple ds)))) :
    ∃ B3, Wd K B3 M2 H3 ∧ Ext B2 H2 B3 H3 ∧ Rt K B3 x ts[i] := by
  have hg : ts[i]? = some ts[i] := List.getElem?_eq_getElem hi
  rcases y with ⟨rfl, t, h1, h2⟩ | ⟨p, vs, ds, u, rfl, h1, rfl, h2, ⟨rfl, h3⟩ | ⟨o, ho, rfl, h3⟩⟩
  · rw [hg] at h1
    cases h1
    exact ⟨B2, w2, .refl _ _, Rt.mono e2 h2⟩
  · rw [hg] at h3
    obtain ⟨w3, e3⟩ := w2.alloc h1 (.tup vs)
    refine ⟨_, w3, e3, ?_⟩
    rw [Option.some.inj h3]
    exact ⟨p, vs, rfl, .inl (.inl upd_same), RpA.mono e3.g (RpA.mono e2.g h2)⟩
  · rw [hg] at h3
    obtain ⟨w3, e3⟩ := w2.alloc h1 (.frz o (.tup vs))
    refine ⟨_, w3, e3, ?_⟩
    rw [Option.some.inj h3]
    exact .tup (.inl ⟨o, upd_same, ho⟩) (RpA.mono e3.g (RpA.mono e2.g h2))
theorem ms_for {os : List Nat} {body : List Stmt} {i : Mi} {g : Mg} {b : Ms} (hp : PassesOwn (model X.prog X.w) X.A X.env X.xe) (hc : X.calm = true) (hi : MI X tg e i) (hg : MG X tg os g) (hb : MSs X body b)
    (hs : ∀ x, foldedSetIterable e X.env x = pure x := by intro _; rfl) : MS X (.For tg e body [] pos) (mFor i g b) := PS.of (ps_for hp hc hi hg hb hs) fun D σ H ⟨E, τ, M, B, h, w, sl, go⟩ => by
  refine ⟨τ, M, B, _, h, w, sl, fun ts M1 B1 H1 J h1 w1 e1 W => ?_⟩
  refine for_it W (fun i σ2 H2 => ∃ τ2 M2 B2, goFor g b E (ts.drop i) τ2 M2 ∧ Wd X.K B2 M2 H2 ∧ Sl X.K B2 σ2 τ2 ∧ Ext B1 H1 B2 H2) ⟨τ, M1, B1, h1, w1, sl.mono e1, .refl _ _⟩ ?_ ?_ ?_
  · rintro i σ2 H2 _ ⟨τ2, M2, B2, _, w2, _, e2⟩ a o z
    exact w2.le a o (e2.g a o z)
  · rintro i x σ2 H2 H3 hi ⟨τ2, M2, B2, h2, w2, s2, e2⟩ y
    obtain ⟨B3, w3, e3, r3⟩ := WalkT.step hi w2 e2 y
    rw [drop_at hi] at h2
    refine ⟨ts[i], τ2, M2, B3, _, h2, w3, s2.mono e3, r3, fun τ4 M4 B4 σ4 H4 h4 w4 e4 s4 _ => ?_⟩
    have e14 := e2.trans (e3.trans e4)
    refine ⟨_, τ4, M4, B4, h4, w4, s4, ⟨?_, ?_, ?_, ?_⟩⟩
    · exact fun τ5 M5 B5 σ5 H5 q w5 e5 s5 => ⟨τ5, M5, B5, q, w5, s5, e14.trans e5⟩
    · exact fun v t M5 B5 H5 q w5 e5 r5 => go.rt v t M5 B5 H5 q w5 (e1.trans (e14.trans e5)) r5
    · exact fun τ5 M5 B5 σ5 H5 q w5 e5 s5 => go.nx τ5 M5 B5 σ5 H5 q w5 (e1.trans (e14.trans e5)) s5
    · exact fun τ5 M5 B5 σ5 H5 q w5 e5 s5 => ⟨τ5, M5, B5, q, w5, s5, e14.trans e5⟩
  · rintro σ2 H2 ⟨τ2, M2, B2, h2, w2, s2, e2⟩
    rw [List.drop_length] at h2
    exact go.nx τ2 M2 B2 σ2 H2 h2 w2 (e1.trans e2) s2
def goWh (c : Mb) (b : Ms) (E : Es) : Nat → En → Mem → Prop
  | 0, _, _ => False
  | n + 1, τ, M => c τ M fun k M1 => if k = true then b { E with nx := goWh c b E n, ct := goWh c b E n, bk := E.nx } τ M1 else E.nx τ M1
def mWhile (c : Mb) (b : Ms) : Ms := fun E τ M => ∃ n, goWh c b E n τ M
theorem ms_while {body : List Stmt} {mc : Mb} {b : Ms} (hp : PassesOwn (model X.prog X.w) X.A X.env X.xe) (hc : MB X c mc) (hb : MSs X body b) : MS X (.While c body [] pos) (mWhile mc b) := PS.of (ps_while hp hc hb) fun D σ H ⟨E, τ, M, B, ⟨n, h⟩, w, sl, go⟩ => by
  refine ⟨fun m σ2 H2 => ∃ τ2 M2 B2, goWh mc b E m τ2 M2 ∧ Wd X.K B2 M2 H2 ∧ Sl X.K B2 σ2 τ2 ∧ Ext B H B2 H2, ⟨n, τ, M, B, h, w, sl, .refl _ _⟩, ?_⟩
  rintro m σ2 H2 ⟨τ2, M2, B2, h2, w2, s2, e2⟩
  cases m with
  | zero => exact h2.elim
  | succ m =>
    refine ⟨τ2, M2, B2, _, h2, w2, s2, fun k M3 B3 H3 h3 w3 e3 => ?_⟩
    have e13 := e2.trans e3
    cases k with
    | false => exact go.nx τ2 M3 B3 σ2 H3 h3 w3 e13 (s2.mono e3)
    | true =>
      refine ⟨fun σ' H' => ∃ τ5 M5 B5, goWh mc b E m τ5 M5 ∧ Wd X.K B5 M5 H' ∧ Sl X.K B5 σ' τ5 ∧ Ext B H B5 H', fun σ' H' z => ⟨m, Nat.lt_succ_self m, z⟩, ?_⟩
      refine ⟨_, τ2, M3, B3, h3, w3, s2.mono e3, ⟨?_, ?_, ?_, ?_⟩⟩
      · exact fun τ5 M5 B5 σ5 H5 q w5 e5 s5 => ⟨τ5, M5, B5, q, w5, s5, e13.trans e5⟩
      · exact fun v t M5 B5 H5 q w5 e5 r5 => go.rt v t M5 B5 H5 q w5 (e13.trans e5) r5
      · exact fun τ5 M5 B5 σ5 H5 q w5 e5 s5 => go.nx τ5 M5 B5 σ5 H5 q w5 (e13.trans e5) s5
      · exact fun τ5 M5 B5 σ5 H5 q w5 e5 s5 => ⟨τ5, M5, B5, q, w5, s5, e13.trans e5⟩
def goLc (g : Mg) (c : Mb) (m : Me) (τ0 : En) (Q : List PyData → Mem → Prop) : List T → List PyData → Mem → Prop
  | [], acc, M => Q acc M
  | t :: ts, acc, M => g t τ0 M fun τ1 M1 => c τ1 M1 fun k M2 => if k = true then m τ1 M2 fun y M3 => (match y with
      | .d z => acc.length < sizeLine ∧ goLc g c m τ0 Q ts (acc ++ [z]) M3
      | _ => False) else goLc g c m τ0 Q ts acc M2
def mLc (i : Mi) (g : Mg) (c : Mb) (m : Me) (vs : List Nat) : Me := fun τ M Q => i τ M fun ts M1 => goLc g c m (wipeT τ vs) (fun acc M2 => Q (.lst acc) M2) ts [] M1
def bYes : Mb := fun _ M Q => Q true M
abbrev MTs (X : Cx) (ifs : List Expr) (c : Mb) : Prop := PTs X ifs (rB X.K c)
theorem PTs.of {ifs : List Expr} {t t' : TT} (h : PTs X ifs t) (w : ∀ σ H Q, t' σ H Q → t σ H Q) : PTs X ifs t' := ⟨fun _ _ _ _ _ iv q => h.run _ _ _ _ _ iv (w _ _ _ q)⟩
theorem mts_nil : MTs X [] bYes := PTs.of pts_nil fun σ H Q' ⟨τ, M, B, Q, h, w, s, k⟩ => k _ M B H h w (.refl _ _)
theorem mts_one {mc : Mb} (h : MB X c mc) : MTs X [c] mc := pts_one h
theorem Ext.adoptG {B B2 : Bk} {H H2 : Hp} {p : Addr} {o : HO} (hp : H p = none) (x : Ext B H B2 H2) : Ext B H { B2 with G := upd B2.G p o } H2 ∨ B2.G p ≠ none := by
  by_cases z : B2.G p = none
  · refine .inl ⟨fun a u e => ?_, x.r, x.l, x.fr, x.tr, x.rn, x.ln, fun a u e => ?_⟩
    · exact upd_keep z a u (x.g a u e)
    · have e' : upd B2.G p o a = some u := e
      by_cases y : a = p
      · rw [y]
        exact .inr (.inl hp)
      · rw [upd_ne y] at e'
        exact x.gf a u e'
  · exact .inr z
theorem lc_gen {K : PySem.W.Frag} {i : Mi} {g : Mg} {os : List Nat} {mc : Mb} {vs0 : List Nat} {σ : L2.St} {H : Hp} {Q' : VK} {τ : En} {M : Mem} {B : Bk} {Qf : List PyData → Mem → Prop} (sub : ∀ j ∈ os, j ∈ vs0)
    (h : i τ M fun ts M1 => goLc g mc m (wipeT τ vs0) Qf ts [] M1) (w : Wd K B M H) (sl : Sl K B σ τ)
    (k : ∀ (D : Addr) (acc : List PyData) (vs : List V) (M2 : Mem) (B2 : Bk) (H2 : Hp), Qf acc M2 → H D = none → Wd K B2 M2 H2 → Ext B H B2 H2 → H2 D = some (.lst vs) → RpA K B2.G vs acc → B2.G D = none → D ∉ B2.r → D ∉ B2.l → Q' (.ref D) H2) :
    tLc (rI K i) (rG K os g) (rB K mc) (rE K m) vs0 σ H Q' := by
  refine ⟨τ, M, B, _, h, w, sl, fun ts M1 B1 H1 J h1 w1 e1 W D hD => ?_⟩
  obtain ⟨dG, dr, dl⟩ := w1.fresh hD
  have sw := (sl.mono e1).wipe vs0
  refine lc_it W (fun i H2 => ∃ acc vs M2 B2, goLc g mc m (wipeT τ vs0) Qf (ts.drop i) acc M2 ∧ Wd K B2 M2 H2 ∧ Ext B1 H1 B2 H2 ∧ H2 D = some (.lst vs) ∧ RpA K B2.G vs acc ∧ B2.G D = none ∧ D ∉ B2.r ∧ D ∉ B2.l) ?_ ?_ ?_ ?_
  · exact ⟨[], [], M1, B1, h1, w1.side hD _, .side hD _, upd_same, .nil, dG, dr, dl⟩
  · rintro i H2 _ ⟨acc, vs, M2, B2, _, w2, e2, _⟩ a o z
    exact w2.le a o (e2.g a o z)
  · rintro i x H2 H3 hlt ⟨acc, vs, M2, B2, h2, w2, e2, d2, r2, g2, n2, l2⟩ y
    obtain ⟨B3, w3, e3, r3⟩ := WalkT.step hlt w2 e2 y
    rw [drop_at hlt, goLc] at h2
    have keepD : ∀ {B4 : Bk} {H4 : Hp}, Ext B2 H2 B4 H4 → H4 D = some (.lst vs) ∧ B4.G D = none ∧ D ∉ B4.r ∧ D ∉ B4.l := fun {B4 H4} e4 => by
      refine ⟨e4.fr D _ d2 n2 l2, ?_, fun z => ?_, fun z => ?_⟩
      · cases q : B4.G D with
        | none => rfl
        | some o =>
          rcases e4.gf D o q with z | z | z
          · rw [g2] at z; cases z
          · rw [d2] at z; cases z
          · exact absurd z l2
      · rcases e4.rn D z with q | q
        · exact n2 q
        · rw [d2] at q; cases q
      · rcases e4.ln D z with q | q
        · exact l2 q
        · rw [d2] at q; cases q
    refine ⟨ts[i], wipeT τ vs0, M2, B3, _, h2, w3, (sw.mono e2).mono e3, r3, fun τ4 M4 B4 σ4 H4 h4 w4 e4 s4 a4 => ⟨a4.wipe sub, ?_⟩⟩
    refine ⟨τ4, M4, B4, _, h4, w4, s4, fun k5 M5 B5 H5 h5 w5 e5 => ?_⟩
    have e25 := e3.trans (e4.trans e5)
    cases k5 with
    | false =>
      obtain ⟨q1, q2, q3, q4⟩ := keepD e25
      exact ⟨acc, vs, M5, B5, h5, w5, e2.trans e25, q1, RpA.mono e25.g r2, q2, q3, q4⟩
    | true =>
      refine ⟨τ4, M5, B5, _, h5, w5, s4.mono e5, fun v t M6 B6 H6 h6 w6 e6 r6 => ?_⟩
      split at h6
      · have e26 := e25.trans e6
        obtain ⟨q1, q2, q3, q4⟩ := keepD e26
        refine ⟨vs, q1, by rw [RpA.length r2]; exact h6.1, acc ++ [_], vs ++ [v], M6, B6, h6.2, ?_, ?_, upd_same, RpA.append (RpA.mono e26.g r2) (.cons r6 .nil), q2, q3, q4⟩
        · -- the world does not know D
          refine ⟨fun a u z => ?_, w6.rlen, w6.llen, w6.nd, fun j a c z1 z2 => ?_, fun j a ds z1 z2 => ?_, fun a ha => ?_⟩
          · rw [upd_ne (ne_of_none z q2)]
            exact w6.le a u z
          · obtain ⟨p1, p2⟩ := w6.dc j a c z1 z2
            exact ⟨p1, CellAt.mono (fun _ _ e => e) (List.prefix_refl _) (upd_ne fun z => q3 (by rw [← z]; exact mem_of_get z1)) p2⟩
          · obtain ⟨p1, xs, p2, p3⟩ := w6.lc j a ds z1 z2
            exact ⟨p1, xs, (upd_ne fun z => q4 (by rw [← z]; exact mem_of_get z1)).trans p2, p3⟩
          · rw [upd_ne fun z => ?_]
            · exact w6.tr a ha
            · rw [z] at ha
              exact (List.mem_append.mp ha).elim q3 q4
        · have x6 := e2.trans e26
          refine ⟨x6.g, x6.r, x6.l, fun a u z n1 n2 => ?_, fun a z => ?_, x6.rn, x6.ln, x6.gf⟩
          · rw [upd_ne (ne_of_none z hD)]
            exact x6.fr a u z n1 n2
          · by_cases q : a = D
            · rw [q]
              exact hD
            · rw [upd_ne q] at z
              exact x6.tr a z
      · exact h6.elim
  · rintro H2 ⟨acc, vs, M2, B2, h2, w2, e2, d2, r2, g2, n2, l2⟩
    rw [List.drop_length] at h2
    exact k D acc vs M2 B2 H2 h2 (e1.tr D hD) w2 (e1.trans e2) d2 r2 g2 n2 l2
theorem lc_of {K : PySem.W.Frag} {i : Mi} {g : Mg} {os : List Nat} {mc : Mb} {vs0 : List Nat} {σ : L2.St} {H : Hp} {Q' : VK} (sub : ∀ j ∈ os, j ∈ vs0) (h : rE K (mLc i g mc m vs0) σ H Q') : tLc (rI K i) (rG K os g) (rB K mc) (rE K m) vs0 σ H Q' := by
  obtain ⟨τ, M, B, Q, h, w, sl, k⟩ := h
  refine lc_gen sub h w sl fun D acc vs M2 B2 H2 h2 hD w2 e2 d2 r2 g2 n2 l2 => ?_
  rcases Ext.adoptG (o := .lst vs) hD e2 with x | x
  · exact k _ _ M2 _ H2 h2 (w2.adoptG g2 n2 l2 d2) x (.lst upd_same (RpA.mono (upd_keep g2) r2))
  · exact absurd g2 x
/-- .. as a list of the frame's own -/
def mLcL (i : Mi) (g : Mg) (c : Mb) (m : Me) (vs : List Nat) : Me := fun τ M Q => i τ M fun ts M1 => goLc g c m (wipeT τ vs) (fun acc M2 => Q (.lr M2.L.length) { M2 with L := M2.L ++ [some acc] }) ts [] M1
theorem Wd.adoptL {K : PySem.W.Frag} {B : Bk} {M : Mem} {H : Hp} (w : Wd K B M H) {p : Addr} (hG : B.G p = none) (hr : p ∉ B.r) (hl : p ∉ B.l) {xs : List V} {ds : List PyData} (hH : H p = some (.lst xs)) (q : RpA K B.G xs ds) :
    Wd K { B with l := B.l ++ [p] } { M with L := M.L ++ [some ds] } H := by
  refine ⟨w.le, w.rlen, by simp [w.llen], ?_, w.dc, fun i a es h1 h2 => ?_, fun a ha => ?_⟩
  · show (B.r ++ (B.l ++ [p])).Nodup
    rw [← List.append_assoc]
    exact nodup_snoc w.nd fun z => (List.mem_append.mp z).elim hr hl
  · have h1' : (B.l ++ [p])[i]? = some a := h1
    have h2' : (M.L ++ [some ds])[i]? = some (some es) := h2
    rcases Nat.lt_or_ge i B.l.length with z | z
    · rw [List.getElem?_append_left z] at h1'
      rw [List.getElem?_append_left (by rw [← w.llen]; exact z)] at h2'
      exact w.lc i a es h1' h2'
    · rw [List.getElem?_append_right z] at h1'
      rw [List.getElem?_append_right (by rw [← w.llen]; exact z), ← w.llen] at h2'
      cases j : i - B.l.length with
      | succ k => rw [j] at h1'; simp at h1'
      | zero =>
        rw [j] at h1' h2'
        simp only [List.getElem?_cons_zero, Option.some.injEq] at h1' h2'
        subst h1'
        subst h2'
        exact ⟨hG, xs, hH, q⟩
  · have ha' : a ∈ B.r ++ (B.l ++ [p]) := ha
    rw [← List.append_assoc] at ha'
    rcases List.mem_append.mp ha' with z | z
    · exact w.tr a z
    · rw [List.mem_singleton] at z
      rw [z, hH]
      exact fun q => nomatch q
theorem lc_ofL {K : PySem.W.Frag} {i : Mi} {g : Mg} {os : List Nat} {mc : Mb} {vs0 : List Nat} {σ : L2.St} {H : Hp} {Q' : VK} (sub : ∀ j ∈ os, j ∈ vs0) (h : rE K (mLcL i g mc m vs0) σ H Q') : tLc (rI K i) (rG K os g) (rB K mc) (rE K m) vs0 σ H Q' := by
  obtain ⟨τ, M, B, Q, h, w, sl, k⟩ := h
  refine lc_gen sub h w sl fun D acc vs M2 B2 H2 h2 hD w2 e2 d2 r2 g2 n2 l2 => ?_
  refine k _ _ _ { B2 with l := B2.l ++ [D] } H2 h2 (w2.adoptL g2 n2 l2 d2 r2) ⟨e2.g, e2.r, e2.l.trans (List.prefix_append _ _), e2.fr, e2.tr, e2.rn, fun a z => ?_, e2.gf⟩ ⟨D, rfl, by rw [← w2.llen]; exact get_snoc⟩
  rcases List.mem_append.mp z with y | y
  · exact e2.ln a y
  · rw [List.mem_singleton] at y
    rw [y]
    exact .inr hD
section
variable {elt : Expr} {ifs : List Expr} {scope : Scope} {own : List (Str × Nat)} {i : Mi} {g : Mg} {os : List Nat} {mc : Mb}
theorem me_lc (hc : X.calm = true) (hN : X.N.Nodup) (hi : MI X tg e i) (ok : BlkOk X.N X.env.scope scope own)
    (hg : ∀ (s : Shared) (H : Hp) (C : Addr) (cl : List (Str × Addr)) (fp : List Addr), MG (X.blk s H scope (compEnvC scope cl C X.env) fp) tg os g) (ht : ∀ (s : Shared) (H : Hp) (C : Addr) (cl : List (Str × Addr)) (fp : List Addr), MTs (X.blk s H scope (compEnvC scope cl C X.env) fp) ifs mc)
    (he : ∀ (s : Shared) (H : Hp) (C : Addr) (cl : List (Str × Addr)) (fp : List Addr), ME (X.blk s H scope (compEnvC scope cl C X.env) fp) elt m) (sub : ∀ j ∈ os, j ∈ own.map (·.2)) (hs : ∀ x, foldedSetIterable e X.env x = pure x := by intro _; rfl) :
    ME X (.ListComp elt [⟨tg, e, ifs, 0⟩] scope pos) (mLc i g mc m (own.map (·.2))) := PE.of (pe_lc (te := rE X.K m) (tt := rB X.K mc) (g := rG X.K os g) hc hN hi ok hg ht he hs) fun _ _ _ h => lc_of sub h
variable {n : Nat} {y : Str} {py spos : Pos}
theorem ms_setLc (hc : X.calm = true) (hN : X.N.Nodup) (hy : X.N[n]? = some y) (hyl : X.env.scope.names.lookup y = some .local)
    (hsw : swapsWith (.ListComp elt [⟨tg, e, ifs, 0⟩] scope pos) (some (.Name y py)) spos.line X.env = pure true) (hi : MI X tg e i) (ok : BlkOk X.N X.env.scope scope own)
    (hg : ∀ (s : Shared) (H : Hp) (C : Addr) (cl : List (Str × Addr)) (fp : List Addr), MG (X.blk s H scope (compEnvC scope cl C X.env) fp) tg os g) (ht : ∀ (s : Shared) (H : Hp) (C : Addr) (cl : List (Str × Addr)) (fp : List Addr), MTs (X.blk s H scope (compEnvC scope cl C X.env) fp) ifs mc)
    (he : ∀ (s : Shared) (H : Hp) (C : Addr) (cl : List (Str × Addr)) (fp : List Addr), ME (X.blk s H scope (compEnvC scope cl C X.env) fp) elt m) (sub : ∀ j ∈ os, j ∈ own.map (·.2)) (hs : ∀ x, foldedSetIterable e X.env x = pure x := by intro _; rfl) :
    MS X (.Assign [.Name y py] (.ListComp elt [⟨tg, e, ifs, 0⟩] scope pos) spos) (mSet n (mLc i g mc m (own.map (·.2)))) := PS.of (L2.ps_setLc (te := rE X.K m) (tt := rB X.K mc) (g := rG X.K os g) hc hN hy hyl hsw hi ok hg ht he hs) fun D σ H ⟨E, τ, M, B, h, w, sl, go⟩ =>
  lc_of sub ⟨τ, M, B, _, h, w, sl, fun v t M1 B1 H1 h1 w1 e1 r1 => go.nx _ M1 B1 _ H1 h1 w1 e1 ((sl.mono e1).set n r1)⟩
theorem ms_setLcL (hc : X.calm = true) (hN : X.N.Nodup) (hy : X.N[n]? = some y) (hyl : X.env.scope.names.lookup y = some .local)
    (hsw : swapsWith (.ListComp elt [⟨tg, e, ifs, 0⟩] scope pos) (some (.Name y py)) spos.line X.env = pure true) (hi : MI X tg e i) (ok : BlkOk X.N X.env.scope scope own)
    (hg : ∀ (s : Shared) (H : Hp) (C : Addr) (cl : List (Str × Addr)) (fp : List Addr), MG (X.blk s H scope (compEnvC scope cl C X.env) fp) tg os g) (ht : ∀ (s : Shared) (H : Hp) (C : Addr) (cl : List (Str × Addr)) (fp : List Addr), MTs (X.blk s H scope (compEnvC scope cl C X.env) fp) ifs mc)
    (he : ∀ (s : Shared) (H : Hp) (C : Addr) (cl : List (Str × Addr)) (fp : List Addr), ME (X.blk s H scope (compEnvC scope cl C X.env) fp) elt m) (sub : ∀ j ∈ os, j ∈ own.map (·.2)) (hs : ∀ x, foldedSetIterable e X.env x = pure x := by intro _; rfl) :
    MS X (.Assign [.Name y py] (.ListComp elt [⟨tg, e, ifs, 0⟩] scope pos) spos) (mSet n (mLcL i g mc m (own.map (·.2)))) := PS.of (L2.ps_setLc (te := rE X.K m) (tt := rB X.K mc) (g := rG X.K os g) hc hN hy hyl hsw hi ok hg ht he hs) fun D σ H ⟨E, τ, M, B, h, w, sl, go⟩ =>
  lc_ofL sub ⟨τ, M, B, _, h, w, sl, fun v t M1 B1 H1 h1 w1 e1 r1 => go.nx _ M1 B1 _ H1 h1 w1 e1 ((sl.mono e1).set n r1)⟩
end
end
end L3
set_option Elab.async false
set_option linter.all false
set_option maxRecDepth 100000
namespace L3
open PySem PySem.Spec L2
def Gd (A : Around) : Prop := A.guards = some []
structure FnG (P : Program) (w : World) (K : PySem.W.Frag) (mg : Str → Option Value) (base : Heap) (k : Nat) (f : Addr) (fd : FuncData) (ps : List Str) (sp : Sp) : Prop where
  len : ∀ vs H Q E, sp vs H Q E → vs.length = ps.length
  run : ∀ (A : Around) (outer : List Env) (sh : Shared) (H : Hp) (args : Args) (us : List Value) (vs : List V) (Q : VK) (E : XK), Gd A → Room k A → Env0 P w K mg base A outer sh H → BindsTo sh fd args (ps.zip us) → Vals vs us → sp vs H Q E →
    codeAny (model P w) A (.call (.ref f) args) (CR CX0 outer P w H sh Q E) sh
theorem FnG.mono {P : Program} {w : World} {K : PySem.W.Frag} {mg : Str → Option Value} {base : Heap} {j k : Nat} {f : Addr} {fd : FuncData} {ps : List Str} {sp : Sp} (F : FnG P w K mg base j f fd ps sp) (h : j ≤ k) : FnG P w K mg base k f fd ps sp :=
  ⟨F.len, fun A outer sh H args us vs Q E gd rm => F.run A outer sh H args us vs Q E gd (rm.mono h)⟩
theorem fng_of {P : Program} {w : World} {K : PySem.W.Frag} {mg : Str → Option Value} {base : Heap} {x qual : Str} {st : Stmt} {f : Addr} {fd : FuncData} {N ps : List Str} {k : Nat} {sp : Sp}
    (F : Fun K x qual st f fd) (S : FnScope N ps (defScope st)) (len : ∀ vs H Q E, sp vs H Q E → vs.length = ps.length)
    (body : ∀ (cdv : Value) (A : Around) (outer : List Env) (sh : Shared) (H : Hp) (vs : List V) (Q : VK) (E : XK), Gd (A.deeper (PyProof.Rows.envOfC qual (defScope st) sh.heap.objs.size f cdv)) → Room k (A.deeper (PyProof.Rows.envOfC qual (defScope st) sh.heap.objs.size f cdv)) → sp vs H Q E →
      ∃ t, PSs (cxOf CX0 P w K mg base N qual (defScope st) f cdv A outer sh H E).nox (defBody st) t ∧ t { nx := fun _ H' => Q .non H', rt := Q } (start N vs) H) :
    FnG P w K mg base (k + 1) f fd ps sp := by
  obtain ⟨oc, od, kV, doc, pm, an, cdv, ct, osl, rfl, lk, hcd⟩ := F.ex
  refine ⟨len, fun A outer sh H args us vs Q E gd rm e0 bnd rv q => ?_⟩
  have hlen := len _ _ _ _ q
  have kin : K.In sh.heap := e0.mod.kin.keeps fun b o z => (e0.bs b o z).1
  have nolim : sh.heap.NoLimit := e0.mod.nolimit.keeps fun b o z => (e0.bs b o z).1
  have kinds : ∀ y ∈ ps.zip us, (defScope st).names.lookup y.1 = some .local ∨ ((defScope st).names.lookup y.1 = some .cell ∧ ((cellsFrom (sh.heap.objs.size + 1) (defScope st).names []).lookup y.1).isSome = true) := by
    rintro ⟨nm, vl⟩ hy
    exact (S.par nm (List.of_mem_zip hy).1).elim .inl fun z => .inr ⟨z, PySem.W.cellsFrom_some _ _ _ (.inl z)⟩
  refine codeAny_call_function rm.depth (kin _ _ lk) rfl S.co S.gen rfl (PySem.W.codeRec_of kin hcd) (bnd _ _ _ _ ?_)
  refine wpAny_newFunctionEnv_cells S.kind kinds fun env he sh1 xx => ?_
  subst he
  refine ⟨nolim.keeps xx.toInCall.keep, codeAny_func ?_⟩
  obtain ⟨t, ht, hq⟩ := body cdv A outer sh H vs Q E gd (rm.deeper _) q
  have iv := inv_start (CX := CX0) (E := E) S rm.hd e0 hlen rv xx
  refine wpAny_mono (ht.nox.run [] sh1 (start N vs) H _ iv hq) (fun fl sh' hs => ?_) fun _ _ hs => hs
  cases fl with
  | ret u =>
    obtain ⟨v, σ', H', J, r', q'⟩ := hs
    exact ⟨v, H', J.os, J.bare, J.base, J.hok, r', q'⟩
  | next =>
    obtain ⟨σ', H', J, q'⟩ := hs
    exact ⟨V.non, H', J.os, J.bare, J.base, J.hok, rfl, q'⟩
  | brk => obtain ⟨_, _, _, q'⟩ := hs; exact False.elim q'
  | cont => obtain ⟨_, _, _, q'⟩ := hs; exact False.elim q'
abbrev FD := List T → List Cell → (T → List Cell → Prop) → Prop
def spM (K : PySem.W.Frag) (m : FD) : Sp := fun vs H Q _ => ∃ ts D B Q1, m ts D Q1 ∧ Wd K B ⟨D, []⟩ H ∧ Paired (Rt K B) vs ts ∧ ∀ v t D' B' H', Q1 t D' → Wd K B' ⟨D', []⟩ H' → Ext B H B' H' → Rt K B' v t → Q v H'
/-- a def of n parameters and N names -/
def mDef (n N : Nat) (body : Ms) : FD := fun ts D Q => ts.length = n ∧ body { nx := fun _ M => Q .non M.D, rt := fun t M => noL t = true ∧ Q t M.D } (ts.map some ++ List.replicate (N - n) none) ⟨D, []⟩
theorem start_sl {K : PySem.W.Frag} {B : Bk} {N : List Str} {vs : List V} {ts : List T} (r : Paired (Rt K B) vs ts) : Sl K B (start N vs) (ts.map some ++ List.replicate (N.length - ts.length) none) := by
  have hl := paired_len r
  refine ⟨by simp [L2.start, hl], fun i t e => ?_⟩
  unfold L2.start
  by_cases hi : i < ts.length
  · rw [List.getElem?_append_left (by rw [List.length_map]; exact hi), List.getElem?_map] at e
    cases h : ts[i]? with
    | none => rw [h] at e; cases e
    | some u =>
      rw [h] at e
      cases e
      obtain ⟨v, h1, h2⟩ := paired_get r h
      exact ⟨v, by rw [List.getElem?_append_left (by rw [List.length_map, hl]; exact hi), List.getElem?_map, h1]; rfl, h2⟩
  · rw [List.getElem?_append_right (by rw [List.length_map]; omega), List.getElem?_replicate] at e
    split at e <;> cases e
/-- a frame's end: its own lists are forgotten -/
theorem Wd.leave {K : PySem.W.Frag} {B : Bk} {M : Mem} {H : Hp} (w : Wd K B M H) : Wd K { B with l := [] } ⟨M.D, []⟩ H :=
  ⟨w.le, w.rlen, rfl, by
    show (B.r ++ []).Nodup
    rw [List.append_nil]
    exact (List.nodup_append.mp w.nd).1, w.dc, fun i a ds h1 _ => by
    have h1' : ([] : List Addr)[i]? = some a := h1
    simp at h1', fun a ha => by
    have ha' : a ∈ B.r ++ [] := ha
    rw [List.append_nil] at ha'
    exact w.tr a (List.mem_append_left _ ha')⟩
theorem ok_def {P : Program} {w : World} {K : PySem.W.Frag} {mg : Str → Option Value} {base : Heap} {x qual : Str} {st : Stmt} {f : Addr} {fd : FuncData} {N ps : List Str} {k : Nat} {m : Ms}
    (F : Fun K x qual st f fd) (S : FnScope N ps (defScope st))
    (body : ∀ (cdv : Value) (A : Around) (outer : List Env) (sh : Shared) (H : Hp) (E : XK), Gd (A.deeper (PyProof.Rows.envOfC qual (defScope st) sh.heap.objs.size f cdv)) → Room k (A.deeper (PyProof.Rows.envOfC qual (defScope st) sh.heap.objs.size f cdv)) →
      MSs (cxOf CX0 P w K mg base N qual (defScope st) f cdv A outer sh H E).nox (defBody st) m) :
    FnG P w K mg base (k + 1) f fd ps (spM K (mDef ps.length N.length m)) := by
  refine fng_of F S (fun vs H Q E h => ?_) fun cdv A outer sh H vs Q E gd rm h => ?_
  · obtain ⟨ts, D, B, Q1, ⟨h1, _⟩, _, r, _⟩ := h
    exact (paired_len r).trans h1
  · obtain ⟨ts, D, B, Q1, ⟨h1, h2⟩, wd, r, kk⟩ := h
    refine ⟨_, body cdv A outer sh H E gd rm, ?_⟩
    have lB : B.l = [] := List.length_eq_zero_iff.mp wd.llen
    have s0 := start_sl (N := N) r
    rw [h1] at s0
    refine ⟨_, _, ⟨D, []⟩, B, h2, wd, s0, ⟨fun τ' M' B' σ' H' q w' e' s' => ?_, fun v t M' B' H' q w' e' r' => ?_, fun _ _ _ _ _ q => q.elim, fun _ _ _ _ _ q => q.elim⟩⟩
    · refine kk .non .non M'.D { B' with l := [] } H' q w'.leave ⟨e'.g, e'.r, ?_, e'.fr, e'.tr, e'.rn, fun a z => absurd z (by simp), e'.gf⟩ .non
      rw [lB]
      exact List.nil_prefix
    · refine kk v t M'.D { B' with l := [] } H' q.2 w'.leave ⟨e'.g, e'.r, ?_, e'.fr, e'.tr, e'.rn, fun a z => absurd z (by simp), e'.gf⟩ (r'.deck q.1)
      rw [lB]
      exact List.nil_prefix
def fDef (m : FD) : FA := fun ts M Q => (∀ t ∈ ts, noL t = true) ∧ m ts M.D fun t D' => Q t { M with D := D' }
theorem paired_deck {K : PySem.W.Frag} {B : Bk} : ∀ {vs : List V} {ts : List T}, Paired (Rt K B) vs ts → (∀ t ∈ ts, noL t = true) → Paired (Rt K { B with l := [] }) vs ts
  | _, _, .nil, _ => .nil
  | _, _, .cons p q, h => .cons (p.deck (h _ (List.mem_cons_self ..))) (paired_deck q fun t z => h t (List.mem_cons_of_mem _ z))
theorem sp_of {K : PySem.W.Frag} {m : FD} {vs : List V} {ts : List T} {M : Mem} {B : Bk} {H : Hp} {Q : Kt} {Q' : VK} {E : XK} (h : fDef m ts M Q) (w : Wd K B M H) (r : Paired (Rt K B) vs ts)
    (k : ∀ v t' M' B' H', Q t' M' → Wd K B' M' H' → Ext B H B' H' → Rt K B' v t' → Q' v H') : spM K m vs H Q' E := by
  refine ⟨ts, M.D, { B with l := [] }, _, h.2, w.leave, paired_deck r h.1, fun v t D' B1 H1 q w1 e1 r1 => ?_⟩
  have l1 : B1.l = [] := List.length_eq_zero_iff.mp w1.llen
  have own : ∀ a ∈ B.l, H a ≠ none := fun a z => w.tr a (List.mem_append_right _ z)
  have nr1 : ∀ a ∈ B.l, a ∉ B1.r := fun a z y => by
    rcases e1.rn a y with q | q
    · exact w.rl q z
    · exact own a z q
  have stay : ∀ {a : Addr} {o : HO}, a ∈ B.l → H a = some o → H1 a = some o := fun {a o} z e => e1.fr a o e (fun y => w.rl y z) fun y => by cases y
  have e' : Ext B H { B1 with l := B.l } H1 := ⟨e1.g, e1.r, List.prefix_refl _, fun a o e n1 n2 => e1.fr a o e n1 (by intro y; cases y), e1.tr, e1.rn, fun a z => .inl z, fun a o e => (e1.gf a o e).elim .inl fun z => z.elim (fun z => .inr (.inl z)) (by intro z; cases z)⟩
  refine k v t { M with D := D' } { B1 with l := B.l } H1 q ⟨w1.le, w1.rlen, w.llen, ?_, w1.dc, fun i a ds h1 h2 => ?_, fun a ha => ?_⟩ e' ?_
  · show (B1.r ++ B.l).Nodup
    have n1 := w1.nd
    rw [l1, List.append_nil] at n1
    refine List.nodup_append.mpr ⟨n1, (List.nodup_append.mp w.nd).2.1, fun x hx y hy z => ?_⟩
    subst z
    exact nr1 x hy hx
  · obtain ⟨q1, xs, q2, q3⟩ := w.lc i a ds h1 h2
    have ml := mem_of_get h1
    refine ⟨?_, xs, stay ml q2, RpA.mono e1.g q3⟩
    show B1.G a = none
    cases z : B1.G a with
    | none => rfl
    | some o =>
      rcases e1.gf a o z with y | y | y
      · rw [show B.G a = none from q1] at y; cases y
      · exact absurd y (own a ml)
      · cases y
  · have ha' : a ∈ B1.r ++ B.l := ha
    rcases List.mem_append.mp ha' with z | z
    · exact w1.tr a (List.mem_append_left _ z)
    · exact fun y => own a z (e1.tr a y)
  · cases t with
    | d x => exact r1
    | mr i => exact r1
    | lr i =>
      obtain ⟨a, _, z⟩ := r1
      rw [l1] at z
      simp at z
    | scr ns => exact r1
    | wt xs => exact r1
    | exo a c d e => exact r1
section
variable {X : Cx} {k : Nat} {f : Addr} {fd : FuncData} {ps ks : List Str} {m : FD} {x : Str} {p pos : Pos} {e : Expr} {es : List Expr} {mr mk : Ma} {kws : List Keyword}
theorem run_g {args : Args} {us : List Value} {vs : List V} {sp : Sp} {pn : List (Addr × Obj)} {sh : Shared} {sg : L2.St} {hp : Hp} {Q : VK} (F : FnG X.prog X.w X.K X.mg X.base k f fd ps sp) (gd : Gd X.A) (rm : Room k X.A)
    (hb : BindsTo sh fd args (ps.zip us)) (iv : Inv X pn sg hp sh) (rv : Vals vs us) (h : sp vs hp Q E0) : wpAny (model X.prog X.w) X.A (call (.ref f) args.pos args.kw) (EP X pn sg Q) X.xe sh := by
  refine wpAny_call (codeAny_mono (F.run X.A X.stack sh hp args us vs Q E0 gd rm iv.env0 hb rv h) fun r sh' hq => ?_)
  cases r with
  | error z => exact False.elim hq
  | ok fl =>
    cases fl with
    | ret u => exact iv.after hq
    | next => exact hq.elim
    | brk => exact hq.elim
    | cont => exact hq.elim
theorem me_call (F : FnG X.prog X.w X.K X.mg X.base k f fd ps (spM X.K m)) (gd : Gd X.A) (rm : Room k X.A) (hg : Gl X x) (hm : X.mg x = some (.ref f)) (hk : PySem.W.keepIn X.K (.ref f) = true) (hb : Binds X.K fd ps [])
    (ha : MA X (e :: es) mr) (hdb : (x == ("__debug__" : Str)) = false := by decide) (he : starEach (e :: es) X.env = (false, eval e X.env) :: starEach es X.env := by rfl) (hpl : (backTo pos (starEach es X.env)).any (·.1) = false := by rfl) :
    ME X (.Call (.Name x p) (e :: es) [] pos) (mCall (fDef m) mr) := by
  refine ⟨fun pn sh sg hp Q' iv ⟨τ, M, B, Q, h, w, s, kk⟩ => wpAny_Call_Name_kw (ld_glob iv hg hm ?_ hdb)⟩
  let P := fun (vs : List V) (H1 : Hp) => spM X.K m vs H1 Q' E0
  refine PySem.W.callWith_K (h₀ := X.base) iv.ok.mod.kin hk (thn (ha.run pos pn sh sg hp P iv ⟨τ, M, B, _, h, w, s, fun vs ts M1 B1 H1 h1 w1 e1 r1 => ?_⟩) fun us s1 ⟨vs, H1, i1, r, q⟩ => ⟨i1.kIn, ?_⟩) he hpl
  · exact sp_of h1 w1 r1 fun v t M2 B2 H2 h2 w2 e2 r2 => kk v t M2 B2 H2 h2 w2 (e1.trans e2) r2
  · have hl : (us ++ []).length = ps.length := by
      rw [List.append_nil, ← r.length]
      exact F.len _ _ _ _ q
    have hbb := hb s1 us i1.kIn hl
    rw [List.append_nil] at hbb
    exact run_g (args := ⟨us, []⟩) F gd rm hbb i1 r q
abbrev MK (X : Cx) (kws : List Keyword) (m : Ma) : Prop := PK X kws (rA X.K m)
theorem PK.of {t t' : TA} (h : PK X kws t) (w : ∀ σ H Q, t' σ H Q → t σ H Q) : PK X kws t' := ⟨fun _ _ _ _ _ _ iv q => h.run _ _ _ _ _ _ iv (w _ _ _ q)⟩
theorem mk_nil : MK X [] aNil := PK.of pk_nil fun σ H Q' ⟨τ, M, B, Q, h, w, s, k⟩ => k _ _ M B H h w (.refl _ _) .nil
theorem mk_cons {nm : Option Str} {kpos : Pos} {me : Me} (ha : ME X e me) (hr : MK X kws mr) : MK X (⟨nm, e, kpos⟩ :: kws) (aCons me mr) := PK.of (pk_cons ha hr) fun σ H Q' ⟨τ, M, B, Q, h, w, s, k⟩ => by
  refine ⟨τ, M, B, _, h, w, s, fun v t M1 B1 H1 h1 w1 e1 r1 => ⟨τ, M1, B1, _, h1, w1, s.mono e1, fun v2 t2 M2 B2 H2 h2 w2 e2 r2 => ?_⟩⟩
  exact k _ _ M2 B2 H2 h2 w2 (e1.trans e2) (.cons (Rt.mono e2 r1) r2)
/-- how keywords alone bind: the values by g in the parameters' order -/
structure KB (K : PySem.W.Frag) (fd : FuncData) (ps ks : List Str) (g : {α : Type} → List α → List α) : Prop where
  to : ∀ (s : Shared) (ws : List Value), K.In s.heap → ws.length = ks.length → BindsTo s fd ⟨[], ks.zip ws⟩ (ps.zip (g ws))
  rel : ∀ {α β : Type} (R : α → β → Prop) {zs : List α} {ws : List β}, zs.length = ks.length → Paired R zs ws → Paired R (g zs) (g ws)
def mCallK (g : {α : Type} → List α → List α) (n : Nat) (f : FA) (r : Ma) : Me := fun τ M Q => r τ M fun ts M1 => ts.length = n ∧ f (g ts) M1 Q
end
end L3
set_option Elab.async false
set_option linter.all false
set_option maxRecDepth 100000
namespace L3
open PySem PySem.Spec L2
structure OkShow (x : PyData) : Prop where
  sh : x.showable = true
  nd : x.hasDict = false
  dp : x.depth ≤ 100
  ln : x.shown.length ≤ sizeLine
def fRepr : FA := fun ts M Q => match ts with
  | [t] => (match now t M with
    | some x => OkShow x ∧ Q (.str x.shown) M
    | none => False)
  | _ => False
def rRepr (K : PySem.W.Frag) : List V → Hp → VK → Prop := fun xs H Q => ∃ v x, xs = [v] ∧ Dp K H v x ∧ OkShow x ∧ Q (.str x.shown) H
theorem cal_repr {K : PySem.W.Frag} : CaL K (rRepr K) fRepr := by
  intro xs ts M B H Q Q' h w r k
  unfold fRepr at h
  split at h
  · obtain ⟨v, rfl, r1⟩ := paired_one r
    split at h
    · rename_i x e
      exact ⟨v, x, rfl, w.dpNow r1 e, h.1, k _ _ M B H h.2 w (.refl _ _) (.str _)⟩
    · exact h.elim
  · exact h.elim
theorem cr_repr {X : Cx} {k : Nat} (gd : Gd X.A) (rm : Room k X.A) : CallR X (.builtin "repr") (rRepr X.K) := by
  intro pn sh sg hp xs us Q iv rv h
  obtain ⟨v, x, rfl, hd, ok, q⟩ := h
  cases rv with
  | cons r1 rr =>
    cases rr
    have un := rm.un
    have dp := ok.dp
    have fin : ∀ (h' : Heap) (u : Tok) (tk : Nat), (∀ b o, sh.heap.get? b = some o → h'.get? b = some o) → EP X pn sg Q (.str x.shown u) { sh with heap := h', toks := tk } := fun h' u tk z => ⟨.str x.shown, hp, iv.kept z, ⟨_, rfl⟩, q⟩
    obtain ⟨as, rd⟩ := Dp.reads iv x v _ hd r1
    cases rd with
    | none => exact PySem.P.repr_of_none (fin _ _ _ fun _ _ z => z)
    | bool b => exact PySem.P.repr_of_bool (fin _ _ _ fun _ _ z => z)
    | int i t => exact PySem.P.repr_of_int (of_decide_eq_true ok.sh) (fin _ _ _ fun _ _ z => z)
    | str y t => exact PySem.P.repr_of_str (fin _ _ _ fun _ _ z => z) ok.ln
    | list h1 h2 h3 h4 => exact repr_of_reads' (.list h1 h2 h3 h4) ok.sh (PyData.noDict_hsm ok.nd) gd (by omega) (fun _ _ z => z) fin ok.ln
    | tuple h1 h2 h3 h4 => exact repr_of_reads' (.tuple h1 h2 h3 h4) ok.sh (PyData.noDict_hsm ok.nd) gd (by omega) (fun _ _ z => z) fin ok.ln
    | dict h1 h2 h3 h4 h5 => exact repr_of_reads' (.dict h1 h2 h3 h4 h5) ok.sh (PyData.noDict_hsm ok.nd) gd (by omega) (fun _ _ z => z) fin ok.ln
theorem head_core {P : Program} {w : World} {K : PySem.W.Frag} {mg mb : Str → Option Value} {k : Nat} {fa a : Addr} {fd : FuncData} {x : Str} {sp : Sp} {s1 : Shared} {vs : List Value} {H : Hp}
    (kin : K.In s1.heap) (ns : s1.heap.Ns mainGlobals mg) (nb : s1.heap.Ns builtinsNs mb) (bb : ∀ x : Str, x ≠ "__name__" → mb x = bootBuiltins x) (lim : s1.heap.NoLimit) (gens : s1.gens = #[])
    (ha : s1.heap.get? a = some { cls := .type "list", data := .seq vs.toArray }) (rm : Room k callerA)
    (F : ∀ base : Heap, K.In base → base.Ns mainGlobals mg → FnG P w K mg base k fa fd [x] sp) (bnd : ∀ (s : Shared) (u : Value), BindsTo s fd ⟨[u], []⟩ [(x, u)])
    (hO : Only H) (hsp : sp [.ref a] H (fun v _ => v = .bl true) fun _ _ _ => False) (hok : HOk P w H s1.heap) (hA : ∀ b, H b ≠ none → b = a) (hK : H a ≠ none → K.lookup a = none) :
    codeAny (model P w) callerA (.call (.ref fa) ⟨[.ref a], []⟩) (fun r s' => r = .ok (.ret (.bool true)) ∧ PySem.OldK s1.heap s'.heap ∧ s'.os = s1.os ∧ PyProof.Rows.AllBare s'.gens) s1 := by
  have untr : ∀ {b : Addr} {o : Obj}, s1.heap.get? b = some o → (∀ u, H b = some u → b = a → False) → (hidT s1.heap H).get? b = some o := fun {b o} e n => by
    refine hidT_get e ?_
    cases z : H b with
    | none => rfl
    | some u => exact (n u z (hA b (by rw [z]; exact fun y => nomatch y))).elim
  have nsK : ∀ {b : Addr} {m : Str → Option Value}, s1.heap.Ns b m → (hidT s1.heap H).Ns b m := by
    rintro b m ⟨o, es, ep, e, d, r⟩
    refine ⟨o, es, ep, untr e fun u _ z => ?_, d, r⟩
    subst z
    rw [ha] at e
    cases e
    exact nomatch (show Data.seq vs.toArray _ = Data.dict es ep from d)
  have kinb : K.In (hidT s1.heap H) := fun b o e => untr (kin b o e) fun u z y => by
    subst y
    rw [hK (by rw [z]; exact fun y => nomatch y)] at e
    cases e
  obtain ⟨mc, l1, l2⟩ := lim
  have md : Mod K mg (hidT s1.heap H) := ⟨kinb, nsK ns, ⟨mb, nsK nb, bb⟩, ⟨mc, nsK l1, l2⟩⟩
  have e0 : Env0 P w K mg (hidT s1.heap H) callerA [] s1 H := by
    refine ⟨rfl, md, fun b o e => of_hidT e, Nat.le_of_eq (hidT_size _ _), trivial, fun b z => ?_, hok, .of_eq gens⟩
    cases (show b ∈ ([] : List Addr) from z)
  refine codeAny_mono ((F _ kinb (nsK ns)).run callerA [] s1 H ⟨[.ref a], []⟩ [.ref a] [.ref a] _ _ rfl rm e0 (bnd s1 (.ref a)) (.cons rfl .nil) hsp) fun r s' h => ?_
  cases r with
  | error e => exact False.elim h
  | ok fl =>
    cases fl with
    | next => exact h.elim
    | brk => exact h.elim
    | cont => exact h.elim
    | ret u =>
      obtain ⟨v, H', os, bare, un, hok', r', q⟩ := h
      obtain rfl : v = .bl true := q
      obtain rfl : u = Value.bool true := r'
      refine ⟨rfl, PySem.OldK.of_keep fun b o e => ?_, os, bare⟩
      cases q : H b with
      | none =>
        refine un.keep b o e q (fun z => ?_) (fun z => ?_)
        · cases (show b ∈ ([] : List Addr) from z)
        · cases z
      | some u =>
        rcases hO b with z | ⟨ob, xs, z⟩
        · rw [q] at z; cases z
        · obtain ⟨e1, _⟩ := hok b _ z
          obtain ⟨e2, _⟩ := hok' b _ (un.frzs b ob _ z)
          rw [e] at e1
          cases e1
          exact e2
theorem head_call {P : Program} {w : World} {K : PySem.W.Frag} {mg mb : Str → Option Value} {k : Nat} {fa a : Addr} {fd : FuncData} {x : Str} {sp : Sp} {s1 : Shared} {vs : List Value} {ns : List Int}
    (kin : K.In s1.heap) (hns : s1.heap.Ns mainGlobals mg) (nb : s1.heap.Ns builtinsNs mb) (bb : ∀ x : Str, x ≠ "__name__" → mb x = bootBuiltins x) (lim : s1.heap.NoLimit) (gens : s1.gens = #[])
    (ha : s1.heap.get? a = some { cls := .type "list", data := .seq vs.toArray }) (hi : PyProof.Rows.IntsAre vs ns) (hl : ns.length ≤ sizeLine) (rm : Room k callerA)
    (F : ∀ base : Heap, K.In base → base.Ns mainGlobals mg → FnG P w K mg base k fa fd [x] sp) (bnd : ∀ (s : Shared) (u : Value), BindsTo s fd ⟨[u], []⟩ [(x, u)])
    (hsp : ∀ H : Hp, Only H → SqL K H a (ns.map V.int) → sp [.ref a] H (fun v _ => v = .bl true) fun _ _ _ => False) :
    codeAny (model P w) callerA (.call (.ref fa) ⟨[.ref a], []⟩) (fun r s' => r = .ok (.ret (.bool true)) ∧ PySem.OldK s1.heap s'.heap ∧ s'.os = s1.os ∧ PyProof.Rows.AllBare s'.gens) s1 := by
  have rv := vals_ints hi
  have hlen := hi.length
  cases hk : K.lookup a with
  | some o =>
    have e := kin a o hk
    rw [ha] at e
    cases e
    have hO : Only (fun _ => none) := fun _ => .inl rfl
    refine head_core kin hns nb bb lim gens ha rm F bnd hO (hsp _ hO (.inr ⟨_, vs.toArray, _, hk, rfl, rfl, rfl, ?_, ?_⟩)) (fun b u z => nomatch z) (fun b z => absurd rfl z) fun z => absurd rfl z
    · rw [List.size_toArray, hlen]
      exact hl
    · simpa using rv
  | none =>
    let H : Hp := fun b => if b = a then some (.frz { cls := .type "list", data := .seq vs.toArray } (.lst (ns.map V.int))) else none
    have hH : ∀ b u, H b = some u → b = a ∧ u = .frz { cls := .type "list", data := .seq vs.toArray } (.lst (ns.map V.int)) := fun b u z => by
      by_cases y : b = a
      · exact ⟨y, (Option.some.inj ((if_pos y).symm.trans z)).symm⟩
      · cases (if_neg y).symm.trans z
    have hO : Only H := fun b => by
      by_cases y : b = a
      · exact .inr ⟨_, _, if_pos y⟩
      · exact .inl (if_neg y)
    refine head_core kin hns nb bb lim gens ha rm F bnd hO (hsp H hO (.inl (.inr ⟨_, if_pos rfl⟩))) (fun b u z => ?_) (fun b z => ?_) fun _ => hk
    · obtain ⟨rfl, rfl⟩ := hH b u z
      exact ⟨ha, by rw [List.length_map]; exact hl, vs, _, rv, ha⟩
    · cases y : H b with
      | none => exact absurd y z
      | some u => exact (hH b u y).1
/-- THE END: the law's promise over trees -/
theorem walkG {l : PySem.W.OpenLaw} {n k : Nat} {q : Program} {loose : List Str} {XP : (Str → Option Value) → Heap → Prop} {YP : World → Heap → Prop} {d : DefRec} {K : Params → PySem.W.Frag} {m : FD} {x : Str}
    (hn : l.most = some n) (hn2 : n ≤ sizeLine) (hdf : d.params.defaults = []) (rm : Room k callerA) (hY : ∀ (w : World) (h : Heap), YP w h → (K w.params).In h)
    (F : ∀ (w : World) (mg : Str → Option Value) (fa : Addr) (h : Heap), (K w.params).In h → h.Ns mainGlobals mg → mg d.name = some (.ref fa) →
      ∃ fd : FuncData, (∀ (s : Shared) (u : Value), BindsTo s fd ⟨[u], []⟩ [(x, u)]) ∧ ∀ base : Heap, (K w.params).In base → base.Ns mainGlobals mg → FnG l.prog w (K w.params) mg base k fa fd [x] (spM (K w.params) m))
    (law : ∀ ns : List Int, ns.length ≤ n → m [.scr ns] [] fun t _ => t = T.bl true) :
    PySem.W.WalkO q loose XP YP l.row.toRowW d [] (fun f vs => PySem.call f vs) := by
  refine Att.attach_call hn hdf fun w s₀ s1 mg mb fa o pm cd doc a vs ns G Y ho hd hcd hmg hobj hints hlen hg => ?_
  obtain ⟨fd, hb, hF⟩ := F w mg fa _ (hY w _ Y) G.T.g hmg
  refine head_call (hY w _ Y) G.T.g G.T.b G.T.builtins G.T.nolimit hg hobj hints (Nat.le_trans hlen hn2) rm hF hb fun H hO hS => ?_
  refine ⟨[.scr ns], [], ⟨H, [], []⟩, _, law ns hlen, ⟨fun _ _ z => z, rfl, rfl, List.nodup_nil, fun i a c z => ?_, fun i a c z => ?_, fun a z => ?_⟩, .cons ⟨a, rfl, hS⟩ .nil, fun v t D' B' H' z w' e' r' => ?_⟩
  · simp at z
  · simp at z
  · cases z
  · subst z
    cases r'
    rfl
end L3
set_option Elab.async false
set_option linter.all false
set_option maxRecDepth 100000
namespace L3
open PySem PySem.Spec L2
def Kn (P : Program) (w : World) (K : PySem.W.Frag) (mg : Str → Option Value) (base : Heap) (k : Nat) (x : Str) (st : Stmt) (ps : List Str) (m : FD) : Prop :=
  ∃ f fd, FnG P w K mg base k f fd ps (spM K m) ∧ mg x = some (.ref f) ∧ Fun K x x st f fd ∧ Binds K fd ps []
section
variable {X : Cx} {j k : Nat} {x : Str} {st : Stmt} {ps ks : List Str} {m : FD} {p pos : Pos} {e : Expr} {es : List Expr} {mr : Ma} {kws : List Keyword}
theorem me_fn (h : Kn X.prog X.w X.K X.mg X.base j x st ps m) (gd : Gd X.A) (rm : Room k X.A) (hj : j ≤ k) (hg : Gl X x) (ha : MA X (e :: es) mr) (hdb : (x == ("__debug__" : Str)) = false := by decide)
    (he : starEach (e :: es) X.env = (false, eval e X.env) :: starEach es X.env := by rfl) (hpl : (backTo pos (starEach es X.env)).any (·.1) = false := by rfl) : ME X (.Call (.Name x p) (e :: es) [] pos) (mCall (fDef m) mr) :=
  let ⟨_, _, F, hm, U, hb⟩ := h
  me_call F gd (rm.mono hj) hg hm U.kp hb ha hdb he hpl
end
theorem kb_of {K : PySem.W.Frag} {x qual : Str} {st : Stmt} {f : Addr} {fd : FuncData} {ps ks : List Str} {g : {α : Type} → List α → List α} (F : Fun K x qual st f fd)
    (h : ∀ (kV doc pm : Value) (an : Option Addr) (cdv ct : Value) (ws : List Value), ws.length = ks.length → bindArgs (PySem.W.fnOf x qual (defArgs st) (defBody st) (defScope st) .none kV doc pm an cdv ct) ⟨[], ks.zip ws⟩ = pure (ps.zip (g ws)))
    (rel : ∀ {α β : Type} (R : α → β → Prop) {zs : List α} {ws : List β}, zs.length = ks.length → Paired R zs ws → Paired R (g zs) (g ws)) : KB K fd ps ks g := by
  obtain ⟨oc, od, kV, doc, pm, an, cdv, ct, osl, rfl, lk, hcd⟩ := F.ex
  exact ⟨fun s ws _ hl => .of_eq (h kV doc pm an cdv ct ws hl), rel⟩
def CDv (i j : Int) : Prop := 0 < j ∧ j < 18446744073709551616
theorem CDv.wide {i j : Int} (h : CDv i j) : CDivW i j := by
  refine ⟨h.1, ?_⟩
  have h2 : j.natAbs < 2 ^ 64 := by have := h.2; have := h.1; omega
  have h3 : j.natAbs ≠ 0 := by have := h.1; omega
  have h4 : j.natAbs.log2 < 64 := (Nat.log2_lt h3).mpr h2
  omega
section
variable {X : Cx} {a b c e : Expr} {ma mb m : Me} {pos : Pos}
def oSub : F2 := oI (fun _ _ => True) fun i j => .int (i - j)
def oDiv : F2 := oI CDv fun i j => .int (i / j)
def oMod : F2 := oI (fun _ j => 0 < j) fun i j => .int (i % j)
def oPow : F2 := oI CPow fun i j => .int (i ^ j.toNat)
def oShl : F2 := oI CPow fun i j => .int (i * 2 ^ j.toNat)
def oAnd : F2 := oI (fun _ _ => True) fun i j => .int (Builtin.bitAnd i j)
def oLt : F2 := oI (fun _ _ => True) fun i j => .bool (decide (i < j))
def oLe : F2 := oI (fun _ _ => True) fun i j => .bool (decide (i ≤ j))
def oGt : F2 := oI (fun _ _ => True) fun i j => .bool (decide (j < i))
def oGe : F2 := oI (fun _ _ => True) fun i j => .bool (decide (j ≤ i))
theorem me_add (ha : ME X a ma) (hb : ME X b mb) : ME X (.BinOp a .Add b pos) (mOp oAdd ma mb) := me_op opr_add opl_add ha hb
theorem me_sub (ha : ME X a ma) (hb : ME X b mb) : ME X (.BinOp a .Sub b pos) (mOp oSub ma mb) := me_op op_sub (opl_I0 fun _ _ _ => .int _) ha hb
theorem me_mul (ha : ME X a ma) (hb : ME X b mb) : ME X (.BinOp a .Mult b pos) (mOp oMul ma mb) := me_op opr_mul opl_mul ha hb
theorem opr_div : OpR X (binaryOp .FloorDiv) (L2.rI CDv fun i j => .int (i / j)) := by
  intro pn sh sg hp x y v u Q iv rx ry ⟨i, j, e1, e2, c, q⟩
  exact op_fdivW pn sh sg hp x y v u Q iv rx ry ⟨i, j, e1, e2, c.wide, q⟩
theorem me_div (ha : ME X a ma) (hb : ME X b mb) : ME X (.BinOp a .FloorDiv b pos) (mOp oDiv ma mb) := me_op opr_div (opl_I fun _ _ _ => .int _) ha hb
theorem me_mod (ha : ME X a ma) (hb : ME X b mb) : ME X (.BinOp a .Mod b pos) (mOp oMod ma mb) := me_op op_mod (opl_I fun _ _ _ => .int _) ha hb
theorem me_pow (ha : ME X a ma) (hb : ME X b mb) : ME X (.BinOp a .Pow b pos) (mOp oPow ma mb) := me_op op_pow (opl_I fun _ _ _ => .int _) ha hb
theorem me_lt (ha : ME X a ma) (hb : ME X b mb) : ME X (.Compare a [.Lt] [b] pos) (mOp oLt ma mb) := me_cmp op_lt (opl_I0 fun _ _ _ => .bl _) ha hb (nomark _)
theorem me_eq {k : Nat} (rm : Room k X.A) (ha : ME X a ma) (hb : ME X b mb) : ME X (.Compare a [.Eq] [b] pos) (mOp (oEq false) ma mb) := me_cmp (opr_eq rm.units) opl_eq ha hb (nomark _)
theorem mb_lt (ha : ME X a ma) (hb : ME X b mb) : MB X (.Compare a [.Lt] [b] pos) (mTest (mOp oLt ma mb)) := mb_cmp op_lt (opl_I0 fun _ _ _ => .bl _) ha hb (nomark _)
theorem mb_gt (ha : ME X a ma) (hb : ME X b mb) : MB X (.Compare a [.Gt] [b] pos) (mTest (mOp oGt ma mb)) := mb_cmp op_gt (opl_I0 fun _ _ _ => .bl _) ha hb (nomark _)
theorem mb_eq {k : Nat} (rm : Room k X.A) (ha : ME X a ma) (hb : ME X b mb) : MB X (.Compare a [.Eq] [b] pos) (mTest (mOp (oEq false) ma mb)) := mb_cmp (opr_eq rm.units) opl_eq ha hb (nomark _)
theorem mb_ne {k : Nat} (rm : Room k X.A) (ha : ME X a ma) (hb : ME X b mb) : MB X (.Compare a [.NotEq] [b] pos) (mTest (mOp (oEq true) ma mb)) := mb_cmp (opr_ne rm.units) opl_ne ha hb (nomark _)
theorem me_append {mo : Me} {mr : Ma} {o x : Expr} {apos cpos : Pos} (ho : ME X o mo) (ha : MA X [x] mr) (hbase : attributeBase o "append" X.env (eval o X.env) = eval o X.env := by rfl)
    (hfew : ((backTo cpos (starEach [x] X.env)).all (fun x => !x.1) && (backToKw cpos (keywordEach [] X.env)).all (fun x => x.1.isSome) && decide (([x] : List Expr).length + ([] : List Keyword).length + (if ([] : List Keyword).isEmpty then 0 else 1) < 30)) = true := by rfl)
    (hline : (apos.endLine == cpos.line) = true := by rfl) (hs : starEach [x] X.env = (false, eval x X.env) :: starEach [] X.env := by rfl) : ME X (.Call (.Attribute o "append" apos) [x] [] cpos) (mMeth fApp mo mr) :=
  me_lm PySem.F.plainAttrs_list PySem.F.slot_list_append PySem.F.type_list_append mt_append mel_app ho ha hbase hfew hline hs rfl
end
section
variable {X : Cx} {e : Expr} {es : List Expr} {mr : Ma} {p pos : Pos}
theorem me_len (hg : Gl X "len") (hm : X.mg "len" = none) (ha : MA X (e :: es) mr) (he : starEach (e :: es) X.env = (false, eval e X.env) :: starEach es X.env := by rfl) (hpl : (backTo pos (starEach es X.env)).any (·.1) = false := by rfl) : ME X (.Call (.Name "len" p) (e :: es) [] pos) (mCall fLen mr) := me_callB cr_len cal_len hg hm (by decide +kernel) ha (by decide) (by decide) he hpl
theorem me_max (hc : X.calm = true) (hg : Gl X "max") (hm : X.mg "max" = none) (ha : MA X (e :: es) mr) (he : starEach (e :: es) X.env = (false, eval e X.env) :: starEach es X.env := by rfl) (hpl : (backTo pos (starEach es X.env)).any (·.1) = false := by rfl) : ME X (.Call (.Name "max" p) (e :: es) [] pos) (mCall fMax mr) := me_callB (crl_max hc) cal_max hg hm (by decide +kernel) ha (by decide) (by decide) he hpl
theorem me_min (hc : X.calm = true) (hg : Gl X "min") (hm : X.mg "min" = none) (ha : MA X (e :: es) mr) (he : starEach (e :: es) X.env = (false, eval e X.env) :: starEach es X.env := by rfl) (hpl : (backTo pos (starEach es X.env)).any (·.1) = false := by rfl) : ME X (.Call (.Name "min" p) (e :: es) [] pos) (mCall fMin mr) := me_callB (crl_min hc) cal_min hg hm (by decide +kernel) ha (by decide) (by decide) he hpl
theorem me_abs (hg : Gl X "abs") (hm : X.mg "abs" = none) (ha : MA X (e :: es) mr) (he : starEach (e :: es) X.env = (false, eval e X.env) :: starEach es X.env := by rfl) (hpl : (backTo pos (starEach es X.env)).any (·.1) = false := by rfl) : ME X (.Call (.Name "abs" p) (e :: es) [] pos) (mCall fAbs mr) := me_callB call_abs cal_abs hg hm (by decide +kernel) ha (by decide) (by decide) he hpl
theorem me_repr {k : Nat} (gd : Gd X.A) (rm : Room k X.A) (hg : Gl X "repr") (hm : X.mg "repr" = none) (ha : MA X (e :: es) mr) (he : starEach (e :: es) X.env = (false, eval e X.env) :: starEach es X.env := by rfl) (hpl : (backTo pos (starEach es X.env)).any (·.1) = false := by rfl) : ME X (.Call (.Name "repr" p) (e :: es) [] pos) (mCall fRepr mr) := me_callB (cr_repr gd rm) cal_repr hg hm (by decide +kernel) ha (by decide) (by decide) he hpl
theorem me_tuple (hg : Gl X "tuple") (hm : X.mg "tuple" = none) (ha : MA X (e :: es) mr) (he : starEach (e :: es) X.env = (false, eval e X.env) :: starEach es X.env := by rfl) (hpl : (backTo pos (starEach es X.env)).any (·.1) = false := by rfl) : ME X (.Call (.Name "tuple" p) (e :: es) [] pos) (mCall fTuple mr) := me_callTy call_tupleC cal_tuple hg hm (by decide +kernel) ha (by decide) (by decide) he hpl
theorem me_inti (hg : Gl X "int") (hm : X.mg "int" = none) (ha : MA X (e :: es) mr) (he : starEach (e :: es) X.env = (false, eval e X.env) :: starEach es X.env := by rfl) (hpl : (backTo pos (starEach es X.env)).any (·.1) = false := by rfl) : ME X (.Call (.Name "int" p) (e :: es) [] pos) (mCall fInt mr) := me_callTy call_int1 cal_int hg hm (by decide +kernel) ha (by decide) (by decide) he hpl
end
end L3
set_option Elab.async false
set_option linter.all false
set_option maxRecDepth 100000
namespace L3
open PySem PySem.Spec L2
theorem upd_id {H : Hp} {p : Addr} {o : HO} (h : H p = some o) : upd H p o = H := by
  funext b
  unfold upd
  by_cases z : b = p
  · rw [if_pos z, z, h]
  · rw [if_neg z]
theorem RpA.paired {K : PySem.W.Frag} {B : Bk} : ∀ {vs : List V} {ds : List PyData}, RpA K B.G vs ds → Paired (Rt K B) vs (ds.map T.d)
  | _, _, .nil => .nil
  | _, _, .cons p q => .cons p (RpA.paired q)
def mLcD (i : Mi) (g : Mg) (c : Mb) (m : Me) (vs : List Nat) : Me := fun τ M Q => i τ M fun ts M1 => goLc g c m (wipeT τ vs) (fun acc M2 => Q (.mr M2.D.length) { M2 with D := M2.D ++ [.lst (acc.map T.d)] }) ts [] M1
section
variable {m : Me}
theorem lc_ofD {K : PySem.W.Frag} {i : Mi} {g : Mg} {os : List Nat} {mc : Mb} {vs0 : List Nat} {σ : L2.St} {H : Hp} {Q' : VK} (sub : ∀ j ∈ os, j ∈ vs0) (h : rE K (mLcD i g mc m vs0) σ H Q') : tLc (rI K i) (rG K os g) (rB K mc) (rE K m) vs0 σ H Q' := by
  obtain ⟨τ, M, B, Q, h, w, sl, k⟩ := h
  refine lc_gen sub h w sl fun D acc vs M2 B2 H2 h2 hD w2 e2 d2 r2 g2 n2 l2 => ?_
  have w3 := w2.adoptR g2 n2 l2 (o := .lst vs) (c := .lst (acc.map T.d)) fun H' eH => ⟨vs, eH, RpA.paired r2⟩
  rw [upd_id d2] at w3
  refine k _ _ _ _ H2 h2 w3 ⟨e2.g, e2.r.trans (List.prefix_append _ _), e2.l, e2.fr, e2.tr, fun a z => ?_, e2.ln, e2.gf⟩ ⟨D, rfl, by rw [← w2.rlen]; exact get_snoc⟩
  rcases List.mem_append.mp z with y | y
  · exact e2.rn a y
  · rw [List.mem_singleton] at y
    rw [y]
    exact .inr hD
end
section
variable {X : Cx} {e tg : Expr} {m : Me} {pos : Pos} {elt : Expr} {ifs : List Expr} {scope : Scope} {own : List (Str × Nat)} {i : Mi} {g : Mg} {os : List Nat} {mc : Mb} {n : Nat} {y : Str} {py spos : Pos}
/-- swapsWith of a name = [..] on one line -/
theorem swT {gs : List Comprehension} {l : Nat} (hk : X.env.scope.kind = .function) (hy : X.env.scope.names.lookup y = some .local) (hl : (py.line == pos.line) = true)
    (ha : (scope.names.any fun (n, k) => n == y && (k == .local || k == .cell)) = false) : swapsWith (.ListComp elt gs scope pos) (some (.Name y py)) l X.env = pure true := sw_true hk hy hl ha
/-- a list display of the deck, of whatever stands in the deck -/
def mNewD (r : Ma) : Me := fun τ M Q => r τ M fun ts M1 => ((∀ t ∈ ts, noL t = true) ∧ ts.length ≤ sizeLine) ∧ Q (.mr M1.D.length) { M1 with D := M1.D ++ [.lst ts] }
theorem me_newD {es : List Expr} {mr : Ma} (h : MA X es mr) : ME X (.List es pos) (mNewD mr) := PE.of (pe_lst h) fun σ H Q' ⟨τ, M, B, Q, h, w, s, k⟩ => by
  refine ⟨τ, M, B, _, h, w, s, fun v t M1 B1 H1 h1 w1 e1 r1 => ?_⟩
  obtain ⟨⟨hno, hz⟩, q⟩ := h1
  refine ⟨by rw [paired_len r1]; exact hz, fun p hp => ?_⟩
  obtain ⟨w2, e2⟩ := w1.newD hp (o := .lst v) (c := .lst t) fun H' eH => ⟨v, eH, Paired.imp (fun _ _ q => Rt.mono' (B := { B1 with l := [] }) (B' := { B1 with r := B1.r ++ [p], l := [] }) (fun _ _ e => e) (List.prefix_append _ _) (List.prefix_refl _) q) (paired_deck r1 hno)⟩
  exact k _ _ _ _ _ q w2 (e1.trans e2) ⟨p, rfl, by rw [← w1.rlen]; exact get_snoc⟩
end
end L3
set_option Elab.async false
set_option linter.all false
set_option maxRecDepth 100000
namespace L3
open PySem PySem.Spec L2
section
variable {τ : En} {M : Mem} {Q : Kt} {E : Es} {x y : T} {f g : F2} {m r o : Me} {i j n : Nat} {D : List Cell} {L : List (Option (List PyData))}
@[simp] theorem x_var : mVar i τ M Q = ∃ t, τ[i]? = some (some t) ∧ Q t M := rfl
@[simp] theorem x_c {d : PyData} : mC d τ M Q = Q (.d d) M := rfl
@[simp] theorem x_op : mOp f m r τ M Q = m τ M fun x M1 => r τ M1 fun y M2 => f x y M2 Q := rfl
@[simp] theorem x_un {f : F1} : mUn f m τ M Q = m τ M fun x M1 => f x M1 Q := rfl
@[simp] theorem x_neg {i : Int} : oNeg (.d (.int i)) M Q = Q (.int (-i)) M := rfl
@[simp] theorem x_add {i j : Int} : oAdd (.d (.int i)) (.d (.int j)) M Q = Q (.int (i + j)) M := rfl
@[simp] theorem x_addl {a b : List PyData} : oAdd (.d (.list a)) (.d (.list b)) M Q = (a.length + b.length ≤ sizeLine ∧ Q (.lst (a ++ b)) M) := rfl
@[simp] theorem x_addt {a b : List PyData} : oAdd (.d (.tuple a)) (.d (.tuple b)) M Q = (a.length + b.length ≤ sizeLine ∧ Q (.tup (a ++ b)) M) := rfl
@[simp] theorem x_sub {i j : Int} : oSub (.d (.int i)) (.d (.int j)) M Q = Q (.int (i - j)) M := by simp [oSub, oI]
@[simp] theorem x_mul {i j : Int} : oMul (.d (.int i)) (.d (.int j)) M Q = (CMul i j ∧ Q (.int (i * j)) M) := rfl
@[simp] theorem x_div {i j : Int} : oDiv (.d (.int i)) (.d (.int j)) M Q = (CDv i j ∧ Q (.int (i / j)) M) := rfl
@[simp] theorem x_mod {i j : Int} : oMod (.d (.int i)) (.d (.int j)) M Q = (0 < j ∧ Q (.int (i % j)) M) := rfl
@[simp] theorem x_pow {i j : Int} : oPow (.d (.int i)) (.d (.int j)) M Q = (CPow i j ∧ Q (.int (i ^ j.toNat)) M) := rfl
@[simp] theorem x_shl {i j : Int} : oShl (.d (.int i)) (.d (.int j)) M Q = (CPow i j ∧ Q (.int (i * 2 ^ j.toNat)) M) := rfl
@[simp] theorem x_and {i j : Int} : oAnd (.d (.int i)) (.d (.int j)) M Q = Q (.int (Builtin.bitAnd i j)) M := by simp [oAnd, oI]
@[simp] theorem x_lt {i j : Int} : oLt (.d (.int i)) (.d (.int j)) M Q = Q (.bl (decide (i < j))) M := by simp [oLt, oI]
@[simp] theorem x_le {i j : Int} : oLe (.d (.int i)) (.d (.int j)) M Q = Q (.bl (decide (i ≤ j))) M := by simp [oLe, oI]
@[simp] theorem x_gt {i j : Int} : oGt (.d (.int i)) (.d (.int j)) M Q = Q (.bl (decide (j < i))) M := by simp [oGt, oI]
@[simp] theorem x_ge {i j : Int} : oGe (.d (.int i)) (.d (.int j)) M Q = Q (.bl (decide (j ≤ i))) M := by simp [oGe, oI]
@[simp] theorem x_now {d : PyData} : now (.d d) M = some d := rfl
theorem x_eq {a b : PyData} {n : Bool} (h1 : now x M = some a) (h2 : now y M = some b) (s1 : SeqAt.shaped a = true) (s2 : SeqAt.shaped b = true) (no : ∀ z, a ≠ .str z) : oEq n x y M Q = Q (.bl (if n then !PyData.eqv a b else PyData.eqv a b)) M := by
  unfold oEq
  split
  · cases h1
    exact absurd rfl (no _)
  · rw [h1, h2]
    simp [s1, s2]
@[simp] theorem x_eqi {i j : Int} {n : Bool} : oEq n (.d (.int i)) (.d (.int j)) M Q = Q (.bl (if n then !decide (i = j) else decide (i = j))) M := by
  rw [x_eq (a := .int i) (b := .int j) rfl rfl rfl rfl fun _ z => nomatch z]
  rfl
@[simp] theorem x_eqs {a b : Str} {n : Bool} : oEq n (.d (.str a)) (.d (.str b)) M Q = Q (.bl (if n then !decide (a = b) else decide (a = b))) M := rfl
@[simp] theorem x_test : mTest m τ M Q' = m τ M fun x M1 => ∃ k, x = .d (.bool k) ∧ Q' k M1 := rfl
@[simp] theorem x_band {t u : Mb} {R : Bool → Mem → Prop} : bAnd t u τ M R = t τ M fun b M1 => if b = true then u τ M1 R else R false M1 := rfl
@[simp] theorem x_bor {t u : Mb} {R : Bool → Mem → Prop} : bOr t u τ M R = t τ M fun b M1 => if b = true then R true M1 else u τ M1 R := rfl
@[simp] theorem x_bnot {t : Mb} {R : Bool → Mem → Prop} : bNot t τ M R = t τ M fun b M1 => R (!b) M1 := rfl
@[simp] theorem x_byes {R : Bool → Mem → Prop} : bYes τ M R = R true M := rfl
@[simp] theorem x_ite {c : Mb} : mIte c m r τ M Q = c τ M fun b M1 => if b = true then m τ M1 Q else r τ M1 Q := rfl
@[simp] theorem x_chain {a b c : Me} : mChain f g a b c τ M Q = a τ M fun a M1 => b τ M1 fun b M2 => f a b M2 fun t M3 => match t with
  | .d (.bool true) => c τ M3 fun c M4 => g b c M4 Q
  | .d (.bool false) => Q (.bl false) M3
  | _ => False := rfl
@[simp] theorem x_mand : mAnd m r τ M Q = m τ M fun t M1 => match t with
  | .d (.bool true) => r τ M1 Q
  | .d (.bool false) => Q (.bl false) M1
  | _ => False := rfl
@[simp] theorem x_mor : mOr m r τ M Q = m τ M fun t M1 => match t with
  | .d (.bool true) => Q (.bl true) M1
  | .d (.bool false) => r τ M1 Q
  | _ => False := rfl
@[simp] theorem x_mnot : mNot m τ M Q = m τ M fun t M1 => match t with
  | .d (.bool b) => Q (.bl (!b)) M1
  | _ => False := rfl
variable {R : List T → Mem → Prop} {a : Ma}
@[simp] theorem x_anil : aNil τ M R = R [] M := rfl
@[simp] theorem x_acons : aCons m a τ M R = m τ M fun x M1 => a τ M1 fun xs M2 => R (x :: xs) M2 := rfl
@[simp] theorem x_dat0 : datas [] = some [] := rfl
@[simp] theorem x_dat1 {d : PyData} {l : List T} : datas (.d d :: l) = (datas l).map (d :: ·) := rfl
@[simp] theorem x_tup : mTup a τ M Q = a τ M fun ts M1 => match datas ts with
  | some ds => ds.length ≤ sizeLine ∧ Q (.tup ds) M1
  | none => False := rfl
@[simp] theorem x_lst : mLst a τ M Q = a τ M fun ts M1 => match datas ts with
  | some ds => ds.length ≤ sizeLine ∧ Q (.lst ds) M1
  | none => False := rfl
@[simp] theorem x_newL : mNewL a τ M Q = a τ M fun ts M1 => match datas ts with
  | some ds => ds.length ≤ sizeLine ∧ Q (.lr M1.L.length) { M1 with L := M1.L ++ [some ds] }
  | none => False := rfl
@[simp] theorem x_frz : mFrz m τ M Q = m τ M fun t M1 => match t with
  | .lr i => (match M1.L[i]? with
    | some (some ds) => Q (.lst ds) { M1 with L := M1.L.set i none }
    | _ => False)
  | t => Q t M1 := rfl
@[simp] theorem x_ixl {l : List PyData} {k : Int} : oIx (.d (.list l)) (.d (.int k)) M Q = ∃ t, atI l k = some t ∧ Q (.d t) M := rfl
@[simp] theorem x_ixt {l : List PyData} {k : Int} : oIx (.d (.tuple l)) (.d (.int k)) M Q = ∃ t, atI l k = some t ∧ Q (.d t) M := rfl
@[simp] theorem x_ixL {k : Int} : oIx (.lr i) (.d (.int k)) M Q = (match M.L[i]? with
    | some (some xs) => ∃ t, atI xs k = some t ∧ Q (.d t) M
    | _ => False) := rfl
@[simp] theorem x_ixD {k : Int} : oIx (.mr i) (.d (.int k)) M Q = (match M.D[i]? with
    | some (.lst ts) => ∃ t, atI ts k = some t ∧ Q t M
    | _ => False) := rfl
@[simp] theorem x_dget {s : Str} : oDGet (.mr i) (.d (.str s)) M Q = (match M.D[i]? with
    | some (.dct kvs) => ∃ t, lookT kvs (.inr s) = some t ∧ Q t M
    | _ => False) := rfl
@[simp] theorem x_sl {lo hi : Mo} : mSl m lo hi τ M Q = m τ M fun x M1 => lo τ M1 fun l M2 => hi τ M2 fun u M3 => oSl x l u M3 Q := rfl
@[simp] theorem x_onone {P : Option Int → Mem → Prop} : oNone τ M P = P none M := rfl
@[simp] theorem x_opart {P : Option Int → Mem → Prop} : oPart m τ M P = m τ M fun t M1 => match t with
  | .d (.int i) => P (some i) M1
  | _ => False := rfl
@[simp] theorem x_slscr {ns : List Int} {lo hi : Option Int} : oSl (.scr ns) lo hi M Q = Q (.lst ((cutT ns lo hi).map .int)) M := rfl
@[simp] theorem x_sltup {ns : List PyData} {lo hi : Option Int} : oSl (.d (.tuple ns)) lo hi M Q = Q (.tup (cutT ns lo hi)) M := rfl
@[simp] theorem x_sllst {ns : List PyData} {lo hi : Option Int} : oSl (.d (.list ns)) lo hi M Q = Q (.lst (cutT ns lo hi)) M := rfl
@[simp] theorem x_call {f : FA} : mCall f a τ M Q = a τ M fun ts M1 => f ts M1 Q := rfl
@[simp] theorem x_callk {g : {α : Type} → List α → List α} {f : FA} : mCallK g n f a τ M Q = a τ M fun ts M1 => ts.length = n ∧ f (g ts) M1 Q := rfl
@[simp] theorem x_def {d : FD} {ts : List T} : fDef d ts M Q = ((∀ t ∈ ts, noL t = true) ∧ d ts M.D fun t D' => Q t { M with D := D' }) := rfl
@[simp] theorem x_noL1 {d : PyData} : noL (.d d) = true := rfl
@[simp] theorem x_noL2 : noL (.mr i) = true := rfl
@[simp] theorem x_noL3 {ns : List Int} : noL (.scr ns) = true := rfl
@[simp] theorem x_int {k : Int} : fInt [.d (.int k)] M Q = Q (.int k) M := rfl
@[simp] theorem x_intb {k : Bool} : fInt [.d (.bool k)] M Q = Q (.int (if k then 1 else 0)) M := rfl
@[simp] theorem x_abs {k : Int} : fAbs [.d (.int k)] M Q = Q (.int (if k < 0 then -k else k)) M := rfl
@[simp] theorem x_max2 {k l : Int} : fMax [.d (.int k), .d (.int l)] M Q = Q (.int (if l > k then l else k)) M := rfl
@[simp] theorem x_min2 {k l : Int} : fMin [.d (.int k), .d (.int l)] M Q = Q (.int (if l < k then l else k)) M := rfl
@[simp] theorem x_lenl {l : List PyData} : fLen [.d (.list l)] M Q = Q (.int l.length) M := rfl
@[simp] theorem x_lent {l : List PyData} : fLen [.d (.tuple l)] M Q = Q (.int l.length) M := rfl
@[simp] theorem x_lens {ns : List Int} : fLen [.scr ns] M Q = Q (.int ns.length) M := by
  show Q (.int ((ns.map PyData.int).length : Nat)) M = _
  rw [List.length_map]
@[simp] theorem x_tupl {l : List PyData} : fTuple [.d (.list l)] M Q = Q (.tup l) M := rfl
@[simp] theorem x_tupt {l : List PyData} : fTuple [.d (.tuple l)] M Q = Q (.tup l) M := rfl
@[simp] theorem x_tupL : fTuple [.lr i] { D := D, L := L } Q = (match L[i]? with
    | some (some xs) => Q (.tup xs) { D := D, L := L }
    | _ => False) := by
  unfold fTuple now
  cases h : L[i]? with
  | none => simp [h]
  | some o => cases o <;> simp [h]
@[simp] theorem x_repr {d : PyData} : fRepr [.d d] M Q = (OkShow d ∧ Q (.str d.shown) M) := rfl
@[simp] theorem x_meth {f : T → FA} : mMeth f m a τ M Q = m τ M fun x M1 => isL x M1 ∧ a τ M1 fun ts M2 => f x ts M2 Q := rfl
@[simp] theorem x_meth0 {f : T → FA} : mMeth0 f m τ M Q = m τ M fun x M1 => isL x M1 ∧ f x [] M1 Q := rfl
@[simp] theorem x_isL : isL (.lr i) M = ∃ ds, M.L[i]? = some (some ds) := rfl
@[simp] theorem x_isD : isL (.mr i) M = ∃ ts, M.D[i]? = some (.lst ts) := rfl
@[simp] theorem x_appL {z : PyData} : fApp (.lr i) [.d z] M Q = (match M.L[i]? with
    | some (some ds) => ds.length < sizeLine ∧ Q .non { M with L := M.L.set i (some (ds ++ [z])) }
    | _ => False) := rfl
@[simp] theorem x_appD {t : T} : fApp (.mr i) [t] M Q = (match M.D[i]? with
    | some (.lst us) => noL t = true ∧ us.length < sizeLine ∧ Q .non { M with D := M.D.set i (.lst (us ++ [t])) }
    | _ => False) := rfl
@[simp] theorem x_popD : fPop (.mr i) [] M Q = (match M.D[i]? with
    | some (.lst us) => ∃ t, us[us.length - 1]? = some t ∧ Q t { M with D := M.D.set i (.lst us.dropLast) }
    | _ => False) := rfl
@[simp] theorem x_popL : fPop (.lr i) [] M Q = (match M.L[i]? with
    | some (some ds) => ∃ z, ds[ds.length - 1]? = some z ∧ Q (.d z) { M with L := M.L.set i (some ds.dropLast) }
    | _ => False) := rfl
variable {s t : Ms}
@[simp] theorem x_next : mNext E τ M = E.nx τ M := rfl
@[simp] theorem x_drop : mDrop m E τ M = m τ M fun _ M1 => E.nx τ M1 := rfl
@[simp] theorem x_ret : mRet m E τ M = m τ M E.rt := rfl
@[simp] theorem x_if {c : Mb} : mIf c s t E τ M = c τ M fun b M1 => if b = true then s E τ M1 else t E τ M1 := rfl
@[simp] theorem x_set : mSet i m E τ M = m τ M fun t M1 => E.nx (τ.set i (some t)) M1 := rfl
@[simp] theorem x_asg {g : Mg} : mAsg m g E τ M = m τ M fun t M1 => g t τ M1 E.nx := rfl
@[simp] theorem x_par : mPar i j a E τ M = a τ M fun ts M1 => match ts with
  | [t, u] => E.nx ((τ.set i (some t)).set j (some u)) M1
  | _ => False := rfl
@[simp] theorem x_dput {d k v : Me} : mDPut d k v E τ M = v τ M fun t M1 => d τ M1 fun x M2 => k τ M2 fun y M3 => match x, keyOf y with
  | .mr i, some kk => (match M3.D[i]? with
    | some (.dct kvs) => noL t = true ∧ kvs.length < sizeLine ∧ E.nx τ { M3 with D := M3.D.set i (.dct (putT kvs kk t)) }
    | _ => False)
  | _, _ => False := rfl
@[simp] theorem x_lput {d k v : Me} : mLPut d k v E τ M = v τ M fun t M1 => d τ M1 fun x M2 => k τ M2 fun y M3 => match x, y, t with
  | .lr i, .d (.int j), .d z => (match M3.L[i]? with
    | some (some ds) => ∃ n, ixN ds.length j = some n ∧ E.nx τ { M3 with L := M3.L.set i (some (ds.set n z)) }
    | _ => False)
  | _, _, _ => False := rfl
@[simp] theorem x_key {s : Str} : keyOf (.d (.str s)) = some (.inr s) := rfl
variable {P : En → Mem → Prop} {mi : Mi} {mg : Mg}
@[simp] theorem x_gn {t : T} : gN i t τ M P = P (τ.set i (some t)) M := rfl
@[simp] theorem x_gtu {r : Mgs} {xs : List PyData} : gTu n r (.d (.tuple xs)) τ M P = (xs.length = n ∧ r xs τ M P) := rfl
@[simp] theorem x_gtw {r : Mgs} {xs : List PyData} : gTu n r (.wt xs) τ M P = (xs.length = n ∧ r xs τ M P) := rfl
@[simp] theorem x_gsn {xs : List PyData} : gsNil xs τ M P = (xs = [] ∧ P τ M) := rfl
@[simp] theorem x_gsc {r : Mgs} {d : PyData} {xs : List PyData} : gsCons mg r (d :: xs) τ M P = mg (.d d) τ M fun τ1 M1 => r xs τ1 M1 P := rfl
@[simp] theorem x_iseq {R : List T → Mem → Prop} : iSeq m τ M R = m τ M fun t M1 => match t with
  | .d (.list xs) => R (xs.map T.d) M1
  | .d (.tuple xs) => R (xs.map T.d) M1
  | .scr ns => R (ns.map T.int) M1
  | _ => False := rfl
@[simp] theorem x_irange {R : List T → Mem → Prop} : iRange a τ M R = a τ M fun ts M1 => match ts with
  | [.d (.int j)] => (-(2 ^ 62) ≤ j ∧ j < 2 ^ 62) ∧ R (rangeT j.toNat) M1
  | _ => False := rfl
theorem w_seq (h : s { E with nx := t E } τ M) : mSeq s t E τ M := h
theorem w_for (h : mi τ M fun ts M1 => goFor mg s E ts τ M1) : mFor mi mg s E τ M := h
theorem w_if {c : Mb} (h : c τ M fun b M1 => if b = true then s E τ M1 else t E τ M1) : mIf c s t E τ M := h
theorem x_forn : goFor mg s E [] τ M = E.nx τ M := rfl
theorem x_forc {t : T} {ts : List T} : goFor mg s E (t :: ts) τ M = mg t τ M fun τ1 M1 => s { E with nx := goFor mg s E ts, ct := goFor mg s E ts, bk := E.nx } τ1 M1 := rfl
theorem x_lc {c : Mb} {vs : List Nat} : mLc mi mg c m vs τ M Q = mi τ M fun ts M1 => goLc mg c m (wipeT τ vs) (fun acc M2 => Q (.lst acc) M2) ts [] M1 := rfl
theorem x_lcc {c : Mb} {τ0 : En} {acc : List PyData} {R : List PyData → Mem → Prop} {t : T} {ts : List T} : goLc mg c m τ0 R (t :: ts) acc M = mg t τ0 M fun τ1 M1 => c τ1 M1 fun k M2 => if k = true then m τ1 M2 fun y M3 => (match y with
      | .d z => acc.length < sizeLine ∧ goLc mg c m τ0 R ts (acc ++ [z]) M3
      | _ => False) else goLc mg c m τ0 R ts acc M2 := by
  rw [goLc] <;> rfl
end
end L3
set_option Elab.async false
set_option linter.all false
set_option maxRecDepth 100000
namespace L3
open PySem PySem.Spec L2
def isNonT : T → Bool
  | .d .none => true
  | _ => false
def oIsN : F2 := fun x y M Q => y = .d .none ∧ Q (.bl (isNonT x)) M
def oNotN : F2 := fun x y M Q => y = .d .none ∧ Q (.bl (!isNonT x)) M
theorem isNonT_rt {K : PySem.W.Frag} {B : Bk} {v : V} {t : T} (h : Rt K B v t) : decide (v = .non) = isNonT t := by
  cases t with
  | d x => cases (show Rp K B.G v x from h) <;> rfl
  | mr i =>
    obtain ⟨a, rfl, _⟩ := h
    rfl
  | lr i =>
    obtain ⟨a, rfl, _⟩ := h
    rfl
  | scr ns =>
    obtain ⟨a, rfl, _⟩ := h
    rfl
  | wt xs =>
    obtain ⟨a, vs, rfl, _⟩ := h
    rfl
  | exo a c d e =>
    obtain ⟨rfl, _⟩ := h
    rfl
theorem opl_isN {K : PySem.W.Frag} : OpL K (fun x y H Q => y = .non ∧ Q (.bl (decide (x = .non))) H) oIsN := by
  rintro x y t u M B H Q Q' ⟨rfl, h⟩ w rx ry k
  cases (show Rp K B.G y .none from ry)
  refine ⟨rfl, ?_⟩
  rw [isNonT_rt rx]
  exact k _ _ M B H h w (.refl _ _) (.bl _)
section
variable {X : Cx} {a b : Expr} {ma mb : Me} {pos : Pos}
theorem me_isN (ha : ME X a ma) (hb : ME X b mb) : ME X (.Compare a [.Is] [b] pos) (mOp oIsN ma mb) := me_cmp op_isN opl_isN ha hb (nomark _)
end
@[simp] theorem x_isN {x : T} {M : Mem} {Q : Kt} : oIsN x (.d .none) M Q = Q (.bl (isNonT x)) M := by simp [oIsN]
@[simp] theorem x_notN {x : T} {M : Mem} {Q : Kt} : oNotN x (.d .none) M Q = Q (.bl (!isNonT x)) M := by simp [oNotN]
@[simp] theorem isNonT_n : isNonT (.d .none) = true := rfl
@[simp] theorem isNonT_i {i : Int} : isNonT (.d (.int i)) = false := rfl
@[simp] theorem isNonT_t {l : List PyData} : isNonT (.d (.tuple l)) = false := rfl
@[simp] theorem isNonT_l {l : List PyData} : isNonT (.d (.list l)) = false := rfl
end L3
set_option Elab.async false
set_option linter.all false
set_option maxRecDepth 100000
namespace L3
open PySem PySem.Spec L2
theorem begin_enum1 {v : Value} {o : Obj} {Hh : Heap → Prop} (B : Begins v o Hh) :
    Meets (Builtin.«enumerate.__new__» ⟨[.type "enumerate", v], []⟩) (fun _ R s => Hh s.heap ∧
      R (.ok (.ret (.ref (s.heap.push o).objs.size))) { s with heap := (s.heap.push o).push { cls := .type "enumerate", data := .fields #[.none, .bool false, .ref s.heap.objs.size, rawInt 0, .none, .none] } }) :=
  .of_wp fun prog w A R s hh => by
    obtain ⟨hp, gg, dd, tk, os⟩ := s
    obtain ⟨h1, hr⟩ := hh
    have hsub := sub_enumerate
    have it1 : ∀ {A' : Around} {E : Value → Shared → Prop} {Q : Value → Shared → Prop}, Q (.ref hp.objs.size) ⟨hp.push o, gg, dd, tk, os⟩ → wpAny (model prog w) A' (pyIter v) Q E ⟨hp, gg, dd, tk, os⟩ :=
      fun q => B.iter prog w _ _ ⟨hp, gg, dd, tk, os⟩ _ h1 q
    wp_walk using it1
    refine wpAny_stack_any fun st => wpAny_pure ?_
    split
    · rename_i c _ _ _ _ _
      cases (c == Value.type "enumerate")
      · wp_walk using it1
        exact ⟨_, rfl, hr⟩
      · wp_walk using it1
        exact ⟨_, rfl, hr⟩
    · wp_walk using it1
      exact ⟨_, rfl, hr⟩
inductive Src where
  | l | t
def srcS (K : PySem.W.Frag) (k : Src) (H : Hp) (a : Addr) (xs : List V) : Prop := match k with
  | .l => SqL K H a xs
  | .t => SqT K H a xs
def itS (k : Src) (h : Heap) (it a : Addr) (i : Nat) : Prop := match k with
  | .l => h.IsListIter it a i
  | .t => h.IsTupleIter it a i
def atS (k : Src) (h : Heap) (a : Addr) (items : Array Value) : Prop := match k with
  | .l => h.IsList a items
  | .t => h.IsTuple a items
def obS (k : Src) (a : Addr) : Obj := match k with
  | .l => { cls := .type "list_iterator", data := .fields #[.ref a, .int 0 0] }
  | .t => { cls := .type "tuple_iterator", data := .fields #[.ref a, .int 0 0] }
theorem drawS {prog : Program} {w : World} {A : Around} (k : Src) (hh : A.handled = none) (it a : Addr) (hne : a ≠ it) (items : Array Value) :
    Draws prog w A it [it, a] items.size (fun i v => items[i]? = some v) (fun i h => itS k h it a i ∧ atS k h a items) := by
  cases k with
  | l => exact Draws.list hh it a hne items
  | t => exact Draws.tuple hh it a hne items
theorem beginS (k : Src) (a : Addr) (items : Array Value) : Begins (.ref a) (obS k a) fun h => atS k h a items := by
  cases k with
  | l => exact begins_list a items
  | t => exact begins_tuple a items
theorem itS_ob (k : Src) {h : Heap} {it a : Addr} (e : h.get? it = some (obS k a)) : itS k h it a 0 := by
  cases k with
  | l => exact ⟨_, e, rfl, rfl⟩
  | t => exact ⟨_, e, rfl, rfl⟩
theorem itS_obj {k : Src} {h : Heap} {it a : Addr} {i : Nat} (e : itS k h it a i) : ∃ o, h.get? it = some o ∧ ∀ v, o.data ≠ .cell v := by
  cases k with
  | l =>
    obtain ⟨o, h1, _, h2⟩ := e
    exact ⟨o, h1, fun v q => by rw [h2] at q; cases q⟩
  | t =>
    obtain ⟨o, h1, _, h2⟩ := e
    exact ⟨o, h1, fun v q => by rw [h2] at q; cases q⟩
theorem itS_at {k : Src} {h h' : Heap} {it a : Addr} {i : Nat} (e : itS k h it a i) (f : ∀ o, h.get? it = some o → h'.get? it = some o) : itS k h' it a i := by
  cases k with
  | l => exact Heap.IsListIter.at e f
  | t => exact Heap.IsTupleIter.at e f
section
variable {X : Cx} {pn : List (Addr × Obj)} {sg : L2.St} {hp : Hp} {sh : Shared}
theorem invS (iv : Inv X pn sg hp sh) {k : Src} {a : Addr} {xs : List V} (h : srcS X.K k hp a xs) : ∃ its : List Value, Vals xs its ∧ atS k sh.heap a its.toArray := by
  cases k with
  | l =>
    obtain ⟨its, rv, pl, _⟩ := iv.list h
    exact ⟨its, rv, pl.isList⟩
  | t =>
    obtain ⟨its, rv, pl, _⟩ := iv.tuple h
    exact ⟨its, rv, pl⟩
end
/-- an iterator of new tuples: at turn i the tuple ys i, while S holds of the heap -/
def ItN (n : Nat) (S : Hp → Prop) (ys : Nat → List V) : It :=
  ⟨fun i H => i < n ∧ S H, fun i H x H' => ∃ p, x = .ref p ∧ H p = none ∧ H' = upd H p (.tup (ys i)), fun i H => i = n ∧ S H⟩
/-- what walks as GoesN does, once the sources are read -/
theorem turn_goes {P : Program} {w : World} {K : PySem.W.Frag} {elts : List Expr} {kk : Nat} {tpos : Pos} {I : Addr} {fp fpA wr : List Addr} {n : Nat} {S : Hp → Prop} {ys : Nat → List V} {tn : Nat → Heap → Prop}
    (mem : I ∈ fp) (obj : ∀ i h, tn i h → ∀ b ∈ fp, ∃ o, h.get? b = some o ∧ ∀ v, o.data ≠ .cell v) (keep : ∀ i h h', tn i h → (∀ b ∈ fp, ∀ o, h.get? b = some o → h'.get? b = some o) → tn i h')
    (wrs : ∀ b ∈ wr, b ∈ fp) (len : ∀ i, (ys i).length ≤ sizeLine)
    (goes : ∀ (X : Cx), X.prog = P → X.w = w → X.K = K → X.calm = true → ∀ (pn : List (Addr × Obj)) (sh : Shared) (sg : L2.St) (hp : Hp), Inv X pn sg hp sh → S hp →
      ∃ (St : Nat → Heap → Prop) (Y : Nat → Heap → Value → Heap → Prop), GoesN P w X.A (.Tuple elts kk tpos) I fpA wr n Y St ∧ (∀ i, tn i sh.heap → St i sh.heap) ∧ (∀ i h, St i h → tn i h) ∧
        ∀ i v h, i < n → Y i sh.heap v h → ∃ T us, v = .ref T ∧ sh.heap.objs.size ≤ T ∧ Vals (ys i) us ∧ h.IsTuple T us.toArray)
    (self : ∀ (A : Around) (i : Nat) (s : Shared) (Q : Value → Shared → Prop) (E : Value → Shared → Prop), tn i s.heap → Q (.ref I) s → wpAny (model P w) A (pyIter (.ref I)) Q E s) :
    Turn P w K (.Tuple elts kk tpos) (ItN n S ys) fp I tn where
  mem := mem
  obj := obj
  keep := keep
  self := self
  item := by
    intro X e1 e2 e3 hc i pn sh sg hp E iv hf st go
    obtain ⟨hi, hS⟩ := go
    obtain ⟨St, Y, W, s1, s2, hY⟩ := goes X e1 e2 e3 hc pn sh sg hp iv hS
    have alive := obj i _ st
    subst e1 e2
    refine wpAny_mono (W.goes i sh (fun v s2 => ∃ x H', Inv X pn sg H' s2 ∧ RelV x v ∧ (ItN n S ys).yld i hp x H' ∧ tn (i + 1) s2.heap ∧ ∀ b ∈ fp, H' b = none) E hi (s1 i st) fun v h' tk y st' kk' _ => ?_) (fun r s1 h => h) fun _ _ h => h
    obtain ⟨T, us, rfl, hT, rv, ht⟩ := hY i v h' hi y
    have new : ObjOk X.prog X.w (upd hp T (.tup (ys i))) h' T (.tup (ys i)) := ⟨len i, us, rv, ht⟩
    have iv2 := iv.turnedNew (t' := tk) (ch := wr) kk' (fun b hb => hf b (wrs b hb)) hT new
    refine ⟨.ref T, _, iv2, rfl, ⟨T, rfl, iv.hok.fresh hT, rfl⟩, s2 _ _ st', fun b hb => ?_⟩
    obtain ⟨o, ho, _⟩ := alive b hb
    rw [upd_ne (Nat.ne_of_lt (Nat.lt_of_lt_of_le (Heap.lt_size ho) hT))]
    exact (hf b hb).1
  done := by
    intro X e1 e2 e3 hc i pn sh sg hp E iv hf st stop
    obtain ⟨rfl, hS⟩ := stop
    obtain ⟨St, Y, W, s1, s2, hY⟩ := goes X e1 e2 e3 hc pn sh sg hp iv hS
    subst e1 e2
    exact W.stops sh _ E (s1 _ st) fun h' tk kk htk => iv.turnedL (t' := tk) (ch := wr) kk (fun b hb => hf b (wrs b hb))
theorem vals_at {xs : List V} {us : List Value} (r : Vals xs us) {i : Nat} {v : Value} (e : us[i]? = some v) : RelV (xs.getD i .non) v := by
  induction r generalizing i with
  | nil => cases e
  | cons r rr ih =>
    cases i with
    | zero =>
      cases e
      exact r
    | succ j => exact ih e
section
variable {X : Cx} {pn : List (Addr × Obj)} {sg : L2.St} {hp : Hp} {sh : Shared} {elts : List Expr} {kk : Nat} {tpos : Pos}
theorem itS_keep {k : Src} {h h' : Heap} {it a : Addr} {i : Nat} {fp : List Addr} (m : it ∈ fp) (e : itS k h it a i) (f : ∀ b ∈ fp, ∀ o, h.get? b = some o → h'.get? b = some o) : itS k h' it a i := itS_at e fun o q => f it m o q
theorem turn_enumS (P : Program) (w : World) (K : PySem.W.Frag) (k : Src) (a e it : Addr) (ne : e ≠ it) (xs : List V) :
    Turn P w K (.Tuple elts kk tpos) (ItN xs.length (fun H => srcS K k H a xs ∧ a ≠ e ∧ a ≠ it) fun i => [.int (i : Int), xs.getD i .non]) [e, it] e fun i h => (∃ old, IsEnum h e it (0 + (i : Int)) old) ∧ itS k h it a i := by
  refine turn_goes (fpA := e :: [it, a]) (wr := [e, it]) (by simp) ?_ ?_ (fun b hb => hb) (fun i => ?_) ?_ ?_
  · rintro i h ⟨⟨old, h1⟩, h2⟩ b hb
    rcases List.mem_cons.mp hb with rfl | hb
    · exact ⟨_, h1, fun v z => by cases z⟩
    · rw [List.mem_singleton.mp hb]
      exact itS_obj h2
  · rintro i h h' ⟨⟨old, h1⟩, h2⟩ f
    exact ⟨⟨old, f e (by simp) _ h1⟩, itS_keep (by simp) h2 f⟩
  · show (2 : Nat) ≤ sizeLine
    rw [sizeLine_eq]; omega
  · intro X e1 e2 e3 hc pn sh sg hp iv ⟨hS, n1, n2⟩
    subst e1 e2 e3
    obtain ⟨its, rv, at1⟩ := invS iv hS
    have hl : its.toArray.size = xs.length := by rw [List.size_toArray]; exact rv.length.symm
    have D := drawS (prog := X.prog) (w := X.w) (A := X.A.in1) k (iv.ok.hd hc) it a n2 its.toArray
    have G := GoesN.enumFrom (elts := elts) (x1 := kk) (pos := tpos) 0 D e ne (by simp [ne, n1.symm]) (by simp)
    rw [hl] at G
    refine ⟨_, _, G, fun i t => ⟨t.1, t.2, at1⟩, fun i h t => ⟨t.1, t.2.1⟩, fun i v h hi y => ?_⟩
    obtain ⟨T, t, x, rfl, hT, hx, ht⟩ := y
    refine ⟨T, [.int (0 + (i : Int)) t, x], rfl, hT, ?_, ht⟩
    have hx' : its[i]? = some x := by rw [← List.getElem?_toArray]; exact hx
    rw [Int.zero_add]
    exact .cons ⟨_, rfl⟩ (.cons (vals_at rv hx') .nil)
  · rintro A i s Q E ⟨⟨old, h1⟩, h2⟩ q
    exact wpAny_pyIter_enum h1 q
theorem enum_begins1 {prog : Program} {w : World} {A : Around} {E : Value → Shared → Prop} {s : Shared} {v : Value} {o : Obj} {H : Heap → Prop} {Q : Value → Shared → Prop} (B : Begins v o H) (h1 : H s.heap)
    (h : ∀ h', IsEnum h' (s.heap.objs.size + 1) s.heap.objs.size 0 .none → h'.get? s.heap.objs.size = some o → h'.objs.size = s.heap.objs.size + 2 →
      (∀ b o, s.heap.get? b = some o → h'.get? b = some o) → Q (.ref (s.heap.objs.size + 1)) { s with heap := h' }) :
    wpAny (model prog w) A (call (.type "enumerate") [v]) Q E s := by
  refine callType_new F.called_enumerate (by decide) (F.typeCall_enumerate_1 _) (F.newCall_enumerate_1 _) (fun obj => F.args_object_init_2 obj _) F.entry_enumerate_new
    (begin_enum1 B) ⟨h1, ?_⟩
  have hz : (s.heap.push o).objs.size = s.heap.objs.size + 1 := Heap.size_push ..
  show _ ∧ _
  rw [hz]
  have he : IsEnum ((s.heap.push o).push { cls := .type "enumerate", data := .fields #[.none, .bool false, .ref s.heap.objs.size, rawInt 0, .none, .none] }) (s.heap.objs.size + 1) s.heap.objs.size 0 .none := by
    have := Heap.get?_push_size (s.heap.push o) (o := { cls := .type "enumerate", data := .fields #[.none, .bool false, .ref s.heap.objs.size, rawInt 0, .none, .none] }) rfl
    rw [hz] at this; exact this
  exact ⟨⟨_, he, rfl⟩, h _ he (Heap.get?_push_of_some _ (Heap.get?_push_size _ B.free)) (by rw [Heap.size_push, hz]) fun b o x => Heap.get?_push_of_some _ (Heap.get?_push_of_some _ x)⟩
theorem srcS_none {K : PySem.W.Frag} {k : Src} {H : Hp} {a : Addr} {xs : List V} (h : srcS K k H a xs) (iv : Inv X pn sg H sh) (e : X.K = K) : a < sh.heap.objs.size := by
  subst e
  obtain ⟨its, _, at1⟩ := invS iv h
  cases k with
  | l =>
    obtain ⟨o, h1, _⟩ := at1
    exact Heap.lt_size h1
  | t =>
    obtain ⟨o, h1, _⟩ := at1
    exact Heap.lt_size h1
theorem pie_enumS {k : Src} {a : Addr} {xs : List V} {R : It → Hp → Prop} (iv : Inv X pn sg hp sh) (hq : srcS X.K k hp a xs)
    (hR : ∀ e it, e ≠ a → it ≠ a → R (ItN xs.length (fun H => srcS X.K k H a xs ∧ a ≠ e ∧ a ≠ it) fun i => [.int (i : Int), xs.getD i .non]) hp) :
    wpAny (model X.prog X.w) X.A (call (.type "enumerate") [.ref a]) (fun v s1 => wpAny (model X.prog X.w) X.A (pyIter v) (PIE X pn sg (.Tuple elts kk tpos) R) X.xe s1) X.xe sh := by
  obtain ⟨its, rv, at1⟩ := invS iv hq
  have la := srcS_none hq iv rfl
  refine enum_begins1 (beginS k a its.toArray) at1 fun h' he hit hsz hk => wpAny_pyIter_enum he ?_
  have I2 : Inv X pn sg hp { sh with heap := h' } := iv.kept (t' := sh.toks) hk
  refine ⟨sh.heap.objs.size + 1, [sh.heap.objs.size + 1, sh.heap.objs.size], _, _, hp, rfl, I2, turn_enumS X.prog X.w X.K k a _ _ (Nat.succ_ne_self _) xs, ⟨⟨_, he⟩, itS_ob k hit⟩, fun b hb => ?_, hR _ _ (Nat.ne_of_gt (Nat.lt_succ_of_lt la)) (Nat.ne_of_gt la)⟩
  have e' : b = sh.heap.objs.size + 1 ∨ b = sh.heap.objs.size := by simpa using hb
  have hle : sh.heap.objs.size ≤ b := by
    rcases e' with z | z
    · rw [z]; exact Nat.le_add_right _ _
    · rw [z]; exact Nat.le_refl _
  exact iv.fpOk hle (iv.hok.fresh hle)
end
end L3
set_option Elab.async false
set_option linter.all false
set_option maxRecDepth 100000
namespace L3
open PySem PySem.Spec L2
def enumT (xs : List PyData) : List T := (List.range xs.length).map fun (i : Nat) => T.wt [.int (i : Int), xs.getD i .none]
def zipT (xs ys : List PyData) : List T := (List.range (min xs.length ys.length)).map fun (i : Nat) => T.wt [xs.getD i .none, ys.getD i .none]
def seqOf : T → Option (List PyData)
  | .d (.list xs) => some xs
  | .d (.tuple xs) => some xs
  | _ => none
def iEnum (r : Ma) : Mi := fun τ M Q => r τ M fun ts M1 => match ts with
  | [t] => (match seqOf t with
    | some xs => Q (enumT xs) M1
    | none => False)
  | _ => False
def iZip2 (r : Ma) : Mi := fun τ M Q => r τ M fun ts M1 => match ts with
  | [t, u] => (match seqOf t, seqOf u with
    | some xs, some ys => Q (zipT xs ys) M1
    | _, _ => False)
  | _ => False
theorem seqOf_rt {K : PySem.W.Frag} {B : Bk} {v : V} {t : T} {xs : List PyData} (e : seqOf t = some xs) (r : Rt K B v t) : ∃ k a vs, v = .ref a ∧ srcS K k B.G a vs ∧ RpA K B.G vs xs := by
  unfold seqOf at e
  split at e
  · cases e
    cases (show Rp K B.G v (.list _) from r) with
    | lst e q => exact ⟨.l, _, _, rfl, .of e, q⟩
  · cases e
    cases (show Rp K B.G v (.tuple _) from r) with
    | tup e q => exact ⟨.t, _, _, rfl, e.t, q⟩
  · cases e
theorem srcS_mono {K : PySem.W.Frag} {k : Src} {G G' : Hp} {a : Addr} {xs : List V} (g : ∀ a o, G a = some o → G' a = some o) (h : srcS K k G a xs) : srcS K k G' a xs := by
  cases k with
  | l => exact SqL.mono g h
  | t => exact SqT.mono0 g h
theorem rpa_getD {K : PySem.W.Frag} {G : Hp} : ∀ {vs : List V} {xs : List PyData}, RpA K G vs xs → ∀ i : Nat, Rp K G (vs.getD i .non) (xs.getD i .none)
  | _, _, .nil, _ => .non
  | _, _, .cons p _, 0 => p
  | _, _, .cons _ q, i + 1 => rpa_getD q i
theorem walkT_enum {K : PySem.W.Frag} {B : Bk} {k : Src} {a e it : Addr} {vs : List V} {xs : List PyData} (h : srcS K k B.G a vs) (q : RpA K B.G vs xs) (n1 : e ≠ a) (n2 : it ≠ a) :
    WalkT K B (ItN vs.length (fun H => srcS K k H a vs ∧ a ≠ e ∧ a ≠ it) fun i => [.int (i : Int), vs.getD i .non]) (enumT xs) := by
  unfold WalkT enumT
  rw [List.length_map, List.length_range, ← RpA.length q]
  refine ⟨fun i H hi g => ⟨hi, srcS_mono g h, n1.symm, n2.symm⟩, fun H g => ⟨rfl, srcS_mono g h, n1.symm, n2.symm⟩, fun i H x H' hi g y => .inr ?_⟩
  obtain ⟨p, rfl, hp, rfl⟩ := y
  refine ⟨p, _, _, _, rfl, hp, rfl, .cons (.int (i : Int)) (.cons (rpa_getD q i) .nil), ?_⟩
  refine .inl ⟨rfl, ?_⟩
  rw [List.getElem?_map, List.getElem?_range hi]
  rfl
section
open PyProof.Rows HT
variable {X : Cx} {e e2 : Expr} {mr : Ma} {p pos tpos : Pos} {elts : List Expr} {kk : Nat}
theorem mi_enum (hg : Gl X "enumerate") (hm : X.mg "enumerate" = none) (ha : MA X [e] mr) (hs : starEach [e] X.env = [(false, eval e X.env)] := by rfl) :
    MI X (.Tuple elts kk tpos) (.Call (.Name "enumerate" p) [e] [] pos) (iEnum mr) := by
  refine ⟨fun pn sh sg hp R iv ⟨τ, M, B, Q, h, w, s, k⟩ => ?_⟩
  let P := fun (xs : List V) (H1 : Hp) => ∃ ts M1 B1, (match ts with
    | [t] => (match seqOf t with
      | some xs => Q (enumT xs) M1
      | none => False)
    | _ => False) ∧ Wd X.K B1 M1 H1 ∧ Ext B hp B1 H1 ∧ Paired (Rt X.K B1) xs ts
  refine Call_ (ld_blt iv hg hm boot_enumerate (PyProof.Rows.callWith_type1 (thn (ha.run pos pn sh sg hp P iv ⟨τ, M, B, _, h, w, s, fun v t M1 B1 H1 h1 w1 e1 r1 => ⟨t, M1, B1, h1, w1, e1, r1⟩⟩) fun us s1 ⟨vs, H1, I1, r1, ts, M1, B1, h1, w1, e1, q1⟩ => ?_) hs rfl))
  split at h1
  · split at h1
    · rename_i t xs et
      obtain ⟨v, rfl, r⟩ := paired_one q1
      obtain ⟨kd, a, ws, rfl, hsr, q⟩ := seqOf_rt et r
      cases r1 with
      | cons r rr =>
        cases rr
        cases r
        exact pie_enumS I1 (srcS_mono w1.le hsr) fun e it n1 n2 => k _ M1 B1 H1 _ h1 w1 e1 (walkT_enum hsr q n1 n2)
    · exact h1.elim
  · exact h1.elim
end
variable {τ : En} {M : Mem} {a : Ma}
@[simp] theorem x_seql {xs : List PyData} : seqOf (.d (.list xs)) = some xs := rfl
@[simp] theorem x_seqt {xs : List PyData} : seqOf (.d (.tuple xs)) = some xs := rfl
@[simp] theorem x_ienum {R : List T → Mem → Prop} : iEnum a τ M R = a τ M fun ts M1 => match ts with
  | [t] => (match seqOf t with
    | some xs => R (enumT xs) M1
    | none => False)
  | _ => False := rfl
@[simp] theorem x_izip2 {R : List T → Mem → Prop} : iZip2 a τ M R = a τ M fun ts M1 => match ts with
  | [t, u] => (match seqOf t, seqOf u with
    | some xs, some ys => R (zipT xs ys) M1
    | _, _ => False)
  | _ => False := rfl
end L3
set_option Elab.async false
set_option linter.all false
set_option maxRecDepth 100000
namespace L3
open PySem PySem.Spec L2
def fPopAt (x : T) : FA := fun ts M Q => match x, ts with
  | .lr i, [.d (.int j)] => (match M.L[i]? with
    | some (some ds) => (0 ≤ j ∧ j < 2 ^ 63 ∧ j.toNat < ds.length) ∧ ∀ z, ds[j.toNat]? = some z → Q (.d z) { M with L := M.L.set i (some (ds.eraseIdx j.toNat)) }
    | _ => False)
  | _, _ => False
theorem mel_popAt {K : PySem.W.Frag} : MeL K rPopAt fPopAt := by
  intro x xs t ts M B H Q Q' h w rx rs k
  unfold fPopAt at h
  split at h
  · rename_i i j
    split at h
    · rename_i ds hL
      obtain ⟨v, rfl, r1⟩ := paired_one rs
      cases (show Rp K B.G v (.int j) from r1)
      obtain ⟨a, rfl, ha⟩ := rx
      obtain ⟨_, vs, e, q⟩ := w.lc _ _ _ ha hL
      obtain ⟨⟨h1, h2, h3⟩, hQ⟩ := h
      have hz : ds[j.toNat]? = some ds[j.toNat] := List.getElem?_eq_getElem h3
      obtain ⟨u, g1, g2⟩ := RpA.get q hz
      refine ⟨a, vs, j, j.toNat, u, rfl, rfl, e, by omega, h2, ?_, g1, ?_⟩
      · unfold seqIndex?
        rw [RpA.length q]
        have c1 : ¬ j < 0 := by omega
        simp only [c1, if_false]
        rw [if_pos (by simp; omega)]
      · obtain ⟨w2, e2⟩ := w.setL ha hL (RpA.eraseIdx j.toNat q)
        exact k _ _ _ _ _ (hQ _ hz) w2 e2 g2
    · exact h.elim
  · exact h.elim
section
variable {X : Cx}
theorem me_popAt {mo : Me} {mr : Ma} {o x : Expr} {apos cpos : Pos} (ho : ME X o mo) (ha : MA X [x] mr) (hbase : attributeBase o "pop" X.env (eval o X.env) = eval o X.env := by rfl)
    (hfew : ((backTo cpos (starEach [x] X.env)).all (fun x => !x.1) && (backToKw cpos (keywordEach [] X.env)).all (fun x => x.1.isSome) && decide (([x] : List Expr).length + ([] : List Keyword).length + (if ([] : List Keyword).isEmpty then 0 else 1) < 30)) = true := by rfl)
    (hline : (apos.endLine == cpos.line) = true := by rfl) (hs : starEach [x] X.env = (false, eval x X.env) :: starEach [] X.env := by rfl) : ME X (.Call (.Attribute o "pop" apos) [x] [] cpos) (mMeth fPopAt mo mr) :=
  me_lm PySem.F.plainAttrs_list PySem.F.slot_list_pop PySem.F.type_list_pop mt_popAt mel_popAt ho ha hbase hfew hline hs rfl
end
def CBig (i j : Int) : Prop := i.natAbs < 2 ^ 300 ∧ j.natAbs < 2 ^ 300
def oMulW : F2 := oI CBig fun i j => .int (i * j)
def oRepT : F2 := fun x y M Q => match x, y with
  | .d (.tuple xs), .d (.int j) => (xs ≠ [] ∧ 2 ≤ j ∧ j ≤ 1000 ∧ xs.length ≤ 1000) ∧ Q (.tup (List.replicate j.toNat xs).flatten) M
  | _, _ => False
theorem opl_repT {K : PySem.W.Frag} : OpL K (rRepC K) oRepT := by
  intro x y t u M B H Q Q' h w rx ry k
  unfold oRepT at h
  split at h
  · cases rx with
    | tup e1 q1 =>
      cases ry
      obtain ⟨⟨h0, h1, h2, h3⟩, q⟩ := h
      refine ⟨_, _, _, rfl, rfl, SqT.mono w.le e1, ?_, h1, h2, ?_, fun p o hp ho => ?_⟩
      · intro z
        subst z
        cases q1
        exact h0 rfl
      · rw [RpA.length q1]
        exact h3
      · obtain ⟨w', x'⟩ := w.alloc hp (.frz o (.tup _))
        exact k _ _ M _ _ q w' x' (.tup (.inl ⟨o, upd_same, ho⟩) (RpA.mono x'.g (RpA.rep q1 _)))
  · exact h.elim
theorem me_repT {X : Cx} {a b : Expr} {ma mb : Me} {pos : Pos} (ha : ME X a ma) (hb : ME X b mb) : ME X (.BinOp a .Mult b pos) (mOp oRepT ma mb) := me_op op_repC opl_repT ha hb
variable {M : Mem} {Q : Kt} {D : List Cell} {L : List (Option (List PyData))} {i : Nat}
@[simp] theorem x_mulW {i j : Int} : oMulW (.d (.int i)) (.d (.int j)) M Q = (CBig i j ∧ Q (.int (i * j)) M) := rfl
@[simp] theorem x_repT {xs : List PyData} {j : Int} : oRepT (.d (.tuple xs)) (.d (.int j)) M Q = ((xs ≠ [] ∧ 2 ≤ j ∧ j ≤ 1000 ∧ xs.length ≤ 1000) ∧ Q (.tup (List.replicate j.toNat xs).flatten) M) := rfl
@[simp] theorem x_popAt {j : Int} : fPopAt (.lr i) [.d (.int j)] M Q = (match M.L[i]? with
    | some (some ds) => (0 ≤ j ∧ j < 2 ^ 63 ∧ j.toNat < ds.length) ∧ ∀ z, ds[j.toNat]? = some z → Q (.d z) { M with L := M.L.set i (some (ds.eraseIdx j.toNat)) }
    | _ => False) := rfl
section
open PyProof.Rows
variable {prog : Program} {w : World} {A : Around} {E : Value → Shared → Prop} {s : Shared} {l : Addr}
theorem sum_intTup {xs : Array (Int × Tok)} {Q : Value → Shared → Prop} (hh : A.handled = none) (hl : s.heap.IsTuple l (intItems xs))
    (h : ∀ h' tk t', (∀ b o, s.heap.get? b = some o → h'.get? b = some o) → Q (.int (preSum (numAt xs) xs.size) t') { s with heap := h', toks := tk }) :
    wpAny (model prog w) A (call (.builtin "sum") [.ref l]) Q E s := by
  have hlt : l < s.heap.objs.size := by
    obtain ⟨o, h1, _⟩ := hl
    exact Heap.lt_size h1
  refine call_sum_walkG (wpAny_pyIter_tuple hl ?_)
  refine ⟨_, [_, l], [_], _, _, _, numAt xs, rfl, Walks.tuple (A := A.in1) hh _ l (Nat.ne_of_lt hlt) (intItems xs), ⟨⟨_, Heap.get?_push_size _ rfl, rfl, rfl⟩, hl.push _⟩, fun c hc => ?_, (fun _ _ => intItems_at), fun h' tk t' hk => ?_⟩
  · rw [Heap.size_push]
    rcases List.mem_cons.mp hc with z | z
    · rw [z]; exact Nat.lt_succ_self _
    · rw [List.mem_singleton.mp z]; exact Nat.lt_succ_of_lt hlt
  · have := h h' tk t' fun b o e => hk b o (fun z => by
      rw [List.mem_singleton.mp z] at e
      exact absurd (Heap.lt_size e) (Nat.lt_irrefl _)) (Heap.get?_push_of_some _ e)
    simpa [intItems] using this
theorem sumT_raw {its : List Value} {ns : List Int} {Q : Value → Shared → Prop} (hh : A.handled = none) (hl : s.heap.IsTuple l its.toArray) (hi : IntsAre its ns)
    (h : ∀ h' tk t', (∀ b o, s.heap.get? b = some o → h'.get? b = some o) → Q (.int ns.sum t') { s with heap := h', toks := tk }) : wpAny (model prog w) A (call (.builtin "sum") [.ref l]) Q E s := by
  obtain ⟨xs, e⟩ := hi.allInts.items
  have hn : numsOf (intItems xs).toList = ns := by rw [← e]; exact hi.numsOf
  rw [nums_intItems] at hn
  rw [e] at hl
  refine sum_intTup hh hl fun h' tk t' hk => ?_
  have := h h' tk t' hk
  rw [preSum_eq, List.take_of_length_le (by simp), hn]; exact this
end
def rSumT (K : PySem.W.Frag) : List V → Hp → VK → Prop := fun vs H Q => ∃ (a : Addr) (ns : List Int), vs = [V.ref a] ∧ SqT K H a (ns.map V.int) ∧ Q (.int ns.sum) H
theorem cr_sumT {X : Cx} (hc : X.calm = true) : CallR X (.builtin "sum") (rSumT X.K) := by
  intro pins s σ H vs us Q I r h
  obtain ⟨a, ns, rfl, hs, q⟩ := h
  obtain ⟨its, rv, hl, _⟩ := I.tuple hs
  rw [Vals.ref1 r]
  exact sumT_raw (I.ok.hd hc) hl rv.ints fun h' tk t' hk => ⟨.int _, H, I.kept hk, ⟨_, rfl⟩, q⟩
def fSumT : FA := fun ts M Q => match ts with
  | [.d (.tuple xs)] => (match intsOf xs with
    | some ns => Q (.int ns.sum) M
    | none => False)
  | _ => False
theorem rpa_ints {K : PySem.W.Frag} {G : Hp} : ∀ {ns : List Int} {vs : List V}, RpA K G vs (ns.map .int) → vs = ns.map V.int
  | [], _, .nil => rfl
  | _ :: _, _, .cons p q => by
    cases p
    rw [rpa_ints q]
    rfl
theorem cal_sumT {K : PySem.W.Frag} : CaL K (rSumT K) fSumT := by
  intro xs ts M B H Q Q' h w r k
  unfold fSumT at h
  split at h
  · obtain ⟨v, rfl, r1⟩ := paired_one r
    split at h
    · rename_i ns e
      have e2 := intsOf_eq e
      subst e2
      cases (show Rp K B.G v (.tuple _) from r1) with
      | tup e1 q1 =>
        rw [rpa_ints q1] at e1
        exact ⟨_, ns, rfl, SqT.mono w.le e1, k _ _ M B H h w (.refl _ _) (.int _)⟩
    · exact h.elim
  · exact h.elim
section
variable {X : Cx} {e : Expr} {es : List Expr} {mr : Ma} {p pos : Pos}
theorem me_sumT (hc : X.calm = true) (hg : Gl X "sum") (hm : X.mg "sum" = none) (ha : MA X (e :: es) mr) (he : starEach (e :: es) X.env = (false, eval e X.env) :: starEach es X.env := by rfl) (hpl : (backTo pos (starEach es X.env)).any (·.1) = false := by rfl) : ME X (.Call (.Name "sum" p) (e :: es) [] pos) (mCall fSumT mr) := me_callB (cr_sumT hc) cal_sumT hg hm (by decide +kernel) ha (by decide) (by decide) he hpl
end
end L3
set_option Elab.async false
set_option linter.all false
set_option maxRecDepth 100000
namespace Sh
open PySem PySem.Spec L2 L3
abbrev b_round_up_0 : Ms := (mRet (mOp oMul (mOp oDiv (mOp oSub (mOp oAdd (mVar 0) (mVar 1)) (mC (.int 1))) (mVar 1)) (mVar 1)))
abbrev b_round_up : Ms := b_round_up_0
def d_round_up : FD := mDef 2 2 b_round_up
abbrev b_greatest_alignment_0 : Ms := (mRet (mCall fMax (aCons (mLc (iSeq (mVar 1)) (gN 2) bYes (mOp oIx (mOp oIx (mVar 0) (mVar 2)) (mC (.int 1))) [2]) aNil)))
abbrev b_greatest_alignment : Ms := b_greatest_alignment_0
def d_greatest_alignment : FD := mDef 2 3 b_greatest_alignment
abbrev b_span_behind_0 : Ms := (mRet (mTup (aCons (mVar 4) (aCons (mOp oAdd (mVar 4) (mVar 2)) aNil))))
abbrev b_span_behind_1 : Ms := (mSeq (mSet 4 (mCall (fDef d_round_up) (aCons (mVar 1) (aCons (mVar 3) aNil)))) b_span_behind_0)
abbrev b_span_behind_2 : Ms := (mSeq (mAsg (mVar 0) (gTu 2 (gsCons (gN 2) (gsCons (gN 3) gsNil)))) b_span_behind_1)
abbrev b_span_behind : Ms := b_span_behind_2
def d_span_behind : FD := mDef 2 5 b_span_behind
abbrev b_row_end_0 : Ms := (mAsg (mCall (fDef d_span_behind) (aCons (mOp oIx (mVar 0) (mVar 3)) (aCons (mVar 2) aNil))) (gTu 2 (gsCons (gN 4) (gsCons (gN 2) gsNil))))
abbrev b_row_end_1 : Ms := (mRet (mVar 2))
abbrev b_row_end_2 : Ms := (mSeq (mFor (iSeq (mVar 1)) (gN 3) b_row_end_0) b_row_end_1)
abbrev b_row_end : Ms := b_row_end_2
def d_row_end : FD := mDef 3 5 b_row_end
abbrev b_row_whole_0 : Ms := (mRet (mCall (fDef d_round_up) (aCons (mCall (fDef d_row_end) (aCons (mVar 0) (aCons (mVar 1) (aCons (mC (.int 0)) aNil)))) (aCons (mCall (fDef d_greatest_alignment) (aCons (mVar 0) (aCons (mVar 1) aNil))) aNil))))
abbrev b_row_whole : Ms := b_row_whole_0
def d_row_whole : FD := mDef 2 2 b_row_whole
abbrev b__law_draw_0 : Ms := (mDrop (mMeth fApp (mVar 2) (aCons (mOp oDiv (mVar 3) (mVar 1)) aNil)))
abbrev b__law_draw_1 : Ms := (mRet (mOp oMod (mCall fInt (aCons (mVar 3) aNil)) (mVar 1)))
abbrev b__law_draw_2 : Ms := (mSeq (mIf (mTest (mOp oGe (mVar 3) (mVar 1))) b__law_draw_0 mNext) b__law_draw_1)
abbrev b__law_draw_3 : Ms := (mSeq (mSet 3 (mMeth0 fPop (mVar 2))) b__law_draw_2)
abbrev b__law_draw_4 : Ms := (mSet 6 (mOp oMod (mCall fInt (aCons (mOp oAdd (mOp oMul (mVar 6) (mVar 6)) (mOp oMul (mOp oDGet (mVar 0) (mC (.str "stamp"))) (mOp oAdd (mVar 4) (mVar 7)))) aNil)) (mC (.int 4294967279))))
abbrev b__law_draw_5 : Ms := (mRet (mOp oMod (mCall fInt (aCons (mOp oDiv (mVar 6) (mC (.int 512))) aNil)) (mVar 1)))
abbrev b__law_draw_6 : Ms := (mSeq (mFor (iRange (aCons (mC (.int 2)) aNil)) (gN 7) b__law_draw_4) b__law_draw_5)
abbrev b__law_draw_7 : Ms := (mSeq (mSet 6 (mOp oMod (mCall fInt (aCons (mOp oAdd (mOp oAdd (mOp oMul (mOp oIx (mVar 5) (mOp oMod (mCall fInt (aCons (mOp oMul (mVar 4) (mC (.int 7))) aNil)) (mCall fLen (aCons (mVar 5) aNil)))) (mC (.int 2246822519))) (mOp oDGet (mVar 0) (mC (.str "stamp")))) (mOp oMul (mVar 4) (mC (.int 3266489917)))) aNil)) (mC (.int 4294967291)))) b__law_draw_6)
abbrev b__law_draw_8 : Ms := (mSeq (mPar 4 5 (aCons (mOp oDGet (mVar 0) (mC (.str "count"))) (aCons (mOp oDGet (mVar 0) (mC (.str "cells"))) aNil))) b__law_draw_7)
abbrev b__law_draw_9 : Ms := (mSeq (mDPut (mVar 0) (mC (.str "count")) (mOp oAdd (mOp oDGet (mVar 0) (mC (.str "count"))) (mC (.int 1)))) b__law_draw_8)
abbrev b__law_draw_10 : Ms := (mSeq (mIf (bAnd (mTest (mOp (oEq true) (mVar 2) (mLst aNil))) (mTest (mOp oGt (mVar 1) (mC (.int 1))))) b__law_draw_3 mNext) b__law_draw_9)
abbrev b__law_draw_11 : Ms := (mSeq (mSet 2 (mOp oDGet (mVar 0) (mC (.str "deep")))) b__law_draw_10)
abbrev b__law_draw : Ms := b__law_draw_11
def d__law_draw : FD := mDef 2 8 b__law_draw
abbrev b__law_pick_0 : Ms := (mRet (mOp oIx (mVar 1) (mCall (fDef d__law_draw) (aCons (mVar 0) (aCons (mCall fLen (aCons (mVar 1) aNil)) aNil)))))
abbrev b__law_pick : Ms := b__law_pick_0
def d__law_pick : FD := mDef 2 2 b__law_pick
abbrev b__law_size_0 : Ms := (mRet (mVar 2))
abbrev b__law_size_1 : Ms := (mRet (mCall fMax (aCons (mC (.int 1)) (aCons (mOp oAdd (mVar 2) (mCall (fDef d__law_pick) (aCons (mVar 0) (aCons (mLst (aCons (mUn oNeg (mC (.int 1))) (aCons (mC (.int 1)) (aCons (mUn oNeg (mC (.int 2))) (aCons (mC (.int 3)) aNil))))) aNil)))) aNil))))
abbrev b__law_size_2 : Ms := (mRet (mOp oAdd (mC (.int 1)) (mCall (fDef d__law_draw) (aCons (mVar 0) (aCons (mC (.int 40)) aNil)))))
abbrev b__law_size_3 : Ms := (mRet (mCall fMin (aCons (mOp oPow (mC (.int 10)) (mC (.int 30))) (aCons (mCall fMax (aCons (mC (.int 1)) (aCons (mOp oAdd (mVar 4) (mVar 5)) aNil))) aNil))))
abbrev b__law_size_4 : Ms := (mSeq (mSet 5 (mCall (fDef d__law_pick) (aCons (mVar 0) (aCons (mLst (aCons (mC (.int 0)) (aCons (mC (.int 0)) (aCons (mUn oNeg (mC (.int 1))) (aCons (mC (.int 1)) (aCons (mOp oDiv (mUn oNeg (mVar 1)) (mC (.int 2))) (aCons (mOp oSub (mC (.int 0)) (mOp oMul (mCall (fDef d__law_draw) (aCons (mVar 0) (aCons (mOp oPow (mC (.int 10)) (mC (.int 6))) aNil))) (mOp oPow (mC (.int 10)) (mC (.int 23))))) aNil))))))) aNil)))) b__law_size_3)
abbrev b__law_size_5 : Ms := (mSeq (mSet 4 (mOp oSub (mOp oPow (mC (.int 10)) (mC (.int 30))) (mOp oMul (mVar 1) (mCall (fDef d__law_draw) (aCons (mVar 0) (aCons (mC (.int 9)) aNil)))))) b__law_size_4)
abbrev b__law_size_6 : Ms := (mSeq (mIf (mTest (mOp oLt (mVar 3) (mC (.int 8)))) b__law_size_2 mNext) b__law_size_5)
abbrev b__law_size_7 : Ms := (mSeq (mIf (mTest (mOp oLt (mVar 3) (mC (.int 6)))) b__law_size_1 mNext) b__law_size_6)
abbrev b__law_size_8 : Ms := (mSeq (mIf (mTest (mOp oLt (mVar 3) (mC (.int 3)))) b__law_size_0 mNext) b__law_size_7)
abbrev b__law_size_9 : Ms := (mSeq (mPar 2 3 (aCons (mOp oMul (mVar 1) (mOp oAdd (mC (.int 1)) (mCall (fDef d__law_draw) (aCons (mVar 0) (aCons (mC (.int 6)) aNil))))) (aCons (mCall (fDef d__law_draw) (aCons (mVar 0) (aCons (mC (.int 9)) aNil))) aNil))) b__law_size_8)
abbrev b__law_size : Ms := b__law_size_9
def d__law_size : FD := mDef 2 6 b__law_size
abbrev b__law_book_0 : Ms := (mLPut (mVar 2) (mVar 3) (mOp oIx (mVar 2) (mOp oSub (mVar 3) (mC (.int 1)))))
abbrev b__law_book_1 : Ms := (mIf (bAnd (mTest (mOp oGt (mVar 3) (mC (.int 0)))) (mTest (mOp (oEq false) (mCall (fDef d__law_draw) (aCons (mVar 0) (aCons (mC (.int 9)) aNil))) (mC (.int 0))))) b__law_book_0 mNext)
abbrev b__law_book_2 : Ms := (mSeq (mDrop (mMeth fApp (mVar 2) (aCons (mTup (aCons (mCall (fDef d__law_size) (aCons (mVar 0) (aCons (mVar 4) aNil))) (aCons (mVar 4) aNil))) aNil))) b__law_book_1)
abbrev b__law_book_3 : Ms := (mSeq (mSet 4 (mCall (fDef d__law_pick) (aCons (mVar 0) (aCons (mLst (aCons (mC (.int 1)) (aCons (mC (.int 1)) (aCons (mC (.int 2)) (aCons (mC (.int 2)) (aCons (mC (.int 4)) (aCons (mC (.int 4)) (aCons (mC (.int 8)) (aCons (mC (.int 16)) (aCons (mC (.int 32)) (aCons (mC (.int 64)) aNil))))))))))) aNil)))) b__law_book_2)
abbrev b__law_book_4 : Ms := (mRet (mCall fTuple (aCons (mVar 2) aNil)))
abbrev b__law_book_5 : Ms := (mSeq (mFor (iRange (aCons (mVar 1) aNil)) (gN 3) b__law_book_3) b__law_book_4)
abbrev b__law_book_6 : Ms := (mSeq (mSet 2 (mNewL aNil)) b__law_book_5)
abbrev b__law_book : Ms := b__law_book_6
def d__law_book : FD := mDef 2 5 b__law_book
abbrev b__law_up_0 : Ms := (mRet (mOp oAdd (mVar 0) (mOp oMod (mCall fInt (aCons (mOp oSub (mC (.int 0)) (mVar 0)) aNil)) (mVar 1))))
abbrev b__law_up : Ms := b__law_up_0
def d__law_up : FD := mDef 2 2 b__law_up
end Sh
set_option Elab.async false
set_option linter.all false
set_option maxRecDepth 100000
namespace Sh
open PySem PySem.Spec L2 L3
def rk (cells : List Int) (stamp count : Int) : List (Key × T) := [(.inr "deep", .mr 0), (.inr "cells", .lst (cells.map .int)), (.inr "stamp", .int stamp), (.inr "count", .int count)]
def rd (deep cells : List Int) (stamp count : Int) : List Cell := [.lst (deep.map T.int), .dct (rk cells stamp count)]
@[simp] theorem rk_deep {c : List Int} {s n : Int} : lookT (rk c s n) (.inr "deep") = some (.mr 0) := by
  unfold rk lookT
  rfl
@[simp] theorem rk_cells {c : List Int} {s n : Int} : lookT (rk c s n) (.inr "cells") = some (.lst (c.map .int)) := by
  unfold rk lookT
  rfl
@[simp] theorem rk_stamp {c : List Int} {s n : Int} : lookT (rk c s n) (.inr "stamp") = some (.int s) := by
  unfold rk lookT
  rfl
@[simp] theorem rk_count {c : List Int} {s n : Int} : lookT (rk c s n) (.inr "count") = some (.int n) := by
  unfold rk lookT
  rfl
@[simp] theorem rk_put {c : List Int} {s n m : Int} : putT (rk c s n) (.inr "count") (.int m) = rk c s m := by
  unfold rk putT
  rfl
@[simp] theorem rk_len {c : List Int} {s n : Int} : (rk c s n).length = 4 := rfl
structure RI (D : List Cell) : Prop where
  ex : ∃ (deep cells : List Int) (stamp count : Int), D = rd deep cells stamp count ∧ cells ≠ [] ∧ cells.length ≤ 64 ∧ deep.length ≤ 64 ∧ 0 ≤ stamp ∧ stamp < 4294967291 ∧ 0 ≤ count
theorem sz4 : (4 : Nat) < sizeLine := by rw [sizeLine_eq]; decide
theorem sz64 {n : Nat} (h : n ≤ 100000) : n < sizeLine := by rw [sizeLine_eq]; omega
theorem sz64' {n : Nat} (h : n ≤ 100000) : n ≤ sizeLine := by rw [sizeLine_eq]; omega
theorem datas_ints : ∀ l : List Int, datas (l.map T.int) = some (l.map PyData.int)
  | [] => rfl
  | x :: l => by
    show (datas (l.map T.int)).map (PyData.int x :: ·) = _
    rw [datas_ints l]
    rfl
theorem shaped_ints (l : List Int) : SeqAt.shaped (.list (l.map .int)) = true := by
  have h1 : ∀ l : List Int, PyData.canLayAll0 (l.map .int) = true := by
    intro l
    induction l with
    | nil => rfl
    | cons x l ih => simp [PyData.canLayAll0, PyData.canLay0, ih]
  have h2 : ∀ l : List Int, PyData.depthAll (l.map .int) ≤ 1 := by
    intro l
    induction l with
    | nil => simp [PyData.depthAll]
    | cons x l ih =>
      simp [PyData.depthAll, PyData.depth]
      omega
  unfold SeqAt.shaped
  rw [Bool.and_eq_true]
  refine ⟨by simp [PyData.canLay0, h1], decide_eq_true ?_⟩
  have := h2 l
  simp only [PyData.depth]
  omega
theorem eqv_nil (l : List PyData) : PyData.eqv (.list l) (.list []) = l.isEmpty := by
  cases l <;> simp [PyData.eqv, PyData.eqvAll]
theorem atI_mod {l : List Int} {i : Int} (h0 : 0 ≤ i) (h1 : i < l.length) : ∃ v, atI (l.map PyData.int) i = some (.int v) := by
  obtain ⟨n, rfl⟩ : ∃ n : Nat, i = n := ⟨i.toNat, by omega⟩
  have hn : n < l.length := by omega
  exact ⟨l[n], atI_nat (by rw [List.getElem?_map, List.getElem?_eq_getElem hn]; rfl)⟩
theorem he_nil {deep : List Int} {X : Cell} {n : Bool} {Q : Kt} : oEq n (.mr 0) (.d (.list [])) ⟨[.lst (deep.map T.int), X], []⟩ Q = Q (.bl (if n then !deep.isEmpty else deep.isEmpty)) ⟨[.lst (deep.map T.int), X], []⟩ := by
  rw [x_eq (a := .list (deep.map .int)) (b := .list []) ?_ rfl (shaped_ints _) (shaped_ints []) (fun _ z => nomatch z), eqv_nil]
  · cases deep <;> rfl
  · simp [now, datas_ints]
theorem rang {i j : Int} (h : 0 < j) : 0 ≤ i % j ∧ i % j < j := ⟨Int.emod_nonneg _ (by omega), Int.emod_lt_of_pos _ h⟩
/-- the draw's second half -/
theorem draw_tail {deep cells : List Int} {stamp count many : Int} {Q : T → List Cell → Prop} {t3 : Option T} (hc : cells ≠ []) (hcl : cells.length ≤ 64) (hdl : deep.length ≤ 64) (hs : 0 ≤ stamp) (hs2 : stamp < 4294967291) (hn : 0 ≤ count) (h1 : 1 ≤ many) (h2 : many < 18446744073709551616)
    (q : ∀ n D', 0 ≤ n → n < many → RI D' → Q (.int n) D') : b__law_draw_9 { nx := fun _ M => Q .non M.D, rt := fun t M => noL t = true ∧ Q t M.D } [some (.mr 1), some (.int many), some (.mr 0), t3, none, none, none, none] ⟨rd deep cells stamp count, []⟩ := by
  have hl : 0 < cells.length := List.length_pos_iff.mpr hc
  refine w_seq ?_
  simp [rd, sz4]
  refine w_seq ?_
  simp
  refine w_seq ?_
  have hr := rang (i := (count + 1) * 7) (j := cells.length) (by omega)
  obtain ⟨v, hv⟩ := atI_mod (l := cells) (i := (count + 1) * 7 % cells.length) hr.1 hr.2
  simp
  refine ⟨by unfold CMul; omega, hl, _, hv, ?_⟩
  simp
  refine ⟨by unfold CMul; omega, by unfold CMul; omega, ?_⟩
  refine w_seq (w_for ?_)
  simp [rangeT, List.range_succ]
  have hm := rang (i := v * 2246822519 + stamp + (count + 1) * 3266489917) (j := 4294967291) (by omega)
  rw [x_forc]
  simp
  refine ⟨by unfold CMul; omega, by unfold CMul; omega, ?_⟩
  rw [x_forc]
  simp
  have hm2 := rang (i := (v * 2246822519 + stamp + (count + 1) * 3266489917) % 4294967291 * ((v * 2246822519 + stamp + (count + 1) * 3266489917) % 4294967291) + stamp * (count + 1)) (j := 4294967279) (by omega)
  refine ⟨by unfold CMul; omega, by unfold CMul; omega, ?_⟩
  rw [x_forn]
  simp
  refine ⟨by unfold CDv; omega, by omega, ?_⟩
  have hf := fun x : Int => rang (i := x) (j := many) (by omega)
  exact q _ _ (hf _).1 (hf _).2 ⟨deep, cells, stamp, count + 1, rfl, hc, hcl, hdl, hs, hs2, by omega⟩
theorem sp_draw {D : List Cell} {many : Int} {Q : T → List Cell → Prop} (hD : RI D) (h1 : 1 ≤ many) (h2 : many < 18446744073709551616) (q : ∀ n D', 0 ≤ n → n < many → RI D' → Q (.int n) D') : d__law_draw [.mr 1, .int many] D Q := by
  obtain ⟨deep, cells, stamp, count, rfl, hc, hcl, hdl, hs, hs2, hn⟩ := hD.ex
  refine ⟨rfl, ?_⟩
  have ht := fun (t3 : Option T) => draw_tail (t3 := t3) hc hcl hdl hs hs2 hn h1 h2 q
  refine w_seq ?_
  simp [rd]
  refine w_seq (w_if ?_)
  simp [he_nil]
  by_cases hd : deep = []
  · subst hd
    exact .inl ⟨rfl, ht none⟩
  · refine .inr ⟨hd, ?_⟩
    by_cases hm : many ≤ 1
    · exact .inl ⟨hm, ht none⟩
    · refine .inr ⟨by omega, ?_⟩
      obtain ⟨d0, x, rfl⟩ : ∃ d0 x, deep = d0 ++ [x] := ⟨deep.dropLast, deep.getLast hd, (List.dropLast_concat_getLast hd).symm⟩
      refine w_seq ?_
      simp
      refine w_seq (w_if ?_)
      simp
      have hp := fun x : Int => rang (i := x) (j := many) (by omega)
      have hl2 : d0.length + 1 ≤ 64 := by simpa using hdl
      by_cases hx : x < many
      · exact .inl ⟨hx, by omega, q _ _ (hp x).1 (hp x).2 ⟨d0, cells, stamp, count, rfl, hc, hcl, by omega, hs, hs2, hn⟩⟩
      · refine .inr ⟨by omega, by unfold CDv; omega, sz64 (by omega), by omega, q _ _ (hp x).1 (hp x).2 ⟨d0 ++ [x / many], cells, stamp, count, ?_, hc, hcl, by simpa using hl2, hs, hs2, hn⟩⟩
        simp [rd]
end Sh
set_option Elab.async false
set_option linter.all false
set_option maxRecDepth 100000
namespace Sh
open PySem PySem.Spec L2 L3
theorem for_all {g : Mg} {b : Ms} {E : Es} {ts : List T} {τ : En} {M : Mem} (I : Nat → En → Mem → Prop) (h0 : I 0 τ M)
    (step : ∀ (i : Nat) (τ : En) (M : Mem) (t : T) (R : En → Mem → Prop), ts[i]? = some t → I i τ M → (∀ τ' M', I (i + 1) τ' M' → R τ' M') → g t τ M fun τ1 M1 => b { E with nx := R, ct := R, bk := E.nx } τ1 M1)
    (done : ∀ τ M, I ts.length τ M → E.nx τ M) : goFor g b E ts τ M := by
  have key : ∀ (rest : List T) (i : Nat) (τ : En) (M : Mem), ts.drop i = rest → i ≤ ts.length → I i τ M → goFor g b E rest τ M := by
    intro rest
    induction rest with
    | nil =>
      intro i τ M e hi h
      have : i = ts.length := by
        have := congrArg List.length e
        simp at this
        omega
      subst this
      exact done τ M h
    | cons t rest ih =>
      intro i τ M e hi h
      have hlt : i < ts.length := by
        rcases Nat.lt_or_ge i ts.length with q | q
        · exact q
        · rw [List.drop_eq_nil_of_le q] at e; cases e
      rw [drop_at hlt] at e
      obtain ⟨e1, e2⟩ := List.cons.inj e
      rw [x_forc]
      refine step i τ M t _ (by rw [← e1]; exact List.getElem?_eq_getElem hlt) h fun τ' M' h' => ?_
      exact ih (i + 1) τ' M' e2 hlt h'
  exact key ts 0 τ M rfl (Nat.zero_le _) h0
theorem lc_all {g : Mg} {c : Mb} {m : Me} {τ0 : En} {F : List PyData → Mem → Prop} {ts : List T} {M : Mem} (I : Nat → List PyData → Mem → Prop) (h0 : I 0 [] M)
    (step : ∀ (i : Nat) (acc : List PyData) (M : Mem) (t : T) (R : List PyData → Mem → Prop), ts[i]? = some t → I i acc M → (∀ acc' M', I (i + 1) acc' M' → R acc' M') →
      g t τ0 M fun τ1 M1 => c τ1 M1 fun k M2 => if k = true then m τ1 M2 fun y M3 => (match y with | .d z => acc.length < sizeLine ∧ R (acc ++ [z]) M3 | _ => False) else R acc M2)
    (done : ∀ acc M, I ts.length acc M → F acc M) : goLc g c m τ0 F ts [] M := by
  have key : ∀ (rest : List T) (i : Nat) (acc : List PyData) (M : Mem), ts.drop i = rest → i ≤ ts.length → I i acc M → goLc g c m τ0 F rest acc M := by
    intro rest
    induction rest with
    | nil =>
      intro i acc M e hi h
      have : i = ts.length := by
        have := congrArg List.length e
        simp at this
        omega
      subst this
      exact done acc M h
    | cons t rest ih =>
      intro i acc M e hi h
      have hlt : i < ts.length := by
        rcases Nat.lt_or_ge i ts.length with q | q
        · exact q
        · rw [List.drop_eq_nil_of_le q] at e; cases e
      rw [drop_at hlt] at e
      obtain ⟨e1, e2⟩ := List.cons.inj e
      rw [x_lcc]
      exact step i acc M t (fun a m' => goLc g c m τ0 F rest a m') (by rw [← e1]; exact List.getElem?_eq_getElem hlt) h fun a' M' h' => ih (i + 1) a' M' e2 hlt h'
  exact key ts 0 [] M rfl (Nat.zero_le _) h0
/-- a comprehension that changes nothing: f of every item of which p -/
theorem lc_pf {g : Mg} {c : Mb} {m : Me} {τ0 : En} {F : List PyData → Mem → Prop} {α : Type} {ts : List α} {e : α → T} {M : Mem} (p : α → Bool) (f : α → PyData) (hz : ts.length ≤ sizeLine)
    (step : ∀ (x : α) (acc : List PyData) (R : List PyData → Mem → Prop), x ∈ ts → acc.length < sizeLine → R (if p x = true then acc ++ [f x] else acc) M →
      g (e x) τ0 M fun τ1 M1 => c τ1 M1 fun k M2 => if k = true then m τ1 M2 fun y M3 => (match y with | .d z => acc.length < sizeLine ∧ R (acc ++ [z]) M3 | _ => False) else R acc M2)
    (done : F ((ts.filter p).map f) M) : goLc g c m τ0 F (ts.map e) [] M := by
  refine lc_all (fun i acc M' => M' = M ∧ acc = ((ts.take i).filter p).map f) ⟨rfl, rfl⟩ ?_ ?_
  · rintro i acc M' t R ht ⟨rfl, rfl⟩ k
    rw [List.getElem?_map] at ht
    cases hx : ts[i]? with
    | none => rw [hx] at ht; cases ht
    | some x =>
      rw [hx] at ht
      cases ht
      have hi : i < ts.length := by
        rcases Nat.lt_or_ge i ts.length with q | q
        · exact q
        · rw [List.getElem?_eq_none q] at hx; cases hx
      have hm : x ∈ ts := List.mem_of_getElem? hx
      have hlen : (((ts.take i).filter p).map f).length < sizeLine := by
        rw [List.length_map]
        have := List.length_filter_le p (ts.take i)
        rw [List.length_take] at this
        omega
      refine step x _ R hm hlen (k _ _ ⟨rfl, ?_⟩)
      rw [List.take_add_one, hx, Option.toList_some, List.filter_append, List.map_append]
      by_cases hp : p x = true
      · rw [if_pos hp]
        simp [hp]
      · rw [if_neg hp]
        simp [hp]
  · rintro acc M' ⟨rfl, rfl⟩
    rw [List.length_map, List.take_length]
    exact done
theorem lc_pure {g : Mg} {m : Me} {τ0 : En} {F : List PyData → Mem → Prop} {α : Type} {ts : List α} {e : α → T} {M : Mem} (f : α → PyData) (hz : ts.length ≤ sizeLine)
    (step : ∀ (x : α) (acc : List PyData) (R : List PyData → Mem → Prop), x ∈ ts → acc.length < sizeLine → R (acc ++ [f x]) M →
      g (e x) τ0 M fun τ1 M1 => m τ1 M1 fun y M3 => (match y with | .d z => acc.length < sizeLine ∧ R (acc ++ [z]) M3 | _ => False))
    (done : F (ts.map f) M) : goLc g bYes m τ0 F (ts.map e) [] M := by
  refine lc_pf (fun _ => true) f hz (fun x acc R hx ha hr => ?_) (by rw [List.filter_eq_self.mpr (by simp)]; exact done)
  simp only [x_byes, if_true]
  exact step x acc R hx ha (by simpa using hr)
theorem map_map' (f : Int → Int) (l : List Int) : l.map (fun x => PyData.int (f x)) = (l.map f).map .int := by rw [List.map_map]; rfl
end Sh
set_option Elab.async false
set_option linter.all false
set_option maxRecDepth 100000
namespace Sh
open PySem PySem.Spec L2 L3
theorem datas_ds : ∀ l : List PyData, datas (l.map T.d) = some l
  | [] => rfl
  | x :: l => by
    show (datas (l.map T.d)).map (x :: ·) = _
    rw [datas_ds l]
    rfl
theorem sp_pick {D : List Cell} {xs : List PyData} {Q : T → List Cell → Prop} (hD : RI D) (h1 : xs ≠ []) (h2 : xs.length < 100000) (q : ∀ x D', x ∈ xs → RI D' → Q (.d x) D') : d__law_pick [.mr 1, .lst xs] D Q := by
  have hl : 0 < xs.length := List.length_pos_iff.mpr h1
  refine ⟨rfl, ?_⟩
  try simp
  refine sp_draw hD (by omega) (by omega) fun n D' n0 n1 hD' => ?_
  obtain ⟨k, rfl⟩ : ∃ k : Nat, n = k := ⟨n.toNat, by omega⟩
  have hk : k < xs.length := by omega
  try simp
  exact ⟨_, atI_nat (List.getElem?_eq_getElem hk), q _ _ (List.getElem_mem hk) hD'⟩
/-- the steps that a kind may have -/
def Al (a : Int) : Prop := a = 1 ∨ a = 2 ∨ a = 4 ∨ a = 8 ∨ a = 16 ∨ a = 32 ∨ a = 64
theorem Al.pos {a : Int} (h : Al a) : 1 ≤ a ∧ a ≤ 64 := by unfold Al at h; omega
theorem sp_size {D : List Cell} {a : Int} {Q : T → List Cell → Prop} (hD : RI D) (h : Al a) (q : ∀ s D', 1 ≤ s → s ≤ 1000000000000000000000000000000 → RI D' → Q (.int s) D') : d__law_size [.mr 1, .int a] D Q := by
  have ha := h.pos
  refine ⟨rfl, w_seq ?_⟩
  try simp
  refine sp_draw hD (by omega) (by omega) fun n D1 n0 n1 hD1 => ?_
  try simp
  have h1 : 1 ≤ a * (1 + n) ∧ a * (1 + n) ≤ 384 := by
    have : n = 0 ∨ n = 1 ∨ n = 2 ∨ n = 3 ∨ n = 4 ∨ n = 5 := by omega
    rcases this with rfl | rfl | rfl | rfl | rfl | rfl <;> omega
  generalize a * (1 + n) = near at h1
  refine ⟨by unfold CMul; omega, ?_⟩
  refine sp_draw hD1 (by omega) (by omega) fun lot D2 l0 l1 hD2 => ?_
  try simp
  refine w_seq (w_if ?_)
  try simp
  by_cases c1 : lot < 3
  · exact .inr ⟨c1, q _ _ h1.1 (by omega) hD2⟩
  refine .inl ⟨by omega, w_seq (w_if ?_)⟩
  try simp
  by_cases c2 : lot < 6
  · refine .inr ⟨c2, by simp [sizeLine_eq], ?_⟩
    refine sp_pick hD2 (by simp) (by simp) fun x D3 hx hD3 => ?_
    simp at hx
    have : ∃ v : Int, x = .int v ∧ -2 ≤ v ∧ v ≤ 3 := by
      rcases hx with rfl | rfl | rfl | rfl
      · exact ⟨-1, rfl, by omega, by omega⟩
      · exact ⟨1, rfl, by omega, by omega⟩
      · exact ⟨-2, rfl, by omega, by omega⟩
      · exact ⟨3, rfl, by omega, by omega⟩
    obtain ⟨v, rfl, v1, v2⟩ := this
    simp
    refine q _ _ ?_ ?_ hD3
    · split <;> omega
    · split <;> omega
  refine .inl ⟨by omega, w_seq (w_if ?_)⟩
  try simp
  by_cases c3 : lot < 8
  · refine .inr ⟨c3, ?_⟩
    refine sp_draw hD2 (by omega) (by omega) fun v D3 v0 v1 hD3 => ?_
    simp
    exact q _ _ (by omega) (by omega) hD3
  refine .inl ⟨by omega, w_seq ?_⟩
  simp [CPow]
  refine sp_draw hD2 (by omega) (by omega) fun v D3 v0 v1 hD3 => ?_
  try simp
  refine ⟨by unfold CMul; omega, w_seq ?_⟩
  simp [CDv, CPow]
  refine sp_draw hD3 (by omega) (by omega) fun z D4 z0 z1 hD4 => ?_
  try simp
  refine ⟨by unfold CMul; omega, by simp [sizeLine_eq], ?_⟩
  refine sp_pick hD4 (by simp) (by simp) fun x D5 hx hD5 => ?_
  have : ∃ v : Int, x = .int v := by
    simp at hx
    rcases hx with rfl | rfl | rfl | rfl | rfl <;> exact ⟨_, rfl⟩
  obtain ⟨o, rfl⟩ := this
  simp [CPow]
  refine q _ _ ?_ ?_ hD5
  · split <;> split <;> omega
  · split <;> split <;> omega
end Sh
set_option Elab.async false
set_option linter.all false
set_option maxRecDepth 100000
namespace Sh
open PySem PySem.Spec L2 L3
/-- a kind, as data -/
def kd (k : Int × Int) : PyData := .tuple [.int k.1, .int k.2]
def GK (k : Int × Int) : Prop := (1 ≤ k.1 ∧ k.1 ≤ 1000000000000000000000000000000) ∧ Al k.2
structure GB (K : List (Int × Int)) : Prop where
  ne : K ≠ []
  six : K.length ≤ 6
  ok : ∀ k ∈ K, GK k
theorem range_at {n i : Nat} {t : T} (h : (rangeT n)[i]? = some t) : i < n ∧ t = .int (i : Int) := by
  unfold rangeT at h
  rw [List.getElem?_map] at h
  rcases Nat.lt_or_ge i n with q | q
  · rw [List.getElem?_range q] at h
    cases h
    exact ⟨q, rfl⟩
  · rw [List.getElem?_eq_none (by rw [List.length_range]; exact q)] at h
    cases h
theorem range_len {n : Nat} : (rangeT n).length = n := by unfold rangeT; simp
theorem sp_book {D : List Cell} {many : Int} {Q : T → List Cell → Prop} (hD : RI D) (h1 : 1 ≤ many) (h2 : many ≤ 6) (q : ∀ K D', GB K → (K.length : Int) = many → RI D' → Q (.tup (K.map kd)) D') : d__law_book [.mr 1, .int many] D Q := by
  refine ⟨rfl, w_seq ?_⟩
  try simp
  refine w_seq (w_for ?_)
  try simp
  refine ⟨by omega, ?_⟩
  refine for_all (fun i τ M => ∃ K D' p st, M = ⟨D', [some (K.map kd)]⟩ ∧ RI D' ∧ K.length = i ∧ (∀ k ∈ K, GK k) ∧ τ = [some (.mr 1), some (.int many), some (.lr 0), p, st]) ⟨[], D, none, none, rfl, hD, rfl, by simp, rfl⟩ ?_ ?_
  · rintro i τ M t R ht ⟨K, D', p, st, rfl, hD', rfl, hK, rfl⟩ k
    obtain ⟨hi, rfl⟩ := range_at ht
    try simp
    refine w_seq ?_
    try simp [sizeLine_eq]
    refine sp_pick hD' (by simp) (by simp) fun x D1 hx hD1 => ?_
    have : ∃ a, x = .int a ∧ Al a := by
      simp at hx
      unfold Al
      rcases hx with rfl | rfl | rfl | rfl | rfl | rfl | rfl <;> exact ⟨_, rfl, by omega⟩
    obtain ⟨a, rfl, ha⟩ := this
    try simp
    refine w_seq ?_
    try simp
    refine sp_size hD1 ha fun s D2 s1 s2 hD2 => ?_
    have hKs : ∀ k ∈ K ++ [(s, a)], GK k := by
      intro k hk
      rcases List.mem_append.mp hk with z | z
      · exact hK k z
      · rw [List.mem_singleton] at z
        subst z
        exact ⟨⟨s1, s2⟩, ha⟩
    try simp [sizeLine_eq]
    refine ⟨by omega, ?_⟩
    have e1 : List.map kd K ++ [PyData.tuple [PyData.int s, PyData.int a]] = List.map kd (K ++ [(s, a)]) := by simp [kd]
    rw [e1]
    by_cases hk0 : 0 < K.length
    · refine .inr ⟨hk0, ?_⟩
      refine sp_draw hD2 (by omega) (by omega) fun z D3 z0 z1 hD3 => ?_
      try simp
      by_cases hz : z = 0
      · refine .inr ⟨hz, ?_⟩
        have hlt : K.length - 1 < K.length := by omega
        have e2 : atI (List.map kd K ++ [kd (s, a)]) ((K.length : Int) - 1) = some (kd K[K.length - 1]) := by
          have e3 : ((K.length : Int) - 1) = ((K.length - 1 : Nat) : Int) := by omega
          rw [e3]
          refine atI_nat ?_
          rw [List.getElem?_append_left (by simpa using hlt), List.getElem?_map, List.getElem?_eq_getElem hlt]
          rfl
        refine ⟨_, e2, K.length, ?_, ?_⟩
        · unfold ixN
          rw [if_pos (by omega), if_pos (by omega)]
          simp
        · have hmem : K[K.length - 1] ∈ K := List.getElem_mem hlt
          refine k _ _ ⟨K ++ [K[K.length - 1]], D3, _, _, ?_, hD3, by simp, ?_, rfl⟩
          · simp [List.set_append]
          · intro k hk
            rcases List.mem_append.mp hk with z | z
            · exact hK k z
            · rw [List.mem_singleton] at z
              rw [z]
              exact hK _ hmem
      · exact .inl ⟨hz, k _ _ ⟨K ++ [(s, a)], D3, _, _, by simp [kd], hD3, by simp, hKs, rfl⟩⟩
    · exact .inl ⟨by simpa using hk0, k _ _ ⟨K ++ [(s, a)], D2, _, _, by simp [kd], hD2, by simp, hKs, rfl⟩⟩
  · rintro τ M ⟨K, D', p, st, rfl, hD', hl, hK, rfl⟩
    rw [range_len] at hl
    try simp
    refine q K D' ⟨?_, by omega, hK⟩ (by omega) hD'
    intro z
    subst z
    simp at hl
    omega
end Sh
set_option Elab.async false
set_option linter.all false
set_option maxRecDepth 100000
namespace Sh
open PySem PySem.Spec L2 L3
def rup (n m : Int) : Int := (n + m - 1) / m * m
theorem rup_eq {n m : Int} (h : 0 < m) : n + (0 - n) % m = rup n m := by
  unfold rup
  have h1 : (n + m - 1) / m = -((0 - n) / m) := by
    have e := Int.mul_ediv_add_emod (0 - n) m
    have a := Int.emod_nonneg (0 - n) (show m ≠ 0 by omega)
    have b := Int.emod_lt_of_pos (0 - n) h
    refine Int.le_antisymm ?_ ?_
    · have : (n + m - 1) / m < -((0 - n) / m) + 1 := by
        rw [Int.ediv_lt_iff_lt_mul h, Int.add_mul, Int.neg_mul, Int.mul_comm ((0 - n) / m) m]
        omega
      omega
    · rw [Int.le_ediv_iff_mul_le h, Int.neg_mul, Int.mul_comm ((0 - n) / m) m]
      omega
  rw [h1]
  have e := Int.mul_ediv_add_emod (0 - n) m
  rw [Int.neg_mul, Int.mul_comm ((0 - n) / m) m]
  omega
theorem rup_le {n m : Int} (h : 0 < m) : n ≤ rup n m ∧ rup n m ≤ n + m - 1 := by
  rw [← rup_eq h]
  have a := Int.emod_nonneg (0 - n) (show m ≠ 0 by omega)
  have b := Int.emod_lt_of_pos (0 - n) h
  omega
abbrev Bk6 := List (Int × Int)
def kat (K : Bk6) (i : Nat) : Int × Int := K.getD i (1, 1)
def sfin (K : Bk6) (i : Nat) (e : Int) : Int := rup e (kat K i).2 + (kat K i).1
def rend (K : Bk6) : List Nat → Int → Int
  | [], e => e
  | i :: r, e => rend K r (sfin K i e)
theorem rend_snoc (K : Bk6) (i : Nat) : ∀ (r : List Nat) (e : Int), rend K (r ++ [i]) e = sfin K i (rend K r e)
  | [], e => rfl
  | j :: r, e => by
    show rend K (r ++ [i]) _ = _
    rw [rend_snoc K i r]
    rfl
def mx : List Int → Int
  | [] => 0
  | [x] => x
  | x :: y :: r => max x (mx (y :: r))
theorem mx_ge : ∀ {l : List Int} {x : Int}, x ∈ l → x ≤ mx l
  | [y], x, h => by
    rw [List.mem_singleton.mp h]
    exact Int.le_refl _
  | y :: z :: r, x, h => by
    unfold mx
    rcases List.mem_cons.mp h with q | q
    · rw [q]; omega
    · have := mx_ge q; omega
theorem mx_mem : ∀ {l : List Int}, l ≠ [] → mx l ∈ l
  | [y], _ => by simp [mx]
  | y :: z :: r, _ => by
    unfold mx
    have := mx_mem (l := z :: r) (by simp)
    rcases Int.le_total y (mx (z :: r)) with q | q
    · rw [Int.max_eq_right q]; exact List.mem_cons_of_mem _ this
    · rw [Int.max_eq_left q]; exact List.mem_cons_self
theorem mx_uniq {l : List Int} {m : Int} (h : m ∈ l) (g : ∀ y ∈ l, y ≤ m) : m = mx l := by
  have h1 := mx_ge h
  have h2 := g _ (mx_mem (l := l) (by intro z; rw [z] at h; cases h))
  omega
def als (K : Bk6) (r : List Nat) : List Int := r.map fun i => (kat K i).2
def bkD (K : Bk6) : PyData := .tuple (K.map kd)
def ix (i : Nat) : PyData := .int (i : Int)
def rowD (r : List Nat) : PyData := .tuple (r.map ix)
structure GR (K : Bk6) (r : List Nat) : Prop where
  ne : r ≠ []
  hd : r.length ≤ 100
  ok : ∀ i ∈ r, i < K.length
theorem kat_ok {K : Bk6} (g : GB K) {i : Nat} (h : i < K.length) : GK (kat K i) ∧ K[i]? = some (kat K i) := by
  unfold kat
  rw [List.getD_eq_getElem?_getD, List.getElem?_eq_getElem h]
  exact ⟨g.ok _ (List.getElem_mem h), rfl⟩
theorem at_book {K : Bk6} (g : GB K) {i : Nat} (h : i < K.length) : atI (K.map kd) (i : Int) = some (kd (kat K i)) := by
  refine atI_nat ?_
  rw [List.getElem?_map, (kat_ok g h).2]
  rfl
@[simp] theorem at_0 {x y : PyData} : atI [x, y] 0 = some x := rfl
@[simp] theorem at_1 {x y : PyData} : atI [x, y] 1 = some y := rfl
@[simp] theorem at_k0 {k : Int × Int} {M : Mem} {Q : Kt} : oIx (.d (kd k)) (.d (.int 0)) M Q = Q (.int k.1) M := by simp [kd]
@[simp] theorem at_k1 {k : Int × Int} {M : Mem} {Q : Kt} : oIx (.d (kd k)) (.d (.int 1)) M Q = Q (.int k.2) M := by simp [kd]
theorem sp_round_up {n m : Int} {D : List Cell} {Q : T → List Cell → Prop} (h1 : 0 < m) (h2 : m ≤ 64) (q : Q (.int (rup n m)) D) : d_round_up [.int n, .int m] D Q := by
  refine ⟨rfl, ?_⟩
  try simp
  exact ⟨by unfold CDv; omega, by unfold CMul; omega, q⟩
theorem sp_up {n m : Int} {D : List Cell} {Q : T → List Cell → Prop} (h1 : 0 < m) (h2 : m ≤ 64) (q : Q (.int (rup n m)) D) : d__law_up [.int n, .int m] D Q := by
  refine ⟨rfl, ?_⟩
  rw [← rup_eq h1] at q
  try simp
  exact ⟨h1, by simpa using q⟩
theorem sp_span {k : Int × Int} {e : Int} {D : List Cell} {Q : T → List Cell → Prop} (g : GK k) (q : Q (.tup [.int (rup e k.2), .int (rup e k.2 + k.1)]) D) : d_span_behind [.d (kd k), .int e] D Q := by
  have := g.2.pos
  refine ⟨rfl, w_seq ?_⟩
  simp [kd]
  refine w_seq ?_
  try simp
  refine sp_round_up (by omega) (by omega) ?_
  simp [sizeLine_eq]
  exact q
theorem row_at {r : List Nat} {i : Nat} {t : T} (h : ((r.map ix).map T.d)[i]? = some t) : ∃ j, r[i]? = some j ∧ t = .int (j : Int) ∧ i < r.length := by
  rw [List.getElem?_map, List.getElem?_map] at h
  cases q : r[i]? with
  | none => rw [q] at h; cases h
  | some j =>
    rw [q] at h
    cases h
    refine ⟨j, rfl, rfl, ?_⟩
    rcases Nat.lt_or_ge i r.length with z | z
    · exact z
    · rw [List.getElem?_eq_none z] at q; cases q
theorem take_snoc {α : Type} {r : List α} {i : Nat} {j : α} (h : r[i]? = some j) : r.take (i + 1) = r.take i ++ [j] := by
  rw [List.take_add_one, h]
  rfl
theorem sp_row_end {K : Bk6} {r : List Nat} {e : Int} {D : List Cell} {Q : T → List Cell → Prop} (g : GB K) (gr : GR K r) (q : Q (.int (rend K r e)) D) : d_row_end [.d (bkD K), .d (rowD r), .int e] D Q := by
  refine ⟨rfl, w_seq (w_for ?_)⟩
  simp [rowD]
  refine for_all (fun i τ M => M = ⟨D, []⟩ ∧ ∃ p w, τ = [some (.d (bkD K)), some (.tup (r.map ix)), some (.int (rend K (r.take i) e)), p, w]) ⟨rfl, _, _, rfl⟩ ?_ ?_
  · rintro i τ M t R ht ⟨rfl, p, w, rfl⟩ k
    rw [← List.map_map] at ht
    obtain ⟨j, hj, rfl, hi⟩ := row_at ht
    have jl := gr.ok j (List.mem_of_getElem? hj)
    simp [bkD]
    refine ⟨_, at_book g jl, ?_⟩
    try simp
    refine sp_span (kat_ok g jl).1 ?_
    try simp
    rw [take_snoc hj, rend_snoc] at k
    exact k _ _ ⟨rfl, _, _, rfl⟩
  · rintro τ M ⟨rfl, p, w, rfl⟩
    have : (List.map (T.d ∘ ix) r).length = r.length := by simp
    simp [this]
    exact q
theorem sz_row {K : Bk6} {r : List Nat} (gr : GR K r) : r.length ≤ sizeLine := sz64' (by have := gr.hd; omega)
theorem mapT (r : List Nat) : List.map (T.d ∘ ix) r = r.map fun (i : Nat) => T.int (i : Int) := rfl
/-- [book[place][1] for place in row], [book[place][0] ..] -/
theorem lc_al {K : Bk6} {r : List Nat} {M : Mem} {F : List PyData → Mem → Prop} (g : GB K) (gr : GR K r) {a : Option T} (q : F ((als K r).map .int) M) :
    goLc (gN 2) bYes (mOp oIx (mOp oIx (mVar 0) (mVar 2)) (mC (.int 1))) [some (.d (bkD K)), a, none] F (r.map fun (i : Nat) => T.int (i : Int)) [] M := by
  refine lc_pure (fun i => .int (kat K i).2) (sz_row gr) (fun i acc R hi ha hr => ?_) ?_
  · simp [bkD]
    refine ⟨_, at_book g (gr.ok i hi), ?_⟩
    try simp
    exact ⟨ha, hr⟩
  · unfold als at q
    rw [List.map_map] at q
    exact q
theorem f_max {ns : List Int} {M : Mem} {Q : Kt} (h : ns ≠ []) (q : Q (.int (mx ns)) M) : fMax [.lst (ns.map .int)] M Q := by
  have e : nowI (.lst (ns.map .int)) M = some ns := by
    show intsOf (ns.map .int) = some ns
    exact intsOf_map ns
  show (match nowI (.lst (ns.map .int)) M with
    | some ns => 0 < ns.length ∧ ∀ m, m ∈ ns → (∀ y, y ∈ ns → y ≤ m) → Q (.int m) M
    | none => False)
  rw [e]
  exact ⟨List.length_pos_iff.mpr h, fun m h1 h2 => by rw [mx_uniq h1 h2]; exact q⟩
theorem als_ne {K : Bk6} {r : List Nat} (gr : GR K r) : als K r ≠ [] := by
  unfold als
  intro z
  exact gr.ne (List.map_eq_nil_iff.mp z)
theorem als_al {K : Bk6} {r : List Nat} (g : GB K) (gr : GR K r) : Al (mx (als K r)) := by
  have h := mx_mem (als_ne gr)
  unfold als at h ⊢
  obtain ⟨i, h1, h2⟩ := List.mem_map.mp h
  rw [← h2]
  exact (kat_ok g (gr.ok i h1)).1.2
theorem sp_gal {K : Bk6} {r : List Nat} {D : List Cell} {Q : T → List Cell → Prop} (g : GB K) (gr : GR K r) (q : Q (.int (mx (als K r))) D) : d_greatest_alignment [.d (bkD K), .d (rowD r)] D Q := by
  refine ⟨rfl, ?_⟩
  simp only [x_ret, x_call, x_acons, x_anil, x_lc, x_iseq, x_var]
  simp [rowD, wipeT, mapT]
  exact lc_al g gr (f_max (als_ne gr) ⟨rfl, q⟩)
def whole (K : Bk6) (r : List Nat) : Int := rup (rend K r 0) (mx (als K r))
theorem sp_row_whole {K : Bk6} {r : List Nat} {D : List Cell} {Q : T → List Cell → Prop} (g : GB K) (gr : GR K r) (q : Q (.int (whole K r)) D) : d_row_whole [.d (bkD K), .d (rowD r)] D Q := by
  have := (als_al g gr).pos
  refine ⟨rfl, ?_⟩
  simp
  refine sp_row_end g gr ?_
  simp
  refine sp_gal g gr ?_
  simp
  exact sp_round_up (by omega) (by omega) ⟨rfl, q⟩
end Sh
set_option Elab.async false
set_option linter.all false
set_option maxRecDepth 100000
namespace Sh
open PySem PySem.Spec L2 L3
structure Sw (w k : Nat) (d : PyData) : Prop where
  sh : d.showable = true
  nd : d.hasDict = false
  ls : d.leavesShort 62 = true
  wt : d.weight ≤ w
  dp : d.depth ≤ k
structure SwA (w k : Nat) (d : List PyData) : Prop where
  sh : PyData.showableAll d = true
  nd : PyData.hasDictAll d = false
  ls : PyData.leavesShortAll 62 d = true
  wt : PyData.weightAll d ≤ w
  dp : PyData.depthAll d ≤ k
theorem Sw.mono {w k w' k' : Nat} {d : PyData} (h : Sw w k d) (hw : w ≤ w') (hk : k ≤ k') : Sw w' k' d := ⟨h.sh, h.nd, h.ls, Nat.le_trans h.wt hw, Nat.le_trans h.dp hk⟩
theorem SwA.mono {w k w' k' : Nat} {d : List PyData} (h : SwA w k d) (hw : w ≤ w') (hk : k ≤ k') : SwA w' k' d := ⟨h.sh, h.nd, h.ls, Nat.le_trans h.wt hw, Nat.le_trans h.dp hk⟩
theorem sw_int {i : Int} (h : i.natAbs < 10 ^ 60) : Sw 200 0 (.int i) := by
  have h1 : i.natAbs < 2 ^ 200 := Nat.lt_trans h (by decide)
  have h2 : i.natAbs.log2 < 200 := by
    by_cases z : i.natAbs = 0
    · rw [z]; decide
    · exact (Nat.log2_lt z).mpr h1
  refine ⟨?_, by simp [PyData.hasDict], ?_, ?_, by simp [PyData.depth]⟩
  · simp only [PyData.showable]
    exact decide_eq_true (by omega)
  · have e := int_text_length_le10 (k := 60) (by decide) h
    simp only [PyData.leavesShort]
    refine decide_eq_true ?_
    show (Str.ofString (toString i)).length ≤ 62
    rw [ofString_length]
    omega
  · simp only [PyData.weight]
    split <;> omega
theorem sw_nil : SwA 0 0 [] := ⟨by simp [PyData.showableAll], by simp [PyData.hasDictAll], by simp [PyData.leavesShortAll], by simp [PyData.weightAll], by simp [PyData.depthAll]⟩
theorem sw_cons {w w' k : Nat} {x : PyData} {l : List PyData} (h : Sw w k x) (g : SwA w' k l) : SwA (w + 1 + w') k (x :: l) := by
  refine ⟨by simp [PyData.showableAll, h.sh, g.sh], by simp [PyData.hasDictAll, h.nd, g.nd], by simp [PyData.leavesShortAll, h.ls, g.ls], ?_, ?_⟩
  · have := h.wt
    have := g.wt
    simp only [PyData.weightAll]
    omega
  · have := h.dp
    have := g.dp
    simp only [PyData.depthAll]
    omega
theorem sw_one {w k : Nat} {x : PyData} (h : Sw w k x) : SwA (w + 1) k [x] := (sw_cons h (sw_nil.mono (Nat.le_refl _) (Nat.zero_le _))).mono (by omega) (Nat.le_refl _)
theorem sw_all {w k : Nat} : ∀ {l : List PyData}, (∀ x ∈ l, Sw w k x) → SwA (l.length * (w + 1)) k l
  | [], _ => sw_nil.mono (by omega) (Nat.zero_le _)
  | x :: l, h => (sw_cons (h x List.mem_cons_self) (sw_all fun y hy => h y (List.mem_cons_of_mem _ hy))).mono (by rw [List.length_cons, Nat.succ_mul]; omega) (Nat.le_refl _)
theorem sw_map {α : Type} {w k : Nat} {l : List α} {f : α → PyData} (h : ∀ x ∈ l, Sw w k (f x)) : SwA (l.length * (w + 1)) k (l.map f) := by
  have := sw_all (w := w) (k := k) (l := l.map f) fun y hy => by
    obtain ⟨x, hx, rfl⟩ := List.mem_map.mp hy
    exact h x hx
  rw [List.length_map] at this
  exact this
theorem sw_list {w k : Nat} {l : List PyData} (h : SwA w k l) : Sw w (k + 1) (.list l) :=
  ⟨by simp [PyData.showable, h.sh], by simp [PyData.hasDict, h.nd], by simp [PyData.leavesShort, h.ls], by simp only [PyData.weight]; exact h.wt, by simp only [PyData.depth]; have := h.dp; omega⟩
theorem sw_tup {w k : Nat} {l : List PyData} (h : SwA w k l) : Sw w (k + 1) (.tuple l) :=
  ⟨by simp [PyData.showable, h.sh], by simp [PyData.hasDict, h.nd], by simp [PyData.leavesShort, h.ls], by simp only [PyData.weight]; exact h.wt, by simp only [PyData.depth]; have := h.dp; omega⟩
theorem Sw.ok {w k : Nat} {d : PyData} (h : Sw w k d) (hw : w ≤ 200000) (hk : k ≤ 100) : OkShow d := by
  refine ⟨h.sh, h.nd, Nat.le_trans h.dp hk, ?_⟩
  have := PyData.shown_le 62 (by omega) d h.ls
  have := h.wt
  rw [sizeLine_eq]
  have : (62 + 2) * d.weight ≤ 64 * 200000 := Nat.mul_le_mul (by omega) (by omega)
  omega
theorem sw_kd {k : Int × Int} (g : GK k) : Sw 402 1 (kd k) := by
  have h1 := g.1
  have h2 := g.2.pos
  exact (sw_tup (sw_cons (sw_int (i := k.1) (by omega)) (sw_one (sw_int (i := k.2) (by omega))))).mono (by omega) (by omega)
theorem sw_bk {K : Bk6} (g : GB K) : Sw 2418 2 (bkD K) :=
  (sw_tup (sw_map fun k hk => sw_kd (g.ok k hk))).mono (by have := g.six; omega) (by omega)
theorem sw_row {K : Bk6} {r : List Nat} (g : GB K) (gr : GR K r) : Sw 20100 1 (rowD r) :=
  (sw_tup (sw_map (l := r) (f := ix) fun i hi => sw_int (i := (i : Int)) (by have := gr.ok i hi; have := g.six; omega))).mono (by have := gr.hd; omega) (by omega)
theorem rend_le {K : Bk6} (g : GB K) : ∀ {r : List Nat} {e : Int}, (∀ i ∈ r, i < K.length) → 0 ≤ e → e ≤ rend K r e ∧ rend K r e ≤ e + r.length * 1000000000000000000000000000064
  | [], e, _, h0 => by simp [rend]
  | i :: r, e, h, h0 => by
    have hk := (kat_ok g (h i List.mem_cons_self)).1
    have hp := hk.2.pos
    have h1 := hk.1
    have h2 := rup_le (n := e) (m := (kat K i).2) (by omega)
    have ih := rend_le g (r := r) (e := sfin K i e) (fun j hj => h j (List.mem_cons_of_mem _ hj)) (by unfold sfin; omega)
    unfold sfin at ih
    show e ≤ rend K r (sfin K i e) ∧ rend K r (sfin K i e) ≤ _
    unfold sfin
    rw [List.length_cons]
    omega
theorem whole_le {K : Bk6} {r : List Nat} (g : GB K) (gr : GR K r) : 0 ≤ whole K r ∧ whole K r ≤ 100000000000000000000000000006500 := by
  have h := rend_le g gr.ok (Int.le_refl 0)
  have ha := (als_al g gr).pos
  have h2 := rup_le (n := rend K r 0) (m := mx (als K r)) (by omega)
  have hr := gr.hd
  unfold whole
  omega
end Sh
set_option Elab.async false
set_option linter.all false
set_option maxRecDepth 100000
namespace Sh
open PySem PySem.Spec L2 L3
theorem cut_to {α : Type} {l : List α} {p : Nat} (h : p ≤ l.length) : cutT l none (some (p : Int)) = l.take p := by
  unfold cutT
  have h1 : HT.sIx l.length 0 none = 0 := rfl
  have h2 : HT.sIx l.length l.length (some (p : Int)) = p := by
    show (if (p : Int) < 0 then ((p : Int) + (l.length : Int)).toNat else min (p : Int).toNat l.length) = p
    rw [if_neg (by omega)]
    omega
  rw [h1, h2]
  simp
theorem cut_from {α : Type} {l : List α} {p : Nat} (h : p ≤ l.length) : cutT l (some (p : Int)) none = l.drop p := by
  unfold cutT
  have h1 : HT.sIx l.length 0 (some (p : Int)) = p := by
    show (if (p : Int) < 0 then ((p : Int) + (l.length : Int)).toNat else min (p : Int).toNat l.length) = p
    rw [if_neg (by omega)]
    omega
  have h2 : HT.sIx l.length l.length none = l.length := rfl
  rw [h1, h2, ← List.length_drop, List.take_length]
end Sh
set_option Elab.async false
set_option linter.all false
set_option maxRecDepth 100000
namespace Sh
open PySem PySem.Spec L2 L3
def rm (K : Bk6) (i : Nat) : Int := rup (kat K i).1 (kat K i).2
def num (N : List Int) (i : Nat) : Int := N.getD i 0
def tot (K : Bk6) (N : List Int) : Int := ((List.range K.length).map fun i => num N i * rm K i).sum
def thr (K : Bk6) (N : List Int) : List Nat := (List.range K.length).filter fun i => decide (0 < num N i)
def due (K : Bk6) (N : List Int) : Int := rup (tot K N) (mx (als K (thr K N)))
def recD (N : List Int) : PyData := .tuple (N.map .int)
structure GN (K : Bk6) (N : List Int) : Prop where
  len : N.length = K.length
  ok : ∀ n ∈ N, 0 ≤ n ∧ n ≤ 1000000000000000000000000000000
  pos : ∃ n ∈ N, 0 < n
theorem num_at {N : List Int} {i : Nat} (h : i < N.length) : num N i = N[i] := by
  unfold num
  rw [List.getD_eq_getElem?_getD, List.getElem?_eq_getElem h]
  rfl
theorem GN.gr {K : Bk6} {N : List Int} (g : GN K N) (gb : GB K) : GR K (thr K N) := by
  refine ⟨?_, ?_, fun i hi => ?_⟩
  · obtain ⟨n, hn, h0⟩ := g.pos
    obtain ⟨i, hi, e⟩ := List.getElem_of_mem hn
    intro z
    have h1 := List.filter_eq_nil_iff.mp z i (List.mem_range.mpr (by rw [← g.len]; exact hi))
    rw [num_at hi, e] at h1
    exact h1 (decide_eq_true h0)
  · have h1 := List.length_filter_le (fun i => decide (0 < num N i)) (List.range K.length)
    rw [List.length_range] at h1
    have := gb.six
    unfold thr
    omega
  · exact List.mem_range.mp (List.mem_filter.mp hi).1
theorem sw_int61 {i : Int} (h : i.natAbs < 10 ^ 61) : Sw 300 0 (.int i) := by
  have h1 : i.natAbs < 2 ^ 203 := Nat.lt_trans h (by decide)
  have h2 : i.natAbs.log2 < 203 := by
    by_cases z : i.natAbs = 0
    · rw [z]; decide
    · exact (Nat.log2_lt z).mpr h1
  refine ⟨?_, by simp [PyData.hasDict], ?_, ?_, by simp [PyData.depth]⟩
  · simp only [PyData.showable]
    exact decide_eq_true (by omega)
  · have e := int_text_length_le10 (k := 61) (by decide) h
    simp only [PyData.leavesShort]
    refine decide_eq_true ?_
    show (Str.ofString (toString i)).length ≤ 62
    rw [ofString_length]
    omega
  · simp only [PyData.weight]
    split <;> omega
theorem rec_sw {K : Bk6} {N : List Int} (g : GB K) (gn : GN K N) : Sw 1806 1 (recD N) :=
  (sw_tup (sw_map (l := N) (f := PyData.int) fun n hn => sw_int61 (by have := gn.ok n hn; omega))).mono (by have := gn.len; have := g.six; omega) (by omega)
theorem thr_mem {K : Bk6} {N : List Int} {i : Nat} : i ∈ thr K N ↔ i < K.length ∧ 0 < num N i := by
  unfold thr
  rw [List.mem_filter, List.mem_range, decide_eq_true_iff]
end Sh
set_option Elab.async false
set_option linter.all false
set_option maxRecDepth 100000
namespace Sh
open PySem PySem.Spec L2 L3
def lowN (n : Nat) : Nat := n - (n &&& (n - 1))
end Sh
namespace L3
open PySem PySem.Spec L2 PyProof.Rows
def oRepA : F2 := fun x y M Q => match x, y with
  | .d (.tuple xs), .d (.int j) => (xs ≠ [] ∧ 1 ≤ j ∧ j ≤ 1000 ∧ xs.length ≤ 1000) ∧ Q (.tup (List.replicate j.toNat xs).flatten) M
  | _, _ => False
@[simp] theorem x_repA {xs : List PyData} {j : Int} {M : Mem} {Q : Kt} : oRepA (.d (.tuple xs)) (.d (.int j)) M Q = ((xs ≠ [] ∧ 1 ≤ j ∧ j ≤ 1000 ∧ xs.length ≤ 1000) ∧ Q (.tup (List.replicate j.toNat xs).flatten) M) := rfl
end L3
set_option Elab.async false
set_option linter.all false
set_option maxRecDepth 100000
namespace L3
open PySem PySem.Spec L2
section
variable {X : Cx} {e tg : Expr} {m : Me} {pos : Pos} {elt : Expr} {ifs : List Expr} {scope : Scope} {own : List (Str × Nat)} {i : Mi} {g : Mg} {os : List Nat} {mc : Mb}
theorem me_lcD (hc : X.calm = true) (hN : X.N.Nodup) (hi : MI X tg e i) (ok : BlkOk X.N X.env.scope scope own)
    (hg : ∀ (s : Shared) (H : Hp) (C : Addr) (cl : List (Str × Addr)) (fp : List Addr), MG (X.blk s H scope (compEnvC scope cl C X.env) fp) tg os g) (ht : ∀ (s : Shared) (H : Hp) (C : Addr) (cl : List (Str × Addr)) (fp : List Addr), MTs (X.blk s H scope (compEnvC scope cl C X.env) fp) ifs mc)
    (he : ∀ (s : Shared) (H : Hp) (C : Addr) (cl : List (Str × Addr)) (fp : List Addr), ME (X.blk s H scope (compEnvC scope cl C X.env) fp) elt m) (sub : ∀ j ∈ os, j ∈ own.map (·.2)) (hs : ∀ x, foldedSetIterable e X.env x = pure x := by intro _; rfl) :
    ME X (.ListComp elt [⟨tg, e, ifs, 0⟩] scope pos) (mLcD i g mc m (own.map (·.2))) := PE.of (pe_lc (te := rE X.K m) (tt := rB X.K mc) (g := rG X.K os g) hc hN hi ok hg ht he hs) fun _ _ _ h => lc_ofD sub h
end
theorem paired_eraseIdx {F : V → T → Prop} : ∀ {xs : List V} {ts : List T} (n : Nat), Paired F xs ts → Paired F (xs.eraseIdx n) (ts.eraseIdx n)
  | _, _, _, .nil => .nil
  | _, _, 0, .cons _ q => q
  | _, _, n + 1, .cons p q => .cons p (paired_eraseIdx n q)
def fPopD (x : T) : FA := fun ts M Q => match x, ts with
  | .mr i, [.d (.int j)] => (match M.D[i]? with
    | some (.lst us) => (0 ≤ j ∧ j < 2 ^ 63 ∧ j.toNat < us.length) ∧ ∀ z, us[j.toNat]? = some z → Q z { M with D := M.D.set i (.lst (us.eraseIdx j.toNat)) }
    | _ => False)
  | _, _ => False
theorem mel_popD {K : PySem.W.Frag} : MeL K rPopAt fPopD := by
  intro x xs t ts M B H Q Q' h w rx rs k
  unfold fPopD at h
  split at h
  · rename_i i j
    split at h
    · rename_i us hD
      obtain ⟨v, rfl, r1⟩ := paired_one rs
      cases (show Rp K B.G v (.int j) from r1)
      obtain ⟨a, rfl, ha⟩ := rx
      obtain ⟨_, vs, e, q⟩ := w.dc _ _ _ ha hD
      obtain ⟨⟨h1, h2, h3⟩, hQ⟩ := h
      have hz : us[j.toNat]? = some us[j.toNat] := List.getElem?_eq_getElem h3
      obtain ⟨u, g1, g2⟩ := paired_get q hz
      refine ⟨a, vs, j, j.toNat, u, rfl, rfl, e, by omega, h2, ?_, g1, ?_⟩
      · unfold seqIndex?
        rw [paired_len q]
        have c1 : ¬ j < 0 := by omega
        simp only [c1, if_false]
        rw [if_pos (by simp; omega)]
      · obtain ⟨w2, e2⟩ := w.setD ha hD (o := .lst (vs.eraseIdx j.toNat)) (c := .lst (us.eraseIdx j.toNat)) fun H' eH => ⟨_, eH, paired_eraseIdx _ q⟩
        exact k _ _ _ _ _ (hQ _ hz) w2 e2 g2.undeck
    · exact h.elim
  · exact h.elim
def fInsD (x : T) : FA := fun ts M Q => match x, ts with
  | .mr i, [.d (.int j), t] => (match M.D[i]? with
    | some (.lst us) => (noL t = true ∧ us.length < sizeLine ∧ 0 ≤ j ∧ j < 2 ^ 63) ∧ Q .non { M with D := M.D.set i (.lst (us.take j.toNat ++ [t] ++ us.drop j.toNat)) }
    | _ => False)
  | _, _ => False
section
variable {X : Cx}
theorem me_popD {mo : Me} {mr : Ma} {o x : Expr} {apos cpos : Pos} (ho : ME X o mo) (ha : MA X [x] mr) (hbase : attributeBase o "pop" X.env (eval o X.env) = eval o X.env := by rfl)
    (hfew : ((backTo cpos (starEach [x] X.env)).all (fun x => !x.1) && (backToKw cpos (keywordEach [] X.env)).all (fun x => x.1.isSome) && decide (([x] : List Expr).length + ([] : List Keyword).length + (if ([] : List Keyword).isEmpty then 0 else 1) < 30)) = true := by rfl)
    (hline : (apos.endLine == cpos.line) = true := by rfl) (hs : starEach [x] X.env = (false, eval x X.env) :: starEach [] X.env := by rfl) : ME X (.Call (.Attribute o "pop" apos) [x] [] cpos) (mMeth fPopD mo mr) :=
  me_lm PySem.F.plainAttrs_list PySem.F.slot_list_pop PySem.F.type_list_pop mt_popAt mel_popD ho ha hbase hfew hline hs rfl
end
section
variable {i : Nat} {M : Mem} {Q : Kt} {D : List Cell}
@[simp] theorem x_popDj {j : Int} : fPopD (.mr i) [.d (.int j)] M Q = (match M.D[i]? with
    | some (.lst us) => (0 ≤ j ∧ j < 2 ^ 63 ∧ j.toNat < us.length) ∧ ∀ z, us[j.toNat]? = some z → Q z { M with D := M.D.set i (.lst (us.eraseIdx j.toNat)) }
    | _ => False) := rfl
@[simp] theorem x_insDj {j : Int} {t : T} : fInsD (.mr i) [.d (.int j), t] M Q = (match M.D[i]? with
    | some (.lst us) => (noL t = true ∧ us.length < sizeLine ∧ 0 ≤ j ∧ j < 2 ^ 63) ∧ Q .non { M with D := M.D.set i (.lst (us.take j.toNat ++ [t] ++ us.drop j.toNat)) }
    | _ => False) := rfl
end
section
variable {τ : En} {M : Mem} {E : Es} {d k v : Me} {r : Ma} {Q : Kt}
@[simp] theorem x_lputD : mLPutD d k v E τ M = v τ M fun t M1 => d τ M1 fun x M2 => k τ M2 fun y M3 => match x, y with
  | .mr i, .d (.int j) => (match M3.D[i]? with
    | some (.lst ds) => noL t = true ∧ ∃ n, ixN ds.length j = some n ∧ E.nx τ { M3 with D := M3.D.set i (.lst (ds.set n t)) }
    | _ => False)
  | _, _ => False := rfl
@[simp] theorem x_newD : mNewD r τ M Q = r τ M fun ts M1 => ((∀ t ∈ ts, noL t = true) ∧ ts.length ≤ sizeLine) ∧ Q (.mr M1.D.length) { M1 with D := M1.D ++ [.lst ts] } := rfl
end
def CDvW (i j : Int) : Prop := 0 < j ∧ j.natAbs < 2 ^ 300
def oDivW : F2 := oI CDvW fun i j => .int (i / j)
@[simp] theorem x_divW {i j : Int} {M : Mem} {Q : Kt} : oDivW (.d (.int i)) (.d (.int j)) M Q = (CDvW i j ∧ Q (.int (i / j)) M) := rfl
def mAugI (f : Int → Int → Int) (i : Nat) (m : Me) : Ms := fun E τ M => ∃ t, τ[i]? = some (some t) ∧ m τ M fun u M1 => match t, u with
  | .d (.int a), .d (.int b) => E.nx (τ.set i (some (.int (f a b)))) M1
  | _, _ => False
section
variable {X : Cx} {e : Expr} {m : Me} {pos pos' : Pos} {i : Nat} {x : Str}
end
@[simp] theorem x_augI {f : Int → Int → Int} {i : Nat} {m : Me} {E : Es} {τ : En} {M : Mem} : mAugI f i m E τ M = ∃ t, τ[i]? = some (some t) ∧ m τ M fun u M1 => match t, u with
  | .d (.int a), .d (.int b) => E.nx (τ.set i (some (.int (f a b)))) M1
  | _, _ => False := rfl
def rangeT2 (lo : Int) (n : Nat) : List T := (List.range n).map fun (i : Nat) => T.int (lo + (i : Int))
def iRange2 (r : Ma) : Mi := fun τ M Q => r τ M fun ts M1 => match ts with
  | [.d (.int i), .d (.int j)] => (-(2 ^ 62) ≤ i ∧ i < 2 ^ 62 ∧ -(2 ^ 62) ≤ j ∧ j < 2 ^ 62) ∧ Q (rangeT2 i (j - i).toNat) M1
  | _ => False
@[simp] theorem x_irange2 {a : Ma} {τ : En} {M : Mem} {R : List T → Mem → Prop} : iRange2 a τ M R = a τ M fun ts M1 => match ts with
  | [.d (.int i), .d (.int j)] => (-(2 ^ 62) ≤ i ∧ i < 2 ^ 62 ∧ -(2 ^ 62) ≤ j ∧ j < 2 ^ 62) ∧ R (rangeT2 i (j - i).toNat) M1
  | _ => False := rfl
end L3
set_option Elab.async false
set_option linter.all false
set_option maxRecDepth 100000
namespace L3
open PySem PySem.Spec L2
def rgD (n : Int) : List PyData := (List.range n.toNat).map fun (i : Nat) => .int (i : Int)
def mListR (m : Me) : Me := fun τ M Q => m τ M fun t M1 => match t with
  | .d (.int n) => (0 ≤ n ∧ n ≤ 16777216) ∧ Q (.lst (rgD n)) M1
  | _ => False
@[simp] theorem x_listR {m : Me} {τ : En} {M : Mem} {Q : Kt} : mListR m τ M Q = m τ M fun t M1 => match t with
  | .d (.int n) => (0 ≤ n ∧ n ≤ 16777216) ∧ Q (.lst (rgD n)) M1
  | _ => False := rfl
section
open PyProof.Rows
variable {prog : Program} {w : World} {A : Around} {E : Value → Shared → Prop} {s : Shared} {l : Addr}
end
section
variable {X : Cx} {e : Expr} {es : List Expr} {mr : Ma} {p pos : Pos}
end
end L3
set_option Elab.async false
set_option linter.all false
set_option maxRecDepth 100000
namespace L3
open PySem PySem.Spec L2
def oAddL : F2 := fun x y M Q => match x, y with
  | .d (.list a), .d (.list b) => a.length + b.length ≤ sizeLine ∧ Q (.lr M.L.length) { M with L := M.L ++ [some (a ++ b)] }
  | _, _ => False
theorem opl_addL {K : PySem.W.Frag} : OpL K rCat oAddL := by
  intro x y t u M B H Q Q' h w rx ry k
  unfold oAddL at h
  split at h
  · cases rx with
    | lst e1 q1 =>
      cases ry with
      | lst e2 q2 =>
        refine ⟨_, _, _, _, rfl, rfl, w.le _ _ e1, w.le _ _ e2, ?_, fun p hp => ?_⟩
        · rw [RpA.length q1, RpA.length q2]
          exact h.1
        · obtain ⟨w2, e2⟩ := w.newL hp (RpA.append q1 q2)
          exact k _ _ _ _ _ h.2 w2 e2 ⟨p, rfl, by rw [← w.llen]; exact get_snoc⟩
  · exact h.elim
theorem me_addL {X : Cx} {a b : Expr} {ma mb : Me} {pos : Pos} (ha : ME X a ma) (hb : ME X b mb) : ME X (.BinOp a .Add b pos) (mOp oAddL ma mb) := me_op op_cat opl_addL ha hb
@[simp] theorem x_addL {a b : List PyData} {M : Mem} {Q : Kt} : oAddL (.d (.list a)) (.d (.list b)) M Q = (a.length + b.length ≤ sizeLine ∧ Q (.lr M.L.length) { M with L := M.L ++ [some (a ++ b)] }) := rfl
end L3
set_option Elab.async false
set_option linter.all false
set_option maxRecDepth 100000
namespace L3
open PySem PySem.Spec L2 PyProof.Rows
def oRepZ : F2 := fun x y M Q => match x, y with
  | .d (.tuple xs), .d (.int j) => (xs ≠ [] ∧ 0 ≤ j ∧ j ≤ 1000 ∧ xs.length ≤ 1000) ∧ Q (.tup (List.replicate j.toNat xs).flatten) M
  | _, _ => False
@[simp] theorem x_repZ {xs : List PyData} {j : Int} {M : Mem} {Q : Kt} : oRepZ (.d (.tuple xs)) (.d (.int j)) M Q = ((xs ≠ [] ∧ 0 ≤ j ∧ j ≤ 1000 ∧ xs.length ≤ 1000) ∧ Q (.tup (List.replicate j.toNat xs).flatten) M) := rfl
end L3
set_option Elab.async false
set_option linter.all false
set_option maxRecDepth 100000
namespace L3
open PySem PySem.Spec L2
def mDead : Ms := fun _ _ _ => False
@[simp] theorem x_dead {E : Es} {τ : En} {M : Mem} : mDead E τ M = False := rfl
theorem me_gl {X : Cx} {x : Str} {pos : Pos} {d : PyData} (hg : Gl X x) (h : ∃ u v, X.mg x = some u ∧ RelV v u ∧ ∀ G, Rp X.K G v d) (hdb : (x == ("__debug__" : Str)) = false := by decide) : ME X (.Name x pos) (mC d) := by
  obtain ⟨u, v, h1, h2, h3⟩ := h
  exact PE.of (pe_glob hg h1 h2 hdb) fun σ H Q' ⟨τ, M, B, Q, q, w, s, k⟩ => k v (.d d) M B H q w (.refl _ _) (h3 _)
def tyN : PyData → Option String
  | .none => some "NoneType"
  | .bool _ => some "bool"
  | .int _ => some "int"
  | .str _ => some "str"
  | .list _ => some "list"
  | .tuple _ => some "tuple"
  | _ => none
def mIsi (T0 : String) (m : Me) : Me := fun τ M Q => m τ M fun t M1 => match t with
  | .d x => ∃ a r, tyN x = some a ∧ kitB a T0 = some r ∧ Q (.bl r) M1
  | _ => False
theorem tyX_of {K : PySem.W.Frag} {G H : Hp} (le : ∀ a o, G a = some o → H a = some o) {v : V} {x : PyData} {a : String} (r : Rp K G v x) (e : tyN x = some a) : TyX K H v (.type a) := by
  cases r with
  | non => cases e; exact .base .non
  | bl b => cases e; exact .base (.bl b)
  | int i => cases e; exact .base (.int i)
  | str s => cases e; exact .base (.str s)
  | lst g _ => cases e; exact .base (.lst (le _ _ g))
  | tup g _ =>
    cases e
    rcases g with ⟨o, g, _⟩ | ⟨o, its, n, g1, g2, _⟩
    · exact .fTuple (le _ _ g)
    · exact .kTuple g1 g2
theorem me_isi {X : Cx} {e : Expr} {ty : Str} {T0 : String} {p p2 pos : Pos} {m : Me} (hg : Gl X "isinstance") (hm : X.mg "isinstance" = none) (hg2 : Gl X ty) (hm2 : X.mg ty = none) (hb2 : bootBuiltins ty = some (.type T0)) (ha : ME X e m) (hn2 : ty ≠ "__name__" := by decide) (hd2 : (ty == ("__debug__" : Str)) = false := by decide)
    (hs1 : starEach [e, .Name ty p2] X.env = (false, eval e X.env) :: starEach [.Name ty p2] X.env := by rfl) (hs2 : starEach [.Name ty p2] X.env = (false, eval (.Name ty p2) X.env) :: starEach [] X.env := by rfl) (hpl : (backTo pos (starEach [.Name ty p2] X.env)).any (·.1) = false := by rfl) :
    ME X (.Call (.Name "isinstance" p) [e, .Name ty p2] [] pos) (mIsi T0 m) := by
  refine PE.of (pe_callB call_isi hg hm (by decide +kernel) (pa_cons ha (pa_cons (pe_bltn (v := V.ty T0) hg2 hm2 hb2 rfl hn2 hd2) pa_nil hs2) hs1) (by decide) (by decide) hs1 hpl) fun σ H Q' ⟨τ, M, B, Q, h, w, s, k⟩ => ?_
  refine ⟨τ, M, B, _, h, w, s, fun v t M1 B1 H1 h1 w1 e1 r1 => ?_⟩
  split at h1
  · rename_i x
    obtain ⟨a, r, h2, h3, h4⟩ := h1
    refine ⟨v, V.ty T0, .type a, .type T0, r, rfl, .ty T0, tyX_of w1.le r1 h2, kit_ty h3, ?_⟩
    exact k _ _ M1 B1 H1 h4 w1 e1 (.bl r)
  · exact h1.elim
@[simp] theorem x_isi {T0 : String} {m : Me} {τ : En} {M : Mem} {Q : Kt} : mIsi T0 m τ M Q = m τ M fun t M1 => match t with
  | .d x => ∃ a r, tyN x = some a ∧ kitB a T0 = some r ∧ Q (.bl r) M1
  | _ => False := rfl
def mSm (f : Str → FA) (o : Me) (r : Ma) : Me := fun τ M Q => o τ M fun x M1 => match x with
  | .d (.str a) => r τ M1 fun ts M2 => f a ts M2 Q
  | _ => False
section
variable {X : Cx} {o e : Expr} {es : List Expr} {mo m : Me} {mr : Ma} {name : Str} {id : String} {apos cpos : Pos} {r : V → List V → Hp → VK → Prop} {f : Str → FA}
end
section
variable {X : Cx} {o x : Expr} {mo : Me} {mr : Ma} {apos cpos : Pos}
end
@[simp] theorem x_sm {f : Str → FA} {o : Me} {r : Ma} {τ : En} {M : Mem} {Q : Kt} : mSm f o r τ M Q = o τ M fun x M1 => match x with
  | .d (.str a) => r τ M1 fun ts M2 => f a ts M2 Q
  | _ => False := rfl
section
variable {X : Cx} {e : Expr} {es : List Expr} {mr : Ma} {p pos : Pos}
end
end L3
set_option Elab.async false
set_option linter.all false
set_option maxRecDepth 100000
namespace L3
open PySem PySem.Spec L2
theorem rpa_ints' {K : PySem.W.Frag} {G : Hp} : ∀ {is : List Int} {vs : List V}, RpA K G vs (is.map .int) → vs = is.map V.int
  | [], _, .nil => rfl
  | _ :: _, _, .cons p q => by
    cases p
    rw [rpa_ints' q]
    rfl
section
variable {X : Cx} {a b : Expr} {ma mb : Me} {pos : Pos}
end
def GlC (K : PySem.W.Frag) (mg : Str → Option Value) (x : Str) (d : PyData) : Prop := ∃ u v, mg x = some u ∧ RelV v u ∧ ∀ G, Rp K G v d
theorem glc_int {K : PySem.W.Frag} {h : Heap} {mg : Str → Option Value} {x : Str} {i : Int} {t : Tok} (X : K.In h) (G : h.Ns mainGlobals mg) (e : PySem.W.nsIn K mainGlobals x = some (some (.int i t))) : GlC K mg x (.int i) :=
  ⟨_, .int i, PySem.W.mg_of X G e, ⟨t, rfl⟩, fun _ => .int i⟩
end L3
set_option Elab.async false
set_option linter.all false
set_option maxRecDepth 100000
namespace L3
open PySem PySem.Spec L2
def fIns (x : T) : FA := fun ts M Q => match x, ts with
  | .lr i, [.d (.int j), .d z] => (match M.L[i]? with
    | some (some ds) => (ds.length < sizeLine ∧ 0 ≤ j ∧ j < 2 ^ 63) ∧ Q .non { M with L := M.L.set i (some (ds.take j.toNat ++ [z] ++ ds.drop j.toNat)) }
    | _ => False)
  | _, _ => False
@[simp] theorem x_insL {i : Nat} {M : Mem} {Q : Kt} {j : Int} {z : PyData} : fIns (.lr i) [.d (.int j), .d z] M Q = (match M.L[i]? with
    | some (some ds) => (ds.length < sizeLine ∧ 0 ≤ j ∧ j < 2 ^ 63) ∧ Q .non { M with L := M.L.set i (some (ds.take j.toNat ++ [z] ++ ds.drop j.toNat)) }
    | _ => False) := rfl
end L3
set_option Elab.async false
set_option linter.all false
set_option maxRecDepth 100000
namespace L3
open PySem PySem.Spec L2
end L3
set_option Elab.async false
set_option linter.all false
set_option maxRecDepth 100000
namespace L3
open PySem PySem.Spec L2 PyProof.Rows
section
variable {prog : Program} {w : World} {A : Around} {s : Shared}
/-- a tuple of ints -/
def TupN (h : Heap) (v : Value) (ns : List Int) : Prop := ∃ a n dd sl items, v = .ref a ∧ h.get? a = some { cls := .type "tuple", dict := dd, data := .seq items n, slots := sl } ∧ IntsAre items.toList ns
theorem TupN.keep {h h' : Heap} {v : Value} {ns : List Int} (x : TupN h v ns) (k : ∀ b o, h.get? b = some o → h'.get? b = some o) : TupN h' v ns := by
  obtain ⟨a, n, dd, sl, items, rfl, h1, h2⟩ := x
  exact ⟨a, n, dd, sl, items, rfl, k _ _ h1, h2⟩
end
open Classical in
noncomputable def kN (h : Heap) (v : Value) : List Int := if z : ∃ ns, TupN h v ns then choose z else []
open Classical in
section
variable {X : Cx} {a b : Expr} {ma mb : Me} {pos : Pos}
end
end L3
set_option Elab.async false
set_option linter.all false
set_option maxRecDepth 100000
namespace L3
open PySem PySem.Spec L2 PyProof.Rows
end L3
set_option Elab.async false
set_option linter.all false
set_option maxRecDepth 100000
namespace L3
open PySem PySem.Spec L2 PyProof.Rows
def mRevT (m : Me) : Me := fun τ M Q => m τ M fun t M1 => match t with
  | .d (.tuple ds) => Q (.tup ds.reverse) M1
  | _ => False
theorem RpA.reverse {K : PySem.W.Frag} {G : Hp} : ∀ {vs : List V} {ds : List PyData}, RpA K G vs ds → RpA K G vs.reverse ds.reverse
  | _, _, .nil => .nil
  | _, _, .cons p q => by
    rw [List.reverse_cons, List.reverse_cons]
    exact RpA.append (RpA.reverse q) (.cons p .nil)
section
variable {X : Cx} {e o : Expr} {m mo : Me} {mr : Ma} {k : Nat} {p1 p2 p3 pos apos cpos : Pos}
@[simp] theorem x_revT {τ : En} {M : Mem} {Q : Kt} : mRevT m τ M Q = m τ M fun t M1 => match t with
  | .d (.tuple ds) => Q (.tup ds.reverse) M1
  | _ => False := rfl
def mCnt (m : Me) (r : Ma) : Me := fun τ M Q => m τ M fun t M1 => match t with
  | .d (.tuple ds) => r τ M1 fun ts M2 => match ts with
    | [.d (.int k)] => ∃ ns, intsOf ds = some ns ∧ Q (.int (ns.count k : Nat)) M2
    | _ => False
  | _ => False
theorem me_count (ho : ME X o mo) (ha : MA X [e] mr) (hbase : attributeBase o "count" X.env (eval o X.env) = eval o X.env := by rfl)
    (hfew : ((backTo cpos (starEach [e] X.env)).all (fun x => !x.1) && (backToKw cpos (keywordEach [] X.env)).all (fun x => x.1.isSome) && decide (([e] : List Expr).length + ([] : List Keyword).length + (if ([] : List Keyword).isEmpty then 0 else 1) < 30)) = true := by rfl)
    (hline : (apos.endLine == cpos.line) = true := by rfl) (hs : starEach [e] X.env = (false, eval e X.env) :: starEach [] X.env := by rfl) (hpl : (backTo cpos (starEach [] X.env)).any (·.1) = false := by rfl) :
    ME X (.Call (.Attribute o "count" apos) [e] [] cpos) (mCnt mo mr) := PE.of (pe_tcount ho ha hbase hfew hline hs hpl) fun σ H Q' ⟨τ, M, B, Q, h, w, s, k⟩ => by
  refine ⟨τ, M, B, _, h, w, s, fun v t M1 B1 H1 h1 w1 e1 r1 => ?_⟩
  split at h1
  · rename_i ds
    cases (show Rp X.K B1.G v (.tuple ds) from r1) with
    | tup g q =>
      refine ⟨_, _, rfl, TupC.mono w1.le g, τ, M1, B1, _, h1, w1, s.mono e1, fun vs ts M2 B2 H2 h2 w2 e2 r2 => ?_⟩
      split at h2
      · rename_i k0
        obtain ⟨u, rfl, r3⟩ := paired_one r2
        cases (show Rp X.K B2.G u (.int k0) from r3)
        obtain ⟨ns, hn, q2⟩ := h2
        cases intsOf_eq hn
        cases rpa_ints' q
        exact ⟨ns, k0, rfl, SqT.mono w2.le (TupC.mono e2.g g), k _ _ M2 B2 H2 q2 w2 (e1.trans e2) (.int _)⟩
      · exact h2.elim
  · exact h1.elim
@[simp] theorem x_count {τ : En} {M : Mem} {Q : Kt} : mCnt m mr τ M Q = m τ M fun t M1 => match t with
  | .d (.tuple ds) => mr τ M1 fun ts M2 => match ts with
    | [.d (.int k)] => ∃ ns, intsOf ds = some ns ∧ Q (.int (ns.count k : Nat)) M2
    | _ => False
  | _ => False := rfl
end
end L3
set_option Elab.async false
set_option linter.all false
set_option maxRecDepth 100000
namespace L3
open PySem PySem.Spec L2 PyProof.Rows
def mAugL (f : Int → Int → Int) (d k v : Me) : Ms := fun E τ M => d τ M fun x M1 => k τ M1 fun y M2 => match x, y with
  | .lr i, .d (.int j) => (match M2.L[i]? with
    | some (some ds) => (0 ≤ j ∧ j < 2 ^ 63) ∧ ∃ a, ds[j.toNat]? = some (.int a) ∧ v τ M2 fun t M3 => match t with
      | .d (.int b) => M3.L[i]? = some (some ds) ∧ E.nx τ { M3 with L := M3.L.set i (some (ds.set j.toNat (.int (f a b)))) }
      | _ => False
    | _ => False)
  | _, _ => False
section
variable {X : Cx} {o i e : Expr} {mo mi me : Me} {mr : Ma} {pos tpos : Pos}
@[simp] theorem x_augL {f : Int → Int → Int} {d k v : Me} {E : Es} {τ : En} {M : Mem} : mAugL f d k v E τ M = d τ M fun x M1 => k τ M1 fun y M2 => match x, y with
  | .lr i, .d (.int j) => (match M2.L[i]? with
    | some (some ds) => (0 ≤ j ∧ j < 2 ^ 63) ∧ ∃ a, ds[j.toNat]? = some (.int a) ∧ v τ M2 fun t M3 => match t with
      | .d (.int b) => M3.L[i]? = some (some ds) ∧ E.nx τ { M3 with L := M3.L.set i (some (ds.set j.toNat (.int (f a b)))) }
      | _ => False
    | _ => False)
  | _, _ => False := rfl
def mPar3 (i j l : Nat) (r : Ma) : Ms := fun E τ M => r τ M fun ts M1 => match ts with
  | [t, u, v] => E.nx (((τ.set i (some t)).set j (some u)).set l (some v)) M1
  | _ => False
theorem ms_par3 {i j l : Nat} {x y z : Str} {e1 e2 e3 : Expr} {px py pz pt : Pos} {kt k2 : Nat} {pt2 : Pos} (hc : X.calm = true) (hN : X.N.Nodup) (hi : X.N[i]? = some x) (hj : X.N[j]? = some y) (hl : X.N[l]? = some z) (hij : i ≠ j) (hil : i ≠ l) (hjl : j ≠ l)
    (hx : X.env.scope.names.lookup x = some .local) (hy : X.env.scope.names.lookup y = some .local) (hz : X.env.scope.names.lookup z = some .local) (ha : MA X [e1, e2, e3] mr)
    (hw : swappedStores [.Tuple [.Name x px, .Name y py, .Name z pz] kt pt] (.Tuple [e1, e2, e3] k2 pt2) X.env = pure (some [x, y, z]))
    (hs : swapsWithSole [.Tuple [.Name x px, .Name y py, .Name z pz] kt pt] (.Tuple [e1, e2, e3] k2 pt2) pos.line X.env = pure false := by rfl) :
    MS X (.Assign [.Tuple [.Name x px, .Name y py, .Name z pz] kt pt] (.Tuple [e1, e2, e3] k2 pt2) pos) (mPar3 i j l mr) := PS.of (ps_par3 hc hN hi hj hl hij hil hjl hx hy hz ha hw hs) fun D σ H ⟨E, τ, M, B, h, w, sl, g⟩ => by
  refine ⟨τ, M, B, _, h, w, sl, fun v t M1 B1 H1 h1 w1 e1 r1 => ?_⟩
  split at h1
  · cases r1 with
    | cons r2 r3 =>
      cases r3 with
      | cons r4 r5 =>
        obtain ⟨v3, rfl, r6⟩ := paired_one r5
        exact ⟨_, _, v3, rfl, g.nx _ M1 B1 _ H1 h1 w1 e1 ((((sl.mono e1).set i r2).set j r4).set l r6)⟩
  · exact h1.elim
@[simp] theorem x_par3 {i j l : Nat} {r : Ma} {E : Es} {τ : En} {M : Mem} : mPar3 i j l r E τ M = r τ M fun ts M1 => match ts with
  | [t, u, v] => E.nx (((τ.set i (some t)).set j (some u)).set l (some v)) M1
  | _ => False := rfl
end
def oMulL : F2 := fun x y M Q => match x, y with
  | .d (.list a), .d (.int j) => (-(2 ^ 63) ≤ j ∧ j < 2 ^ 63 ∧ a.length * j.toNat ≤ sizeLine) ∧ Q (.lr M.L.length) { M with L := M.L ++ [some (List.replicate j.toNat a).flatten] }
  | _, _ => False
theorem opl_mulL {K : PySem.W.Frag} : OpL K rRep oMulL := by
  intro x y t u M B H Q Q' h w rx ry k
  unfold oMulL at h
  split at h
  · cases rx with
    | lst e1 q1 =>
      cases ry
      obtain ⟨⟨h1, h2, h3⟩, q⟩ := h
      refine ⟨_, _, _, rfl, rfl, w.le _ _ e1, h1, h2, ?_, fun p hp => ?_⟩
      · rw [RpA.length q1]
        exact h3
      · obtain ⟨w2, e2⟩ := w.newL hp (RpA.rep q1 _)
        exact k _ _ _ _ _ q w2 e2 ⟨p, rfl, by rw [← w.llen]; exact get_snoc⟩
  · exact h.elim
theorem me_mulL {X : Cx} {a b : Expr} {ma mb : Me} {pos : Pos} (ha : ME X a ma) (hb : ME X b mb) : ME X (.BinOp a .Mult b pos) (mOp oMulL ma mb) := me_op op_rep opl_mulL ha hb
@[simp] theorem x_mulL {a : List PyData} {j : Int} {M : Mem} {Q : Kt} : oMulL (.d (.list a)) (.d (.int j)) M Q = ((-(2 ^ 63) ≤ j ∧ j < 2 ^ 63 ∧ a.length * j.toNat ≤ sizeLine) ∧ Q (.lr M.L.length) { M with L := M.L ++ [some (List.replicate j.toNat a).flatten] }) := rfl
end L3
set_option Elab.async false
set_option linter.all false
set_option maxRecDepth 100000
namespace L3
open PySem PySem.Spec L2 PyProof.Rows
open Classical in
open Classical in
def mDefT (n N : Nat) (body : Ms) : FD := fun ts D Q => ts.length = n ∧ body { nx := fun _ M => M.D.take D.length = D ∧ Q .non D, rt := fun t M => (∃ x, t = .d x) ∧ M.D.take D.length = D ∧ Q t D } (ts.map some ++ List.replicate (N - n) none) ⟨D, []⟩
theorem Rt.cut {K : PySem.W.Frag} {B B0 : Bk} {v v0 : V} {t : T} (h0 : Rt K { B0 with l := [] } v0 t) (h : Rt K { B with l := [] } v t) : Rt K { B with r := B.r.take B0.r.length, l := [] } v t := by
  cases t with
  | d x => exact h
  | mr i =>
    obtain ⟨a, e, q⟩ := h
    obtain ⟨a0, _, q0⟩ := h0
    have hi : i < B0.r.length := by
      rcases Nat.lt_or_ge i B0.r.length with z | z
      · exact z
      · have q0' : B0.r[i]? = some a0 := q0
        rw [List.getElem?_eq_none z] at q0'
        cases q0'
    refine ⟨a, e, ?_⟩
    show (B.r.take B0.r.length)[i]? = some a
    rw [List.getElem?_take, if_pos hi]
    exact q
  | lr i => exact h
  | scr ns => exact h
  | wt xs => exact h
  | exo a c d e => exact h
theorem paired_cut {K : PySem.W.Frag} {B B0 : Bk} : ∀ {vs0 vs : List V} {ts : List T}, Paired (Rt K { B0 with l := [] }) vs0 ts → Paired (Rt K { B with l := [] }) vs ts → Paired (Rt K { B with r := B.r.take B0.r.length, l := [] }) vs ts
  | _, _, _, .nil, .nil => .nil
  | _, _, _, .cons a q, .cons b r => .cons (Rt.cut a b) (paired_cut q r)
theorem paired_cutD {K : PySem.W.Frag} {B B0 : Bk} : ∀ {vs0 vs : List (Key × V)} {ts : List (Key × T)}, Paired (fun (p : Key × V) (q : Key × T) => p.1 = q.1 ∧ Rt K { B0 with l := [] } p.2 q.2) vs0 ts → Paired (fun (p : Key × V) (q : Key × T) => p.1 = q.1 ∧ Rt K { B with l := [] } p.2 q.2) vs ts → Paired (fun (p : Key × V) (q : Key × T) => p.1 = q.1 ∧ Rt K { B with r := B.r.take B0.r.length, l := [] } p.2 q.2) vs ts
  | _, _, _, .nil, .nil => .nil
  | _, _, _, .cons a q, .cons b r => .cons ⟨b.1, Rt.cut a.2 b.2⟩ (paired_cutD q r)
theorem paired_cutN {K : PySem.W.Frag} {B B0 : Bk} : ∀ {vs0 vs : List (NestedKey × Addr × V)} {ts : List (NestedKey × T)}, Paired (fun (p : NestedKey × Addr × V) (q : NestedKey × T) => p.1 = q.1 ∧ okKey 8 q.1 = true ∧ Rp K B0.G (.ref p.2.1) q.1.data ∧ Rt K { B0 with l := [] } p.2.2 q.2) vs0 ts →
    Paired (fun (p : NestedKey × Addr × V) (q : NestedKey × T) => p.1 = q.1 ∧ okKey 8 q.1 = true ∧ Rp K B.G (.ref p.2.1) q.1.data ∧ Rt K { B with l := [] } p.2.2 q.2) vs ts →
    Paired (fun (p : NestedKey × Addr × V) (q : NestedKey × T) => p.1 = q.1 ∧ okKey 8 q.1 = true ∧ Rp K B.G (.ref p.2.1) q.1.data ∧ Rt K { B with r := B.r.take B0.r.length, l := [] } p.2.2 q.2) vs ts
  | _, _, _, .nil, .nil => .nil
  | _, _, _, .cons a q, .cons b r => .cons ⟨b.1, b.2.1, b.2.2.1, Rt.cut a.2.2.2 b.2.2.2⟩ (paired_cutN q r)
theorem paired_cutK {K : PySem.W.Frag} {B B0 : Bk} : ∀ {vs0 vs : List (NestedKey × Addr × V)} {ts : List (PyData × T)}, Paired (fun (p : NestedKey × Addr × V) (q : PyData × T) => nk q.1 = some p.1 ∧ okKey 8 p.1 = true ∧ Rp K B0.G (.ref p.2.1) q.1 ∧ Rt K { B0 with l := [] } p.2.2 q.2) vs0 ts →
    Paired (fun (p : NestedKey × Addr × V) (q : PyData × T) => nk q.1 = some p.1 ∧ okKey 8 p.1 = true ∧ Rp K B.G (.ref p.2.1) q.1 ∧ Rt K { B with l := [] } p.2.2 q.2) vs ts →
    Paired (fun (p : NestedKey × Addr × V) (q : PyData × T) => nk q.1 = some p.1 ∧ okKey 8 p.1 = true ∧ Rp K B.G (.ref p.2.1) q.1 ∧ Rt K { B with r := B.r.take B0.r.length, l := [] } p.2.2 q.2) vs ts
  | _, _, _, .nil, .nil => .nil
  | _, _, _, .cons a q, .cons b r => .cons ⟨b.1, b.2.1, b.2.2.1, Rt.cut a.2.2.2 b.2.2.2⟩ (paired_cutK q r)
theorem Wd.cut {K : PySem.W.Frag} {B B0 : Bk} {M : Mem} {D : List Cell} {H H0 : Hp} (w0 : Wd K B0 ⟨D, []⟩ H0) (w : Wd K B M H) (hD : M.D.take D.length = D) : Wd K { B with r := B.r.take B0.r.length, l := [] } ⟨D, []⟩ H := by
  have nr : B.r.Nodup := (List.nodup_append.mp w.nd).1
  have l0 : B0.r.length = D.length := w0.rlen
  refine ⟨w.le, ?_, rfl, ?_, fun i a c h1 h2 => ?_, fun i a ds h1 _ => ?_, fun a ha => ?_⟩
  · show (B.r.take B0.r.length).length = D.length
    have := congrArg List.length hD
    rw [List.length_take] at this
    rw [List.length_take, w.rlen, l0]
    exact this
  · show (B.r.take B0.r.length ++ []).Nodup
    rw [List.append_nil]
    exact nr.sublist (List.take_sublist _ _)
  · have h1' : (B.r.take B0.r.length)[i]? = some a := h1
    have h2' : D[i]? = some c := h2
    rw [List.getElem?_take] at h1'
    split at h1'
    · rename_i hi
      have h3 : M.D[i]? = some c := by
        rw [← hD, List.getElem?_take] at h2'
        split at h2'
        · exact h2'
        · cases h2'
      obtain ⟨z1, z2⟩ := w.dc i a c h1' h3
      obtain ⟨z3, z4⟩ := w0.dc i (B0.r[i]'hi) c (List.getElem?_eq_getElem hi) h2'
      refine ⟨z1, ?_⟩
      cases c with
      | lst ts =>
        obtain ⟨xs, e1, e2⟩ := z2
        obtain ⟨xs0, _, e3⟩ := z4
        exact ⟨xs, e1, paired_cut e3 e2⟩
      | dct kvs =>
        obtain ⟨xs, e1, e2⟩ := z2
        obtain ⟨xs0, _, e3⟩ := z4
        exact ⟨xs, e1, paired_cutD e3 e2⟩
      | held u => exact z2
      | exc f2 e2 => exact z2
      | dnd kvs =>
        obtain ⟨xs, e1, e2⟩ := z2
        obtain ⟨xs0, _, e3⟩ := z4
        exact ⟨xs, e1, paired_cutK e3 e2⟩
      | dnk kvs =>
        obtain ⟨xs, e1, e2⟩ := z2
        obtain ⟨xs0, _, e3⟩ := z4
        exact ⟨xs, e1, paired_cutN e3 e2⟩
    · cases h1'
  · have h1' : ([] : List Addr)[i]? = some a := h1
    simp at h1'
  · have ha' : a ∈ B.r.take B0.r.length ++ [] := ha
    rw [List.append_nil] at ha'
    exact w.tr a (List.mem_append_left _ (List.mem_of_mem_take ha'))
theorem Ext.cut {B B0 : Bk} {H H0 : Hp} (e : Ext B0 H0 B H) : Ext B0 H0 { B with r := B.r.take B0.r.length, l := B0.l } H := by
  have er : B.r.take B0.r.length = B0.r := by
    obtain ⟨c, hc⟩ := e.r
    rw [← hc, List.take_left]
  exact ⟨e.g, by show B0.r <+: B.r.take B0.r.length; rw [er]; exact List.prefix_refl _, List.prefix_refl _, e.fr, e.tr, fun a z => .inl (by have z' : a ∈ B.r.take B0.r.length := z; rw [er] at z'; exact z'), fun a z => .inl z, e.gf⟩
theorem okT_def {P : Program} {w : World} {K : PySem.W.Frag} {mg : Str → Option Value} {base : Heap} {x qual : Str} {st : Stmt} {f : Addr} {fd : FuncData} {N ps : List Str} {k : Nat} {m : Ms}
    (F : Fun K x qual st f fd) (S : FnScope N ps (defScope st))
    (body : ∀ (cdv : Value) (A : Around) (outer : List Env) (sh : Shared) (H : Hp) (E : XK), Gd (A.deeper (PyProof.Rows.envOfC qual (defScope st) sh.heap.objs.size f cdv)) → Room k (A.deeper (PyProof.Rows.envOfC qual (defScope st) sh.heap.objs.size f cdv)) →
      MSs (cxOf CX0 P w K mg base N qual (defScope st) f cdv A outer sh H E).nox (defBody st) m) :
    FnG P w K mg base (k + 1) f fd ps (spM K (mDefT ps.length N.length m)) := by
  refine fng_of F S (fun vs H Q E h => ?_) fun cdv A outer sh H vs Q E gd rm h => ?_
  · obtain ⟨ts, D, B, Q1, ⟨h1, _⟩, _, r, _⟩ := h
    exact (paired_len r).trans h1
  · obtain ⟨ts, D, B, Q1, ⟨h1, h2⟩, wd, r, kk⟩ := h
    refine ⟨_, body cdv A outer sh H E gd rm, ?_⟩
    have lB : B.l = [] := List.length_eq_zero_iff.mp wd.llen
    have s0 := start_sl (N := N) r
    rw [h1] at s0
    refine ⟨_, _, ⟨D, []⟩, B, h2, wd, s0, ⟨fun τ' M' B' σ' H' q w' e' s' => ?_, fun v t M' B' H' q w' e' r' => ?_, fun _ _ _ _ _ q => q.elim, fun _ _ _ _ _ q => q.elim⟩⟩
    · have e2 := e'.cut
      rw [lB] at e2
      exact kk .non .non D _ H' q.2 (Wd.cut wd w' q.1) e2 .non
    · obtain ⟨⟨x, rfl⟩, q1, q2⟩ := q
      have e2 := e'.cut
      rw [lB] at e2
      exact kk v (.d x) D _ H' q2 (Wd.cut wd w' q1) e2 r'
end L3
set_option Elab.async false
set_option linter.all false
set_option maxRecDepth 100000
namespace L3
open PySem PySem.Spec L2 PyProof.Rows
theorem KT.lookN {K : PySem.W.Frag} {B : Bk} {vs : List (Key × V)} {ts : List (Key × T)} {k : Key} (h : KT K B vs ts) : (valV vs k).isSome = (lookT ts k).isSome := by
  induction h with
  | nil => rfl
  | @cons p q ps qs f _ ih =>
    by_cases z : q.1 = k
    · have e' : lookT (q :: qs) k = some q.2 := by simp [lookT, List.find?_cons, z]
      rw [e', valV_pos (f.1.trans z)]
      rfl
    · have e' : lookT (q :: qs) k = lookT qs k := by simp [lookT, List.find?_cons, z]
      rw [e', valV_neg fun y => z (f.1.symm.trans y), ih]
def oDIn (n : Bool) : F2 := fun x y M Q => match keyOf x, y with
  | some k, .mr i => (match M.D[i]? with
    | some (.dct kvs) => Q (.bl (if n then !(lookT kvs k).isSome else (lookT kvs k).isSome)) M
    | _ => False)
  | _, _ => False
@[simp] theorem x_din {n : Bool} {j : Int} {i : Nat} {M : Mem} {Q : Kt} : oDIn n (.d (.int j)) (.mr i) M Q = (match M.D[i]? with
    | some (.dct kvs) => Q (.bl (if n then !(lookT kvs (.inl j)).isSome else (lookT kvs (.inl j)).isSome)) M
    | _ => False) := rfl
@[simp] theorem x_keyI {j : Int} : keyOf (.d (.int j)) = some (.inl j) := rfl
section
variable {X : Cx} {o i : Expr} {mo mi : Me} {pos : Pos}
def mDNew : Me := fun _ M Q => Q (.mr M.D.length) { M with D := M.D ++ [.dct []] }
@[simp] theorem x_dnew {τ : En} {M : Mem} {Q : Kt} : mDNew τ M Q = Q (.mr M.D.length) { M with D := M.D ++ [.dct []] } := rfl
end
end L3
set_option Elab.async false
set_option linter.all false
set_option maxRecDepth 100000
namespace Sh
open PySem PySem.Spec L2 L3
theorem pig : ∀ (n : Nat) (l : List Nat), l.Nodup → (∀ x ∈ l, x < n) → l.length ≤ n
  | 0, l, _, h => by
    cases l with
    | nil => simp
    | cons a l => exact absurd (h a List.mem_cons_self) (by omega)
  | n + 1, l, nd, h => by
    have h1 := pig n (l.erase n) (nd.erase n) fun x hx => by
      have := (nd.mem_erase_iff).mp hx
      have := h x this.2
      omega
    have h2 := List.length_erase (a := n) (l := l)
    split at h2 <;> omega
structure Kn (P : Int → T → Prop) (kvs : List (Key × T)) : Prop where
  nd : (kvs.map (·.1)).Nodup
  ok : ∀ p ∈ kvs, ∃ j : Int, p.1 = .inl j ∧ 0 ≤ j ∧ j < 64 ∧ P j p.2
theorem Kn.nil {P : Int → T → Prop} : Kn P [] := ⟨List.nodup_nil, fun p h => nomatch h⟩
theorem Kn.imp {P Q : Int → T → Prop} {kvs : List (Key × T)} (h : Kn P kvs) (f : ∀ j t, P j t → Q j t) : Kn Q kvs :=
  ⟨h.nd, fun p hp => let ⟨j, a, b, c, d⟩ := h.ok p hp; ⟨j, a, b, c, f _ _ d⟩⟩
theorem Kn.put {P : Int → T → Prop} {kvs : List (Key × T)} {j : Int} {t : T} (h : Kn P kvs) (h0 : 0 ≤ j) (h1 : j < 64) (hp : P j t) : Kn P (putT kvs (.inl j) t) := by
  unfold putT
  split
  · refine ⟨?_, fun p hm => ?_⟩
    · have e : (kvs.map fun kv => if kv.1 = (.inl j : Key) then (kv.1, t) else kv).map (·.1) = kvs.map (·.1) := by
        rw [List.map_map]
        refine List.map_congr_left fun kv _ => ?_
        show (if kv.1 = (.inl j : Key) then (kv.1, t) else kv).1 = kv.1
        split <;> rfl
      rw [e]
      exact h.nd
    · obtain ⟨kv, hk, rfl⟩ := List.mem_map.mp hm
      by_cases z : kv.1 = (.inl j : Key)
      · rw [if_pos z]
        exact ⟨j, z, h0, h1, hp⟩
      · rw [if_neg z]
        exact h.ok kv hk
  · rename_i hn
    refine ⟨?_, fun p hm => ?_⟩
    · rw [List.map_append]
      refine List.nodup_append.mpr ⟨h.nd, by simp, fun a ha b hb => ?_⟩
      rw [List.mem_singleton.mp hb]
      rintro rfl
      obtain ⟨kv, hk, e⟩ := List.mem_map.mp ha
      exact hn (List.any_eq_true.mpr ⟨kv, hk, decide_eq_true e⟩)
    · rcases List.mem_append.mp hm with z | z
      · exact h.ok p z
      · rw [List.mem_singleton.mp z]
        exact ⟨j, rfl, h0, h1, hp⟩
theorem Kn.look {P : Int → T → Prop} {kvs : List (Key × T)} {j : Int} {t : T} (h : Kn P kvs) (e : lookT kvs (.inl j) = some t) : P j t := by
  unfold lookT at e
  cases hf : kvs.find? fun kv => decide (kv.1 = (.inl j : Key)) with
  | none => rw [hf] at e; cases e
  | some p =>
    rw [hf] at e
    cases e
    have h0 := List.find?_some hf
    have h1 : p.1 = (.inl j : Key) := of_decide_eq_true h0
    obtain ⟨i, a, _, _, d⟩ := h.ok p (List.mem_of_find?_eq_some hf)
    rw [h1] at a
    cases a
    exact d
def kN : Key → Nat
  | .inl j => j.toNat
  | _ => 0
theorem Kn.len {P : Int → T → Prop} {kvs : List (Key × T)} (h : Kn P kvs) : kvs.length ≤ 64 := by
  have := pig 64 (kvs.map fun p => kN p.1) ?_ fun x hx => ?_
  · simpa using this
  · have nd := h.nd
    unfold List.Nodup at nd ⊢
    rw [List.pairwise_map] at nd ⊢
    refine List.Pairwise.imp_of_mem (fun {a b} ha hb hne => ?_) nd
    obtain ⟨i, e1, i0, _, _⟩ := h.ok a ha
    obtain ⟨j, e2, j0, _, _⟩ := h.ok b hb
    rw [e1, e2] at hne ⊢
    intro z
    have z' : i.toNat = j.toNat := z
    exact hne (by rw [show i = j by omega])
  · obtain ⟨p, hp, rfl⟩ := List.mem_map.mp hx
    obtain ⟨j, e, j0, j1, _⟩ := h.ok p hp
    rw [e]
    show j.toNat < 64
    omega
end Sh
set_option Elab.async false
set_option linter.all false
set_option maxRecDepth 100000
namespace Wl
open PySem PySem.Spec L2 L3
theorem w_an {R : List T → Mem → Prop} {τ : En} {M : Mem} (h : R [] M) : aNil τ M R := h
theorem w_c {x : PyData} {τ : En} {M : Mem} {Q : Kt} (h : Q (.d x) M) : mC x τ M Q := h
theorem w_eqI {n : Bool} {a b : Int} {M : Mem} {Q : Kt} (h : Q (.bl (if n then !decide (a = b) else decide (a = b))) M) : oEq n (.d (.int a)) (.d (.int b)) M Q := by
  rw [x_eqi]
  exact h
theorem w_sub {a b : Int} {M : Mem} {Q : Kt} (h : Q (.int (a - b)) M) : oSub (.d (.int a)) (.d (.int b)) M Q := by
  rw [x_sub]
  exact h
theorem ifT {p q : Prop} {b : Bool} (h : b = true) (x : p) : if b = true then p else q := by
  rw [if_pos h]
  exact x
theorem ifF {p q : Prop} {b : Bool} (h : ¬ b = true) (x : q) : if b = true then p else q := by
  rw [if_neg h]
  exact x
theorem w_int {a : Int} {M : Mem} {Q : Kt} (h : Q (.int a) M) : fInt [.d (.int a)] M Q := by
  rw [x_int]
  exact h
theorem w_add {a b : Int} {M : Mem} {Q : Kt} (h : Q (.int (a + b)) M) : oAdd (.d (.int a)) (.d (.int b)) M Q := h
theorem w_gt {a b : Int} {M : Mem} {Q : Kt} (h : Q (.bl (decide (b < a))) M) : oGt (.d (.int a)) (.d (.int b)) M Q := by
  rw [x_gt]
  exact h
theorem w_appL {i : Nat} {z : PyData} {ds : List PyData} {D : List Cell} {L : List (Option (List PyData))} {Q : Kt} (h : L[i]? = some (some ds)) (hl : ds.length < sizeLine) (q : Q .non ⟨D, L.set i (some (ds ++ [z]))⟩) : fApp (.lr i) [.d z] ⟨D, L⟩ Q := by
  rw [x_appL]
  show (match L[i]? with
    | some (some ds) => ds.length < sizeLine ∧ Q .non ⟨D, L.set i (some (ds ++ [z]))⟩
    | _ => False)
  rw [h]
  exact ⟨hl, q⟩
end Wl
set_option Elab.async false
set_option linter.all false
set_option maxRecDepth 100000
set_option maxHeartbeats 2000000
namespace L3
open PySem PySem.Spec L2
/-- the exception of the class cls, its dict at d, is e -/
def Rx (K : PySem.W.Frag) (mg : Str → Option Value) (G : Hp) (cls : Value) (d : Option Addr) (e : Exn) : Prop := mg e.cls = some cls ∧ ExR K G d e
abbrev Wx := Exn → Mem → Prop
abbrev Wxs := Exn → En → Mem → Prop
abbrev MeX := Wx → Me
abbrev MaX := Wx → Ma
abbrev MsX := Wxs → Ms
def GoW (K : PySem.W.Frag) (mg : Str → Option Value) (Wt : Wx) (W : WX) (σ : St) (B : Bk) (H : Hp) : Prop := ∀ e cls d M' B' H', Wt e M' → Wd K B' M' H' → Ext B H B' H' → Rx K mg B'.G cls d e → W cls d σ H'
def GoS (K : PySem.W.Frag) (mg : Str → Option Value) (Wt : Wxs) (W : WX) (B : Bk) (H : Hp) : Prop := ∀ e cls d τ' M' B' σ' H', Wt e τ' M' → Wd K B' M' H' → Ext B H B' H' → Sl K B' σ' τ' → Rx K mg B'.G cls d e → W cls d σ' H'
theorem GoW.ext {K : PySem.W.Frag} {mg : Str → Option Value} {Wt : Wx} {W : WX} {σ : St} {B B1 : Bk} {H H1 : Hp} (g : GoW K mg Wt W σ B H) (x : Ext B H B1 H1) : GoW K mg Wt W σ B1 H1 := fun e c d M' B' H' h w y r => g e c d M' B' H' h w (x.trans y) r
theorem GoS.ext {K : PySem.W.Frag} {mg : Str → Option Value} {Wt : Wxs} {W : WX} {B B1 : Bk} {H H1 : Hp} (g : GoS K mg Wt W B H) (x : Ext B H B1 H1) : GoS K mg Wt W B1 H1 := fun e c d t M' B' s H' h w y l r => g e c d t M' B' s H' h w (x.trans y) l r
theorem GoS.at {K : PySem.W.Frag} {mg : Str → Option Value} {Wt : Wxs} {W : WX} {B : Bk} {H : Hp} {σ : St} {τ : En} (g : GoS K mg Wt W B H) (s : Sl K B σ τ) : GoW K mg (fun e M => Wt e τ M) W σ B H := fun e c d M' B' H' h w y r => g e c d τ M' B' σ H' h w y (s.mono y) r
def rEX (K : PySem.W.Frag) (mg : Str → Option Value) (W : WX) (m : MeX) : TE := fun σ H Q' => ∃ τ M B Q Wt, m Wt τ M Q ∧ Wd K B M H ∧ Sl K B σ τ ∧ (∀ v t M' B' H', Q t M' → Wd K B' M' H' → Ext B H B' H' → Rt K B' v t → Q' v H') ∧ GoW K mg Wt W σ B H
def rAX (K : PySem.W.Frag) (mg : Str → Option Value) (W : WX) (m : MaX) : TA := fun σ H Q' => ∃ τ M B Q Wt, m Wt τ M Q ∧ Wd K B M H ∧ Sl K B σ τ ∧ (∀ v t M' B' H', Q t M' → Wd K B' M' H' → Ext B H B' H' → Paired (Rt K B') v t → Q' v H') ∧ GoW K mg Wt W σ B H
def rSX (K : PySem.W.Frag) (mg : Str → Option Value) (W : WX) (m : MsX) : TS := fun D σ H => ∃ E Wt τ M B, m Wt E τ M ∧ Wd K B M H ∧ Sl K B σ τ ∧ Go K E D B H ∧ GoS K mg Wt W B H
def MEX (X : Cx) (e : Expr) (m : MeX) : Prop := ∀ W, Takes X W → PE X e (rEX X.K X.mg W m)
def MAX (X : Cx) (e : List Expr) (m : MaX) : Prop := ∀ W, Takes X W → PA X e (rAX X.K X.mg W m)
def MSX (X : Cx) (e : Stmt) (m : MsX) : Prop := ∀ W, Takes X W → PS X e (rSX X.K X.mg W m)
def MSsX (X : Cx) (e : List Stmt) (m : MsX) : Prop := ∀ W, Takes X W → PSs X e (rSX X.K X.mg W m)
section
variable {X : Cx} {a b e : Expr} {es : List Expr} {m : Me} {mx my : MeX} {mr : Ma} {mrx : MaX} {mc : Mb} {pos : Pos}
theorem mex_lift (h : ME X e m) : MEX X e fun _ => m := fun W tk => PE.of h fun σ H Q' ⟨τ, M, B, Q, _, h1, w, s, k, _⟩ => ⟨τ, M, B, Q, h1, w, s, k⟩
theorem max_lift (h : MA X es mr) : MAX X es fun _ => mr := fun W tk => PA.of h fun σ H Q' ⟨τ, M, B, Q, _, h1, w, s, k, _⟩ => ⟨τ, M, B, Q, h1, w, s, k⟩
theorem max_cons (ha : MEX X e mx) (hr : MAX X es mrx) (hs : starEach (e :: es) X.env = (false, eval e X.env) :: starEach es X.env := by rfl) : MAX X (e :: es) fun Wt => aCons (mx Wt) (mrx Wt) := fun W tk => PA.of (pa_cons (ha W tk) (hr W tk) hs) fun σ H Q' ⟨τ, M, B, Q, Wt, h, w, s, k, g⟩ => by
  refine ⟨τ, M, B, _, Wt, h, w, s, fun v t M1 B1 H1 h1 w1 e1 r1 => ⟨τ, M1, B1, _, Wt, h1, w1, s.mono e1, fun v2 t2 M2 B2 H2 h2 w2 e2 r2 => ?_, g.ext e1⟩, g⟩
  exact k _ _ M2 B2 H2 h2 w2 (e1.trans e2) (.cons (Rt.mono e2 r1) r2)
theorem mex_lst (h : MAX X es mrx) : MEX X (.List es pos) fun Wt => mLst (mrx Wt) := fun W tk => PE.of (pe_lst (h W tk)) fun σ H Q' ⟨τ, M, B, Q, Wt, h, w, s, k, g⟩ => by
  refine ⟨τ, M, B, _, Wt, h, w, s, fun v t M1 B1 H1 h1 w1 e1 r1 => ?_, g⟩
  split at h1
  · rename_i ds hd
    have q := datas_rpa r1 hd
    refine ⟨by rw [RpA.length q]; exact h1.1, fun p hp => ?_⟩
    obtain ⟨w2, e2⟩ := w1.alloc hp (.lst v)
    exact k _ _ M1 _ _ h1.2 w2 (e1.trans e2) (.lst upd_same (RpA.mono e2.g q))
  · exact h1.elim
theorem mex_ite (hc : MB X b mc) (ha : MEX X a mx) (hb : MEX X e my) : MEX X (.IfExp b a e pos) fun Wt => mIte mc (mx Wt) (my Wt) := fun W tk => PE.of (pe_ifExp hc (ha W tk) (hb W tk)) fun σ H Q' ⟨τ, M, B, Q, Wt, h, w, s, k, g⟩ => by
  refine ⟨τ, M, B, _, h, w, s, fun v M1 B1 H1 h1 w1 e1 => ?_⟩
  cases v with
  | true => exact ⟨τ, M1, B1, Q, Wt, h1, w1, s.mono e1, fun v t M2 B2 H2 h2 w2 e2 => k v t M2 B2 H2 h2 w2 (e1.trans e2), g.ext e1⟩
  | false => exact ⟨τ, M1, B1, Q, Wt, h1, w1, s.mono e1, fun v t M2 B2 H2 h2 w2 e2 => k v t M2 B2 H2 h2 w2 (e1.trans e2), g.ext e1⟩
end
section
variable {X : Cx} {e c tg : Expr} {m : Me} {mx : MeX} {mc : Mb} {st : Stmt} {sts a b : List Stmt} {s : Ms} {sx rx : MsX} {pos : Pos} {g : Mg}
theorem msx_lift (h : MS X st s) : MSX X st fun _ => s := fun W tk => PS.of h fun D σ H ⟨E, _, τ, M, B, h1, w, l, g, _⟩ => ⟨E, τ, M, B, h1, w, l, g⟩
theorem mssx_lift (h : MSs X sts s) : MSsX X sts fun _ => s := fun W tk => PSs.of h fun D σ H ⟨E, _, τ, M, B, h1, w, l, g, _⟩ => ⟨E, τ, M, B, h1, w, l, g⟩
theorem mssx_cons (h1 : MSX X st sx) (h2 : MSsX X sts rx) : MSsX X (st :: sts) fun Wt => mSeq (sx Wt) (rx Wt) := fun W tk => PSs.of (pss_cons (h1 W tk) (h2 W tk)) fun D σ H ⟨E, Wt, τ, M, B, h, w, sl, g, gs⟩ =>
  ⟨{ E with nx := rx Wt E }, Wt, τ, M, B, h, w, sl, ⟨fun τ' M' B' σ' H' q w' e' s' => ⟨E, Wt, τ', M', B', q, w', s', g.ext e', gs.ext e'⟩, g.rt, g.bk, g.ct⟩, gs⟩
theorem mssx_one (h1 : MSX X st sx) : MSsX X [st] sx := fun W tk => pss_one (h1 W tk)
theorem msx_if (hc : MB X c mc) (ha : MSsX X a sx) (hb : MSsX X b rx) : MSX X (.If c a b pos) fun Wt => mIf mc (sx Wt) (rx Wt) := fun W tk => PS.of (ps_if hc (ha W tk) (hb W tk)) fun D σ H ⟨E, Wt, τ, M, B, h, w, sl, g, gs⟩ => by
  refine ⟨τ, M, B, _, h, w, sl, fun k M1 B1 H1 h1 w1 e1 => ?_⟩
  cases k with
  | true => exact ⟨E, Wt, τ, M1, B1, h1, w1, sl.mono e1, g.ext e1, gs.ext e1⟩
  | false => exact ⟨E, Wt, τ, M1, B1, h1, w1, sl.mono e1, g.ext e1, gs.ext e1⟩
/-- the wish of a statement, at its slots -/
abbrev atW (Wt : Wxs) (m : Wx → Ms) : Ms := fun E τ M => m (fun e M' => Wt e τ M') E τ M
theorem msx_expr (he : MEX X e mx) (hs : swapsWith e none pos.line X.env = pure false := by rfl) : MSX X (.Expr e pos) fun Wt => atW Wt fun W0 => mDrop (mx W0) := fun W tk => PS.of (ps_expr (he W tk) hs) fun D σ H ⟨E, Wt, τ, M, B, h, w, sl, g, gs⟩ =>
  ⟨τ, M, B, _, _, h, w, sl, fun v t M1 B1 H1 h1 w1 e1 _ => g.nx τ M1 B1 σ H1 h1 w1 e1 (sl.mono e1), gs.at sl⟩
theorem msx_ret (he : MEX X e mx) : MSX X (.Return (some e) pos) fun Wt => atW Wt fun W0 => mRet (mx W0) := fun W tk => PS.of (ps_ret (he W tk)) fun D σ H ⟨E, Wt, τ, M, B, h, w, sl, g, gs⟩ =>
  ⟨τ, M, B, _, _, h, w, sl, g.rt, gs.at sl⟩
end
/-- what the written part says of an exception class -/
structure ExF (K : PySem.W.Frag) (C : Addr) : Prop where
  kp : PySem.W.keepIn K (.ref C) = true
  su : PySem.W.subIn K (.ref C) (.type "BaseException") = some true
  ty : PySem.W.typeIn K (.ref C) = some (.type "type")
  cl : (PySem.W.clsIn K C).isSome = true
  ga : PySem.W.findIn K (.ref C) "__getattribute__" = some (some (.builtin "BaseException.__getattribute__"))
  gt : PySem.W.findIn K (.ref C) "__getattr__" = some none
  ha : PySem.W.findIn K (.ref C) "__class__" = some (some (.builtin "object.__class__"))
  hn : PySem.W.specialIn K (.builtin "object.__class__") "__get__" = some (some (.builtin "getset_descriptor.__get__"))
  tk : PySem.W.takesIn K (.builtin "object.__class__") = some true
  mo : PySem.W.mroIn K C (.type "object") = some true
/-- the class is known by its name -/
def Kx (K : PySem.W.Frag) (mg : Str → Option Value) (c : Str) : Prop := ∃ C, mg c = some (.ref C) ∧ ExF K C
section
variable {X : Cx}
end
abbrev FX := List T → List Cell → (T → List Cell → Prop) → (Exn → List Cell → Prop) → Prop
def spX (K : PySem.W.Frag) (mg : Str → Option Value) (m : FX) : Sp := fun vs H Q E => ∃ ts D B Q1 W1, m ts D Q1 W1 ∧ Wd K B ⟨D, []⟩ H ∧ Paired (Rt K B) vs ts ∧ (∀ v t D' B' H', Q1 t D' → Wd K B' ⟨D', []⟩ H' → Ext B H B' H' → Rt K B' v t → Q v H') ∧
  ∀ e cls d D' B' H', W1 e D' → Wd K B' ⟨D', []⟩ H' → Ext B H B' H' → Rx K mg B'.G cls d e → E cls d H'
def mDefX (n N : Nat) (body : MsX) : FX := fun ts D Q W => ts.length = n ∧ body (fun e _ M => W e M.D) { nx := fun _ M => Q .non M.D, rt := fun t M => noL t = true ∧ Q t M.D } (ts.map some ++ List.replicate (N - n) none) ⟨D, []⟩
structure FnX (P : Program) (w : World) (K : PySem.W.Frag) (mg : Str → Option Value) (base : Heap) (k : Nat) (f : Addr) (fd : FuncData) (ps : List Str) (sp : Sp) : Prop where
  len : ∀ vs H Q E, sp vs H Q E → vs.length = ps.length
  run : ∀ (A : Around) (outer : List Env) (sh : Shared) (H : Hp) (args : Args) (us : List Value) (vs : List V) (Q : VK) (E : XK), Gd A → Room k A → Env0 P w K mg base A outer sh H → BindsTo sh fd args (ps.zip us) → Vals vs us → sp vs H Q E →
    codeAny (model P w) A (.call (.ref f) args) (CR (L2.CX P w) outer P w H sh Q E) sh
theorem FnX.mono {P : Program} {w : World} {K : PySem.W.Frag} {mg : Str → Option Value} {base : Heap} {j k : Nat} {f : Addr} {fd : FuncData} {ps : List Str} {sp : Sp} (F : FnX P w K mg base j f fd ps sp) (h : j ≤ k) : FnX P w K mg base k f fd ps sp :=
  ⟨F.len, fun A outer sh H args us vs Q E gd rm => F.run A outer sh H args us vs Q E gd (rm.mono h)⟩
theorem fnx_of {P : Program} {w : World} {K : PySem.W.Frag} {mg : Str → Option Value} {base : Heap} {x qual : Str} {st : Stmt} {f : Addr} {fd : FuncData} {N ps : List Str} {k : Nat} {sp : Sp}
    (F : Fun K x qual st f fd) (S : FnScope N ps (defScope st)) (len : ∀ vs H Q E, sp vs H Q E → vs.length = ps.length)
    (body : ∀ (cdv : Value) (A : Around) (outer : List Env) (sh : Shared) (H : Hp) (vs : List V) (Q : VK) (E : XK), Gd (A.deeper (PyProof.Rows.envOfC qual (defScope st) sh.heap.objs.size f cdv)) → Room k (A.deeper (PyProof.Rows.envOfC qual (defScope st) sh.heap.objs.size f cdv)) → sp vs H Q E →
      ∃ t, PSs (cxOf (L2.CX P w) P w K mg base N qual (defScope st) f cdv A outer sh H E) (defBody st) t ∧ t { nx := fun _ H' => Q .non H', rt := Q } (start N vs) H) :
    FnX P w K mg base (k + 1) f fd ps sp := by
  obtain ⟨oc, od, kV, doc, pm, an, cdv, ct, osl, rfl, lk, hcd⟩ := F.ex
  refine ⟨len, fun A outer sh H args us vs Q E gd rm e0 bnd rv q => ?_⟩
  have hlen := len _ _ _ _ q
  have kin : K.In sh.heap := e0.mod.kin.keeps fun b o z => (e0.bs b o z).1
  have nolim : sh.heap.NoLimit := e0.mod.nolimit.keeps fun b o z => (e0.bs b o z).1
  have kinds : ∀ y ∈ ps.zip us, (defScope st).names.lookup y.1 = some .local ∨ ((defScope st).names.lookup y.1 = some .cell ∧ ((cellsFrom (sh.heap.objs.size + 1) (defScope st).names []).lookup y.1).isSome = true) := by
    rintro ⟨nm, vl⟩ hy
    exact (S.par nm (List.of_mem_zip hy).1).elim .inl fun z => .inr ⟨z, PySem.W.cellsFrom_some _ _ _ (.inl z)⟩
  refine codeAny_call_function rm.depth (kin _ _ lk) rfl S.co S.gen rfl (PySem.W.codeRec_of kin hcd) (bnd _ _ _ _ ?_)
  refine wpAny_newFunctionEnv_cells S.kind kinds fun env he sh1 xx => ?_
  subst he
  refine ⟨nolim.keeps xx.toInCall.keep, codeAny_func ?_⟩
  obtain ⟨t, ht, hq⟩ := body cdv A outer sh H vs Q E gd (rm.deeper _) q
  have iv := inv_start (CX := L2.CX P w) (E := E) S rm.hd e0 hlen rv xx
  refine wpAny_mono (ht.run [] sh1 (start N vs) H _ iv hq) (fun fl sh' hs => ?_) fun _ _ hs => hs
  cases fl with
  | ret u =>
    obtain ⟨v, σ', H', J, r', q'⟩ := hs
    exact ⟨v, H', J.os, J.bare, J.base, J.hok, r', q'⟩
  | next =>
    obtain ⟨σ', H', J, q'⟩ := hs
    exact ⟨V.non, H', J.os, J.bare, J.base, J.hok, rfl, q'⟩
  | brk => obtain ⟨_, _, _, q'⟩ := hs; exact False.elim q'
  | cont => obtain ⟨_, _, _, q'⟩ := hs; exact False.elim q'
theorem Ext.leave {B B' : Bk} {H H' : Hp} (lB : B.l = []) (e : Ext B H B' H') : Ext B H { B' with l := [] } H' :=
  ⟨e.g, e.r, by rw [lB]; exact List.nil_prefix, e.fr, e.tr, e.rn, fun a z => absurd z (by simp), e.gf⟩
theorem okX_def {P : Program} {w : World} {K : PySem.W.Frag} {mg : Str → Option Value} {base : Heap} {x qual : Str} {st : Stmt} {f : Addr} {fd : FuncData} {N ps : List Str} {k : Nat} {m : MsX}
    (F : Fun K x qual st f fd) (S : FnScope N ps (defScope st))
    (body : ∀ (cdv : Value) (A : Around) (outer : List Env) (sh : Shared) (H : Hp) (E : XK), Gd (A.deeper (PyProof.Rows.envOfC qual (defScope st) sh.heap.objs.size f cdv)) → Room k (A.deeper (PyProof.Rows.envOfC qual (defScope st) sh.heap.objs.size f cdv)) →
      PassesOwn (model P w) (A.deeper (PyProof.Rows.envOfC qual (defScope st) sh.heap.objs.size f cdv)) (PyProof.Rows.envOfC qual (defScope st) sh.heap.objs.size f cdv) (cxOf (L2.CX P w) P w K mg base N qual (defScope st) f cdv A outer sh H E).xe →
      MSsX (cxOf (L2.CX P w) P w K mg base N qual (defScope st) f cdv A outer sh H E) (defBody st) m) :
    FnX P w K mg base (k + 1) f fd ps (spX K mg (mDefX ps.length N.length m)) := by
  refine fnx_of F S (fun vs H Q E h => ?_) fun cdv A outer sh H vs Q E gd rm h => ?_
  · obtain ⟨ts, D, B, Q1, W1, ⟨h1, _⟩, _, r, _⟩ := h
    exact (paired_len r).trans h1
  · obtain ⟨ts, D, B, Q1, W1, ⟨h1, h2⟩, wd, r, kk, kx⟩ := h
    refine ⟨_, body cdv A outer sh H E gd rm (passes_of rfl) (fun cls d _ H' => E cls d H') (takes_of rfl rfl rfl rfl), ?_⟩
    have lB : B.l = [] := List.length_eq_zero_iff.mp wd.llen
    have s0 := start_sl (N := N) r
    rw [h1] at s0
    refine ⟨_, _, _, ⟨D, []⟩, B, h2, wd, s0, ⟨fun τ' M' B' σ' H' q w' e' s' => ?_, fun v t M' B' H' q w' e' r' => ?_, fun _ _ _ _ _ q => q.elim, fun _ _ _ _ _ q => q.elim⟩, fun e cls d τ' M' B' σ' H' q w' e' _ rx => ?_⟩
    · exact kk .non .non M'.D { B' with l := [] } H' q w'.leave (e'.leave lB) .non
    · exact kk v t M'.D { B' with l := [] } H' q.2 w'.leave (e'.leave lB) (r'.deck q.1)
    · exact kx e cls d M'.D { B' with l := [] } H' q w'.leave (e'.leave lB) rx
def fDefX (m : FX) (Wt : Wx) : FA := fun ts M Q => (∀ t ∈ ts, noL t = true) ∧ m ts M.D (fun t D' => Q t { M with D := D' }) fun e D' => Wt e { M with D := D' }
/-- back in the frame that called: its own lists are there again -/
theorem back_wd {K : PySem.W.Frag} {M : Mem} {B B1 : Bk} {H H1 : Hp} {D' : List Cell} (w : Wd K B M H) (w1 : Wd K B1 ⟨D', []⟩ H1) (e1 : Ext { B with l := [] } H B1 H1) :
    Wd K { B1 with l := B.l } { M with D := D' } H1 ∧ Ext B H { B1 with l := B.l } H1 := by
  have l1 : B1.l = [] := List.length_eq_zero_iff.mp w1.llen
  have own : ∀ a ∈ B.l, H a ≠ none := fun a z => w.tr a (List.mem_append_right _ z)
  have nr1 : ∀ a ∈ B.l, a ∉ B1.r := fun a z y => by
    rcases e1.rn a y with q | q
    · exact w.rl q z
    · exact own a z q
  have stay : ∀ {a : Addr} {o : HO}, a ∈ B.l → H a = some o → H1 a = some o := fun {a o} z e => e1.fr a o e (fun y => w.rl y z) fun y => by cases y
  refine ⟨⟨w1.le, w1.rlen, w.llen, ?_, w1.dc, fun i a ds h1 h2 => ?_, fun a ha => ?_⟩, ⟨e1.g, e1.r, List.prefix_refl _, fun a o e n1 n2 => e1.fr a o e n1 (by intro y; cases y), e1.tr, e1.rn, fun a z => .inl z, fun a o e => (e1.gf a o e).elim .inl fun z => z.elim (fun z => .inr (.inl z)) (by intro z; cases z)⟩⟩
  · show (B1.r ++ B.l).Nodup
    have n1 := w1.nd
    rw [l1, List.append_nil] at n1
    refine List.nodup_append.mpr ⟨n1, (List.nodup_append.mp w.nd).2.1, fun x hx y hy z => ?_⟩
    subst z
    exact nr1 x hy hx
  · obtain ⟨q1, xs, q2, q3⟩ := w.lc i a ds h1 h2
    have ml := mem_of_get h1
    refine ⟨?_, xs, stay ml q2, RpA.mono e1.g q3⟩
    show B1.G a = none
    cases z : B1.G a with
    | none => rfl
    | some o =>
      rcases e1.gf a o z with y | y | y
      · rw [show B.G a = none from q1] at y; cases y
      · exact absurd y (own a ml)
      · cases y
  · have ha' : a ∈ B1.r ++ B.l := ha
    rcases List.mem_append.mp ha' with z | z
    · exact w1.tr a (List.mem_append_left _ z)
    · exact fun y => own a z (e1.tr a y)
theorem back_rt {K : PySem.W.Frag} {B B1 : Bk} {v : V} {t : T} (l1 : B1.l = []) (r1 : Rt K B1 v t) : Rt K { B1 with l := B.l } v t := by
  cases t with
  | d x => exact r1
  | mr i => exact r1
  | lr i =>
    obtain ⟨a, _, z⟩ := r1
    rw [l1] at z
    simp at z
  | scr ns => exact r1
  | wt xs => exact r1
  | exo a c d e => exact r1
theorem spx_of {K : PySem.W.Frag} {mg : Str → Option Value} {m : FX} {vs : List V} {ts : List T} {M : Mem} {B : Bk} {H : Hp} {Q : Kt} {Q' : VK} {Wt : Wx} {E : XK} (h : fDefX m Wt ts M Q) (w : Wd K B M H) (r : Paired (Rt K B) vs ts)
    (k : ∀ v t' M' B' H', Q t' M' → Wd K B' M' H' → Ext B H B' H' → Rt K B' v t' → Q' v H') (kx : ∀ e cls d M' B' H', Wt e M' → Wd K B' M' H' → Ext B H B' H' → Rx K mg B'.G cls d e → E cls d H') : spX K mg m vs H Q' E := by
  refine ⟨ts, M.D, { B with l := [] }, _, _, h.2, w.leave, paired_deck r h.1, fun v t D' B1 H1 q w1 e1 r1 => ?_, fun e cls d D' B1 H1 q w1 e1 r1 => ?_⟩
  · obtain ⟨w2, e2⟩ := back_wd w w1 e1
    exact k v t _ _ H1 q w2 e2 (back_rt (List.length_eq_zero_iff.mp w1.llen) r1)
  · obtain ⟨w2, e2⟩ := back_wd w w1 e1
    exact kx e cls d _ _ H1 q w2 e2 r1
def KnX (P : Program) (w : World) (K : PySem.W.Frag) (mg : Str → Option Value) (base : Heap) (k : Nat) (x : Str) (st : Stmt) (ps : List Str) (m : FX) : Prop :=
  ∃ f fd, FnX P w K mg base k f fd ps (spX K mg m) ∧ mg x = some (.ref f) ∧ Fun K x x st f fd ∧ Binds K fd ps []
section
variable {X : Cx} {j k : Nat} {x : Str} {st : Stmt} {f : Addr} {fd : FuncData} {ps ks : List Str} {m : FX} {p pos : Pos} {e : Expr} {es : List Expr} {mr : Ma} {kws : List Keyword}
theorem run_x {args : Args} {us : List Value} {vs : List V} {sp : Sp} {pn : List (Addr × Obj)} {sh : Shared} {sg : L2.St} {hp : Hp} {Q : VK} {W : WX} (F : FnX X.prog X.w X.K X.mg X.base k f fd ps sp) (gd : Gd X.A) (rm : Room k X.A)
    (hb : BindsTo sh fd args (ps.zip us)) (tk : Takes X W) (iv : Inv X pn sg hp sh) (rv : Vals vs us) (h : sp vs hp Q fun cls d H' => W cls d sg H') : wpAny (model X.prog X.w) X.A (call (.ref f) args.pos args.kw) (EP X pn sg Q) X.xe sh := by
  refine wpAny_call (codeAny_mono (F.run X.A X.stack sh hp args us vs Q _ gd rm iv.env0 hb rv h) fun r sh' hq => ?_)
  cases r with
  | error z => exact passAt tk sg pn hp sh z sh' iv hq
  | ok fl =>
    cases fl with
    | ret u => exact iv.after hq
    | next => exact hq.elim
    | brk => exact hq.elim
    | cont => exact hq.elim
theorem mex_fn (h : KnX X.prog X.w X.K X.mg X.base j x st ps m) (gd : Gd X.A) (rm : Room k X.A) (hj : j ≤ k) (hg : Gl X x) (ha : MA X (e :: es) mr) (hdb : (x == ("__debug__" : Str)) = false := by decide)
    (he : starEach (e :: es) X.env = (false, eval e X.env) :: starEach es X.env := by rfl) (hpl : (backTo pos (starEach es X.env)).any (·.1) = false := by rfl) : MEX X (.Call (.Name x p) (e :: es) [] pos) fun Wt => mCall (fDefX m Wt) mr := fun W tk => by
  obtain ⟨f, fd, F, hm, U, hb⟩ := h
  have rm := rm.mono hj
  refine ⟨fun pn sh sg hp Q' iv ⟨τ, M, B, Q, Wt, h, w, s, kk, g⟩ => wpAny_Call_Name_kw (ld_glob iv hg hm ?_ hdb)⟩
  let P := fun (vs : List V) (H1 : Hp) => spX X.K X.mg m vs H1 Q' fun cls d H' => W cls d sg H'
  refine PySem.W.callWith_K (h₀ := X.base) iv.ok.mod.kin U.kp (thn (ha.run pos pn sh sg hp P iv ⟨τ, M, B, _, h, w, s, fun vs ts M1 B1 H1 h1 w1 e1 r1 => ?_⟩) fun us s1 ⟨vs, H1, i1, r, q⟩ => ⟨i1.kIn, ?_⟩) he hpl
  · exact spx_of h1 w1 r1 (fun v t M2 B2 H2 h2 w2 e2 r2 => kk v t M2 B2 H2 h2 w2 (e1.trans e2) r2) fun e c d M2 B2 H2 h2 w2 e2 r2 => g e c d M2 B2 H2 h2 w2 (e1.trans e2) r2
  · have hl : (us ++ []).length = ps.length := by
      rw [List.append_nil, ← r.length]
      exact F.len _ _ _ _ q
    have hbb := hb s1 us i1.kIn hl
    rw [List.append_nil] at hbb
    exact run_x (args := ⟨us, []⟩) F gd rm hbb tk i1 r q
theorem mex_fnK {g : {α : Type} → List α → List α} (h : KnX X.prog X.w X.K X.mg X.base j x st ps m) (gd : Gd X.A) (rm : Room k X.A) (hj : j ≤ k) (hg : Gl X x) (hb : ∀ f fd, Fun X.K x x st f fd → KB X.K fd ps ks g)
    (ha : MK X kws mr) (hall : (backToKw pos (keywordEach kws X.env)).all (·.1.isSome) = true := by rfl) (hks : (backToKw pos (keywordEach kws X.env)).filterMap (·.1) = ks := by rfl) (hdb : (x == ("__debug__" : Str)) = false := by decide)
    (hpl : ((backTo pos (starEach [] X.env)).any (·.1) || (backToKw pos (keywordEach kws X.env)).any (·.1.isNone)) = false := by rfl) : MEX X (.Call (.Name x p) [] kws pos) fun Wt => mCallK g ks.length (fDefX m Wt) mr := fun W tk => by
  obtain ⟨f, fd, F, hm, U, _⟩ := h
  have hb := hb _ _ U
  have rm := rm.mono hj
  refine ⟨fun pn sh sg hp Q' iv ⟨τ, M, B, Q, Wt, h, w, s, kk, gw⟩ => wpAny_Call_Name_kw (ld_glob iv hg hm ?_ hdb)⟩
  let P := fun (vs : List V) (H1 : Hp) => vs.length = ks.length ∧ spX X.K X.mg m (g vs) H1 Q' fun cls d H' => W cls d sg H'
  refine PySem.W.callWith_KW0 (h₀ := X.base) iv.ok.mod.kin U.kp hall (thn (ha.run pos pn sh sg hp P iv ⟨τ, M, B, _, h, w, s, fun vs ts M1 B1 H1 h1 w1 e1 r1 => ?_⟩) fun us s1 ⟨vs, H1, i1, r, l, q⟩ => ⟨i1.kIn, ?_⟩) hpl
  · have l1 : vs.length = ks.length := (paired_len r1).trans h1.1
    exact ⟨l1, spx_of h1.2 w1 (hb.rel _ l1 r1) (fun v t M2 B2 H2 h2 w2 e2 r2 => kk v t M2 B2 H2 h2 w2 (e1.trans e2) r2) fun e c d M2 B2 H2 h2 w2 e2 r2 => gw e c d M2 B2 H2 h2 w2 (e1.trans e2) r2⟩
  · rw [hks]
    have l2 : us.length = ks.length := by
      rw [← r.length]
      exact l
    exact run_x (args := ⟨[], ks.zip us⟩) F gd rm (hb.to s1 us i1.kIn l2) tk i1 (hb.rel _ l r) q
end
end L3
set_option Elab.async false
set_option linter.all false
set_option maxRecDepth 100000
set_option maxHeartbeats 2000000
namespace L3
open PySem PySem.Spec L2
/-- cls is the class c, and the clause names D: that is a hit -/
def Hits (K : PySem.W.Frag) (mg : Str → Option Value) (D : Str) (cs : List Str) : Prop := ∃ C, mg D = some (.ref C) ∧ ∀ c ∈ cs, ∀ cls, mg c = some cls → PySem.W.exmOne K cls (.ref C) = some true
/-- body; what is raised is of the classes cs, all caught: suite, its name at i -/
def mTryAs (cs : List Str) (i : Nat) (body : MsX) (suite : Addr → Value → Option Addr → Exn → Ms) : Ms := fun E τ M => body (fun e τ' M' => e.cls ∈ cs ∧ ∀ a cls d, suite a cls d e { nx := fun τ2 M2 => E.nx (τ2.set i none) M2, rt := E.rt, bk := fun τ2 M2 => E.bk (τ2.set i none) M2, ct := fun τ2 M2 => E.ct (τ2.set i none) M2 } (τ'.set i (some (.exo a cls d e))) M') E τ M
section
variable {X : Cx} {x n : Str} {cs : List Str} {i : Nat} {body suite : List Stmt} {b₀ : Stmt} {np pos pos' : Pos} {mb : MsX} {ms : Addr → Value → Option Addr → Exn → Ms} {mo : Ms}
theorem ms_tryAs (hs : X.stack = X.env :: X.outer) (hf : X.env.frame = some X.env.locals) (hN : X.N.Nodup) (hi : X.N[i]? = some n) (hln : X.env.kindOf n = some .local) (hg : Gl X x) (hdb : (x == ("__debug__" : Str)) = false) (hh : Hits X.K X.mg x cs)
    (hb : ∀ (pn : List (Addr × Obj)) (xe : Value → Shared → Prop), PassesOwn (model X.prog X.w) X.A X.env xe → MSsX (X.tr pn xe) body mb)
    (hsu : ∀ (a : Addr) (oe : Obj) (cls : Value) (d : Option Addr) (e : Exn) (pn : List (Addr × Obj)), Zc cls d oe → (∃ vs, oe.data = .fields vs) → X.mg e.cls = some cls → MSs (X.suite a ((a, oe) :: pn)) (b₀ :: suite) (ms a cls d e)) :
    MS X (.Try body [.ExceptHandler (some (.Name x np)) (some n) (b₀ :: suite) pos'] [] [] pos) (mTryAs cs i mb ms) := by
  obtain ⟨C, gC, hits⟩ := hh
  let ts : Addr → Value → Option Addr → TS := fun a cls d D σ H => ∃ e, X.mg e.cls = some cls ∧ rS X.K (ms a cls d e) D σ H
  refine PS.of (ps_try_as (tb := fun W => rSX X.K X.mg W mb) (ts := ts) (Wout := fun _ _ _ _ => False) hs hf hN hi hln ⟨hg, hdb, .inl gC⟩ takes0 (fun W pn xe tk po => hb pn xe po W tk) fun a oe cls d pn hz hfd => ?_) fun D σ H ⟨E, τ, M, B, h, w, sl, g⟩ => ?_
  · exact ⟨fun pn2 s2 σ2 H2 D2 iv ⟨e, he, q⟩ => (hsu a oe cls d e pn hz hfd he).run pn2 s2 σ2 H2 D2 iv q⟩
  · refine ⟨E, _, τ, M, B, h, w, sl, g, fun e cls d τ' M' B' σ' H' hw w' e' s' rx => ?_⟩
    refine ⟨true, hits e.cls hw.1 cls rx.1, fun _ a ha => ⟨e, rx.1, _, _, M', B', hw.2 a cls d, w', s'.set i ⟨rfl, rx.2⟩, ?_⟩, fun z => Bool.noConfusion z⟩
    refine ⟨fun τ2 M2 B2 σ2 H2 q w2 e2 s2 => g.nx _ M2 B2 _ H2 q w2 (e'.trans e2) (s2.clr i), fun v t M2 B2 H2 q w2 e2 r2 => g.rt v t M2 B2 H2 q w2 (e'.trans e2) r2, fun τ2 M2 B2 σ2 H2 q w2 e2 s2 => g.bk _ M2 B2 _ H2 q w2 (e'.trans e2) (s2.clr i), fun τ2 M2 B2 σ2 H2 q w2 e2 s2 => g.ct _ M2 B2 _ H2 q w2 (e'.trans e2) (s2.clr i)⟩
end
/-- what isinstance says of an exception of the class c, asked for the class that D names -/
def IsiT (K : PySem.W.Frag) (mg : Str → Option Value) (D : V) (tab : List (Str × Bool)) : Prop := (∃ cv, ∀ u, RelV D u → u = cv) ∧ ∀ r ∈ tab, Kx K mg r.1 ∧ ∀ cls, mg r.1 = some cls → ∀ cv, RelV D cv → PySem.W.kitOne K cls cv = some r.2
/-- isinstance(n, D), n at i the exception that the suite holds -/
def mIsE (a : Addr) (cls : Value) (d : Option Addr) (e : Exn) (i : Nat) (tab : List (Str × Bool)) : Me := fun τ M Q => τ[i]? = some (some (.exo a cls d e)) ∧ ∃ b, (e.cls, b) ∈ tab ∧ Q (.bl b) M
section
variable {X : Cx} {a : Addr} {oe : Obj} {cls : Value} {d : Option Addr} {e : Exn} {pn : List (Addr × Obj)} {i : Nat} {x n : Str} {p p2 p3 pos : Pos}
def rIsX (K : PySem.W.Frag) (a : Addr) (cls : Value) (d : Option Addr) : List V → Hp → VK → Prop := fun xs H Q => ∃ (C : Addr) (c : V) (cv : Value) (b : Bool), cls = .ref C ∧ ExF K C ∧ xs = [.ref a, c] ∧ (∀ u, RelV c u → u = cv) ∧ PySem.W.kitOne K cls cv = some b ∧ (d = none ∨ ∃ dd fs, d = some dd ∧ H dd = some (.xd fs)) ∧ Q (.bl b) H
theorem call_isX (hz : Zc cls d oe) (hf : ∃ vs, oe.data = .fields vs) : CallR (X.suite a ((a, oe) :: pn)) (.builtin "isinstance") (rIsX X.K a cls d) := by
  intro pins s σ H xs us Q iv r h
  obtain ⟨C, c, cv, b, rfl, F, rfl, hcv, e, hd, q⟩ := h
  cases r with
  | cons rx rr =>
    cases rr with
    | cons rt rr =>
      cases rr
      cases rx
      have ec := hcv _ rt
      subst ec
      obtain ⟨hget, _⟩ := iv.pin (a, oe) (List.mem_append.mpr (.inl List.mem_cons_self))
      obtain ⟨vs, hv⟩ := hf
      have J : ∃ od, PySem.W.InstAt s.heap a oe C od := by
        rcases hd with hd | ⟨dd, fs, hd, hx⟩
        · exact ⟨none, hget, hz.1, by unfold PySem.W.notCls; rw [hv] <;> rfl, by rw [hz.2, hd]; trivial⟩
        · have hx2 : ObjOk X.prog X.w H s.heap dd (.xd fs) := iv.hok dd _ hx
          obtain ⟨mA, hns, _⟩ := hx2
          obtain ⟨od, ho, _⟩ := lookIn_ns hns
          exact ⟨some od, hget, hz.1, by unfold PySem.W.notCls; rw [hv] <;> rfl, by rw [hz.2, hd]; exact ho⟩
      obtain ⟨od, J⟩ := J
      exact PySem.W.kia_one (PySem.W.kitx_exc F.cl F.ga F.gt F.su F.ha F.hn F.tk F.mo) iv.kIn J e (fun z => nomatch z) fun tk => ⟨.bl b, H, iv.kept (t' := tk) fun _ _ z => z, rfl, q⟩
theorem me_isE {D : V} {tab : List (Str × Bool)} {y : Str} (hz : Zc cls d oe) (hf : ∃ vs, oe.data = .fields vs) (he : X.mg e.cls = some cls) (ht : IsiT X.K X.mg D tab)
    (hn : PE (X.suite a ((a, oe) :: pn)) (.Name n p2) (tVar i)) (hD : PE (X.suite a ((a, oe) :: pn)) (.Name y p3) (tC D)) (hg : Gl X "isinstance") (hm : X.mg "isinstance" = none)
    (h1 : starEach [Expr.Name n p2, .Name y p3] X.env = (false, eval (.Name n p2) X.env) :: starEach [.Name y p3] X.env := by rfl) (h2 : starEach [Expr.Name y p3] X.env = (false, eval (.Name y p3) X.env) :: starEach [] X.env := by rfl)
    (hpl : (backTo pos (starEach [Expr.Name y p3] X.env)).any (·.1) = false := by rfl) :
    ME (X.suite a ((a, oe) :: pn)) (.Call (.Name "isinstance" p) [.Name n p2, .Name y p3] [] pos) (mIsE a cls d e i tab) := by
  refine PE.of (pe_callB (call_isX hz hf) hg hm (by decide +kernel) (pa_cons hn (pa_cons hD pa_nil h2) h1) (by decide) (by decide) h1 hpl) fun σ H Q' ⟨τ, M, B, Q, ⟨hi, b, hb, q⟩, w, s, k⟩ => ?_
  obtain ⟨v, hv, rv, rx⟩ := s.at_ i _ hi
  subst rv
  obtain ⟨⟨cv, hcv⟩, hT⟩ := ht
  obtain ⟨⟨C, gC, F⟩, hk⟩ := hT _ hb
  rw [he] at gC
  cases gC
  refine ⟨_, hv, ?_⟩
  have rD : RelV D cv := by
    cases D with
    | non => exact (hcv .none rfl) ▸ rfl
    | bl b => exact (hcv (.bool b) rfl) ▸ rfl
    | int z => exact (hcv (.int z 0) ⟨0, rfl⟩) ▸ ⟨0, rfl⟩
    | str z => exact (hcv (.str z 0) ⟨0, rfl⟩) ▸ ⟨0, rfl⟩
    | byt z => exact (hcv (.bytes z 0) ⟨0, rfl⟩) ▸ ⟨0, rfl⟩
    | flt z => exact (hcv (.float z 0) ⟨0, rfl⟩) ▸ ⟨0, rfl⟩
    | ref z => exact (hcv (.ref z) rfl) ▸ rfl
    | ty z => exact (hcv (.type z) rfl) ▸ rfl
  refine ⟨C, D, cv, b, rfl, F, rfl, hcv, hk _ he cv rD, ?_, k _ _ M B H q w (.refl _ _) (.bl _)⟩
  unfold ExR at rx
  split at rx
  · exact .inl rx
  · obtain ⟨dd, v, e1, e2, _⟩ := rx
    exact .inr ⟨dd, _, e1, w.le _ _ e2⟩
/-- n.f, n at i the exception that the suite holds, of the class c -/
def mFldE (a : Addr) (cls : Value) (d : Option Addr) (e : Exn) (c f : Str) (i : Nat) : Me := fun τ M Q => τ[i]? = some (some (.exo a cls d e)) ∧ e.cls = c ∧ ∃ x, e.arg = some (f, x) ∧ Q (.d x) M
/-- the class c has no f of its own; its objects have a dict -/
def KxF (K : PySem.W.Frag) (mg : Str → Option Value) (c f : Str) : Prop := ∃ C, mg c = some (.ref C) ∧ XfC K C ∧ PySem.W.findIn K (.ref C) f = some none
theorem me_fldE {c f : Str} (T : KxF X.K X.mg c f) (hz : Zc cls d oe) (hf : ∃ vs, oe.data = .fields vs) (he : X.mg e.cls = some cls) (hn : PE (X.suite a ((a, oe) :: pn)) (.Name n p2) (tVar i))
    (hb : attributeBase (.Name n p2) f X.env (eval (.Name n p2) X.env) = eval (.Name n p2) X.env := by rfl) : ME (X.suite a ((a, oe) :: pn)) (.Attribute (.Name n p2) f pos) (mFldE a cls d e c f i) := by
  obtain ⟨C, gC, F, hno⟩ := T
  refine PE.of (pe_xf F hno hz hf hn hb) fun σ H Q' ⟨τ, M, B, Q, ⟨hi, hc, x, hx, q⟩, w, s, k⟩ => ?_
  obtain ⟨v, hv, rv, rx⟩ := s.at_ i _ hi
  subst rv
  rw [hc, gC] at he
  cases he
  unfold ExR at rx
  rw [hx] at rx
  obtain ⟨dd, v, e1, e2, e3⟩ := rx
  exact ⟨_, hv, rfl, rfl, dd, _, v, e1, w.le _ _ e2, by simp [List.lookup], k v (.d x) M B H q w (.refl _ _) e3⟩
end
end L3
namespace L3
open PySem PySem.Spec L2
theorem exf_of {K : PySem.W.Frag} {C : Addr} (kp : PySem.W.keepIn K (.ref C) = true) (su : PySem.W.subIn K (.ref C) (.type "BaseException") = some true) (ty : PySem.W.typeIn K (.ref C) = some (.type "type")) (cl : PySem.W.isClsIn K C = true)
    (ga : PySem.W.findIn K (.ref C) "__getattribute__" = some (some (.builtin "BaseException.__getattribute__"))) (gt : PySem.W.findIn K (.ref C) "__getattr__" = some none) (ha : PySem.W.findIn K (.ref C) "__class__" = some (some (.builtin "object.__class__")))
    (hn : PySem.W.specialIn K (.builtin "object.__class__") "__get__" = some (some (.builtin "getset_descriptor.__get__"))) (tk : PySem.W.takesIn K (.builtin "object.__class__") = some true) (mo : PySem.W.mroIn K C (.type "object") = some true) : ExF K C :=
  ⟨kp, su, ty, cl, ga, gt, ha, hn, tk, mo⟩
theorem kitc_of {K : PySem.W.Frag} {C D : Addr} {b : Bool} (F : ExF K D) (h : PySem.W.subIn K (.ref C) (.ref D) = some b) : PySem.W.kitCls K (.ref C) (.ref D) = some b := by
  have e : ((PySem.W.clsIn K D).isSome && PySem.W.typeIn K (.ref D) == some (.type "type")) = true := by rw [F.cl, F.ty] <;> rfl
  show (if _ = true then PySem.W.subIn K (.ref C) (.ref D) else none) = some b
  rw [if_pos e]
  exact h
theorem kito_of {K : PySem.W.Frag} {C D : Addr} (F : ExF K D) (h : PySem.W.subIn K (.ref C) (.ref D) = some true) : PySem.W.kitOne K (.ref C) (.ref D) = some true := by
  unfold PySem.W.kitOne
  split
  · rfl
  · exact kitc_of F h
theorem exm_of {K : PySem.W.Frag} {C D : Addr} {b : Bool} (F : ExF K D) (h : PySem.W.subIn K (.ref C) (.ref D) = some b) : PySem.W.exmOne K (.ref C) (.ref D) = some b := by
  have e : (PySem.W.subIn K (.ref D) (.type "BaseException") == some true) = true := by rw [F.su] <;> rfl
  show (if (PySem.W.subIn K (.ref D) (.type "BaseException") == some true) = true then PySem.W.kitCls K (.ref C) (.ref D) else none) = some b
  rw [if_pos e]
  exact kitc_of F h
/-- one class that an except clause of the class D catches -/
def Hit1 (K : PySem.W.Frag) (mg : Str → Option Value) (D c : Str) : Prop := ∃ C E, mg D = some (.ref E) ∧ mg c = some (.ref C) ∧ PySem.W.exmOne K (.ref C) (.ref E) = some true
theorem hits_of {K : PySem.W.Frag} {mg : Str → Option Value} {D : Str} {E : Addr} {cs : List Str} (hD : mg D = some (.ref E)) (h : ∀ c ∈ cs, Hit1 K mg D c) : Hits K mg D cs := by
  refine ⟨E, hD, fun c hc cls hm => ?_⟩
  obtain ⟨C, E', h1, h2, h3⟩ := h c hc
  rw [hD] at h1
  cases h1
  rw [hm] at h2
  cases h2
  exact h3
/-- what isinstance says for one class, asked for D -/
def Isi1 (K : PySem.W.Frag) (mg : Str → Option Value) (D : V) (r : Str × Bool) : Prop := ∃ C, mg r.1 = some (.ref C) ∧ ExF K C ∧ ∀ cv, RelV D cv → PySem.W.kitOne K (.ref C) cv = some r.2
theorem isit_of {K : PySem.W.Frag} {mg : Str → Option Value} {D : V} {tab : List (Str × Bool)} (hD : ∃ cv, ∀ u, RelV D u → u = cv) (h : ∀ r ∈ tab, Isi1 K mg D r) : IsiT K mg D tab := by
  refine ⟨hD, fun r hr => ?_⟩
  obtain ⟨C, h1, h2, h3⟩ := h r hr
  exact ⟨⟨C, h1, h2⟩, fun cls hm cv rv => by
    rw [hm] at h1
    cases h1
    exact h3 cv rv⟩
def IsiO (K : PySem.W.Frag) (mg : Str → Option Value) (y : Str) (tab : List (Str × Bool)) : Prop := ∃ D, mg y = some (.ref D) ∧ IsiT K mg (.ref D) tab
theorem all_nil {α : Type} {P : α → Prop} : ∀ x ∈ ([] : List α), P x := fun x h => absurd h (by simp)
theorem all_cons {α : Type} {P : α → Prop} {a : α} {l : List α} (h : P a) (t : ∀ x ∈ l, P x) : ∀ x ∈ a :: l, P x := fun x hx => by
  rcases List.mem_cons.mp hx with e | e
  · rw [e]; exact h
  · exact t x e
section
variable {X : Cx} {a : Addr} {oe : Obj} {cls : Value} {d : Option Addr} {e : Exn} {pn : List (Addr × Obj)} {i : Nat} {x n : Str} {p p2 p3 pos : Pos}
theorem me_isEo {tab : List (Str × Bool)} {y : Str} (hz : Zc cls d oe) (hf : ∃ vs, oe.data = .fields vs) (he : X.mg e.cls = some cls) (ht : IsiO X.K X.mg y tab)
    (hn : PE (X.suite a ((a, oe) :: pn)) (.Name n p2) (tVar i)) (hgy : Gl X y) (hg : Gl X "isinstance") (hm : X.mg "isinstance" = none) (hdb : (y == ("__debug__" : Str)) = false)
    (h1 : starEach [Expr.Name n p2, .Name y p3] X.env = (false, eval (.Name n p2) X.env) :: starEach [.Name y p3] X.env := by rfl) (h2 : starEach [Expr.Name y p3] X.env = (false, eval (.Name y p3) X.env) :: starEach [] X.env := by rfl)
    (hpl : (backTo pos (starEach [Expr.Name y p3] X.env)).any (·.1) = false := by rfl) :
    ME (X.suite a ((a, oe) :: pn)) (.Call (.Name "isinstance" p) [.Name n p2, .Name y p3] [] pos) (mIsE a cls d e i tab) := by
  obtain ⟨D, gD, hT⟩ := ht
  exact me_isE hz hf he hT hn (pe_glob hgy gD rfl hdb) hg hm h1 h2 hpl
end
end L3
namespace L3
open PySem PySem.Spec L2
theorem w_tryAs {cs : List Str} {i : Nat} {body : MsX} {suite : Addr → Value → Option Addr → Exn → Ms} {E : Es} {τ : En} {M : Mem} (h : body (fun e τ' M' => e.cls ∈ cs ∧ ∀ a cls d, suite a cls d e { nx := fun τ2 M2 => E.nx (τ2.set i none) M2, rt := E.rt, bk := fun τ2 M2 => E.bk (τ2.set i none) M2, ct := fun τ2 M2 => E.ct (τ2.set i none) M2 } (τ'.set i (some (.exo a cls d e))) M') E τ M) : mTryAs cs i body suite E τ M := h
theorem w_ret {m : Me} {E : Es} {τ : En} {M : Mem} (h : m τ M E.rt) : mRet m E τ M := h
theorem w_drop {m : Me} {E : Es} {τ : En} {M : Mem} (h : m τ M fun _ M1 => E.nx τ M1) : mDrop m E τ M := h
theorem w_set {i : Nat} {m : Me} {E : Es} {τ : En} {M : Mem} (h : m τ M fun t M1 => E.nx (τ.set i (some t)) M1) : mSet i m E τ M := h
theorem w_next {E : Es} {τ : En} {M : Mem} (h : E.nx τ M) : mNext E τ M := h
theorem w_ac {m : Me} {a : Ma} {τ : En} {M : Mem} {R : List T → Mem → Prop} (h : m τ M fun x M1 => a τ M1 fun xs M2 => R (x :: xs) M2) : aCons m a τ M R := h
theorem w_lst {a : Ma} {τ : En} {M : Mem} {Q : Kt} (h : a τ M fun ts M1 => match datas ts with
    | some ds => ds.length ≤ sizeLine ∧ Q (.lst ds) M1
    | none => False) : mLst a τ M Q := h
theorem w_tup {a : Ma} {τ : En} {M : Mem} {Q : Kt} (h : a τ M fun ts M1 => match datas ts with
    | some ds => ds.length ≤ sizeLine ∧ Q (.tup ds) M1
    | none => False) : mTup a τ M Q := h
theorem w_call {f : FA} {a : Ma} {τ : En} {M : Mem} {Q : Kt} (h : a τ M fun ts M1 => f ts M1 Q) : mCall f a τ M Q := h
theorem w_op {f : F2} {m r : Me} {τ : En} {M : Mem} {Q : Kt} (h : m τ M fun x M1 => r τ M1 fun y M2 => f x y M2 Q) : mOp f m r τ M Q := h
end L3
set_option Elab.async false
set_option linter.all false
set_option maxRecDepth 100000
set_option maxHeartbeats 2000000
namespace L3
open PySem PySem.Spec L2 PyProof.Rows
mutual
theorem ok_hash : ∀ (n : Nat) (k : NestedKey), okKey n k = true → ∀ w w' : World, k.hash w = k.hash w'
  | _, .none, _, _, _ => rfl
  | _, .num _, _, _, _ => rfl
  | _, .text _, h, _, _ => by simp [okKey] at h
  | 0, .tup _, h, _, _ => by simp [okKey] at h
  | n + 1, .tup ks, h, w, w' => by
    rw [NestedKey.hash, NestedKey.hash, ok_hashes n ks (by simpa [okKey] using h) w w']
theorem ok_hashes : ∀ (n : Nat) (ks : List NestedKey), okKeys n ks = true → ∀ w w' : World, NestedKey.hashes w ks = NestedKey.hashes w' ks
  | _, [], _, _, _ => rfl
  | n, k :: ks, h, w, w' => by
    rw [okKeys, Bool.and_eq_true] at h
    rw [NestedKey.hashes, NestedKey.hashes, ok_hash n k h.1 w w', ok_hashes n ks h.2 w w']
end
mutual
theorem ok_depth : ∀ (n : Nat) (k : NestedKey), okKey n k = true → k.depth ≤ n
  | _, .none, _ => Nat.zero_le _
  | _, .num _, _ => Nat.zero_le _
  | _, .text _, _ => Nat.zero_le _
  | 0, .tup _, h => by simp [okKey] at h
  | n + 1, .tup ks, h => by
    rw [NestedKey.depth]
    exact Nat.succ_le_succ (ok_depths n ks (by simpa [okKey] using h))
theorem ok_depths : ∀ (n : Nat) (ks : List NestedKey), okKeys n ks = true → NestedKey.depthAll ks ≤ n
  | _, [], _ => Nat.zero_le _
  | n, k :: ks, h => by
    rw [okKeys, Bool.and_eq_true] at h
    rw [NestedKey.depthAll]
    exact Nat.max_le.mpr ⟨ok_depth n k h.1, ok_depths n ks h.2⟩
end
section
variable {X : Cx} {pn : List (Addr × Obj)} {sg : L2.St} {H : Hp} {s : Shared}
mutual
theorem nk_data : ∀ k : NestedKey, nk k.data = some k
  | .none => rfl
  | .num i => rfl
  | .text x => rfl
  | .tup ks => by rw [NestedKey.data, nk, nks_datas ks]; rfl
theorem nks_datas : ∀ ks : List NestedKey, nks (NestedKey.datas ks) = some ks
  | [] => rfl
  | k :: ks => by rw [NestedKey.datas, nks, nk_data k, nks_datas ks]
end
theorem nks_cons {d : PyData} {ds : List PyData} {ks : List NestedKey} (h : nks (d :: ds) = some ks) : ∃ k ks', ks = k :: ks' ∧ nk d = some k ∧ nks ds = some ks' := by
  rw [nks] at h
  cases h1 : nk d with
  | none => rw [h1] at h; cases h
  | some k =>
    cases h2 : nks ds with
    | none => rw [h1, h2] at h; cases h
    | some ks' =>
      rw [h1, h2] at h
      cases h
      exact ⟨k, ks', rfl, rfl, rfl⟩
mutual
theorem nest_is (iv : Inv X pn sg H s) : ∀ (d : PyData) (n : Nat) (k : NestedKey), nk d = some k → okKey n k = true → ∀ (v : V) (u : Value), Rp X.K H v d → RelV v u → NestedIs s.heap k u
  | .none, _, _, e, _, _, _, r, ru => by
    cases e
    cases r
    cases ru
    exact .none
  | .bool b, _, _, e, _, _, _, r, ru => by
    cases e
    cases r
    cases ru
    exact .bool rfl
  | .int i, _, _, e, _, _, _, r, ru => by
    cases e
    cases r
    obtain ⟨t, rfl⟩ := ru
    exact .int _ _
  | .str x, _, _, e, h, _, _, _, _ => by
    cases e
    simp [okKey] at h
  | .tuple ds, n, k, e, h, _, _, r, ru => by
    rw [nk] at e
    cases q : nks ds with
    | none => rw [q] at e; cases e
    | some ks =>
      rw [q] at e
      cases e
      cases n with
      | zero => simp [okKey] at h
      | succ n =>
        cases r with
        | tup hT hA =>
          cases ru
          obtain ⟨its, rv, ⟨o, ho, hc, m, hd⟩, _⟩ := iv.tuple hT.t
          exact .tup ho hc hd (by simpa using nests_are iv ds n ks q (by simpa [okKey] using h) _ _ hA rv)
  | .list _, _, _, e, _, _, _, _, _ => by cases e
  | .dict _, _, _, e, _, _, _, _, _ => by cases e
theorem nests_are (iv : Inv X pn sg H s) : ∀ (ds : List PyData) (n : Nat) (ks : List NestedKey), nks ds = some ks → okKeys n ks = true → ∀ (vs : List V) (us : List Value), RpA X.K H vs ds → Vals vs us → NestedAll s.heap ks us
  | [], _, _, e, _, _, _, r, ru => by
    cases e
    cases r
    cases ru
    exact .nil
  | d :: ds, n, _, e, h, _, _, r, ru => by
    obtain ⟨k, ks', rfl, e1, e2⟩ := nks_cons e
    rw [okKeys, Bool.and_eq_true] at h
    cases r with
    | cons r1 r2 =>
      cases ru with
      | cons q1 q2 => exact .cons (nest_is iv d n k e1 h.1 _ _ r1 q1) (nests_are iv ds n ks' e2 h.2 _ _ r2 q2)
end
end
/-- at b stands the tuple that is the key k -/
def KeyAt (K : PySem.W.Frag) (H : Hp) (b : Addr) (k : NestedKey) : Prop := okKey 8 k = true ∧ ∃ d, nk d = some k ∧ Rp K H (.ref b) d
theorem KeyAt.of {K : PySem.W.Frag} {H : Hp} {b : Addr} {k : NestedKey} (h : okKey 8 k = true) (r : Rp K H (.ref b) k.data) : KeyAt K H b k := ⟨h, _, nk_data k, r⟩
def DnAt (K : PySem.W.Frag) (H : Hp) (a : Addr) (es : List (NestedKey × Addr × V)) : Prop := H a = some (.ext (DNok a es)) ∧ ∀ e ∈ es, KeyAt K H e.2.1 e.1
def lookE (es : List (NestedKey × Addr × V)) (k : NestedKey) : Option V := (es.find? fun e => decide (e.1 = k)).map (·.2.2)
def putE (es : List (NestedKey × Addr × V)) (k : NestedKey) (b : Addr) (v : V) : List (NestedKey × Addr × V) :=
  if (lookE es k).isSome then es.map fun e => if e.1 = k then (e.1, e.2.1, v) else e else es ++ [(k, b, v)]
abbrev PrE (es : List (NestedKey × Addr × V)) (xs : List (NestedKey × Addr × Value)) : Prop := Paired (fun (p : NestedKey × Addr × V) (q : NestedKey × Addr × Value) => p.1 = q.1 ∧ p.2.1 = q.2.1 ∧ RelV p.2.2 q.2.2) es xs
theorem PrE.look {es : List (NestedKey × Addr × V)} {xs : List (NestedKey × Addr × Value)} (r : PrE es xs) (k : NestedKey) : RelO (lookE es k) ((atKey xs k).map (·.2)) := by
  unfold PrE at r
  induction r with
  | nil => trivial
  | @cons p q ps qs f _ ih =>
    by_cases z : p.1 = k
    · have e1 : lookE (p :: ps) k = some p.2.2 := by simp [lookE, List.find?_cons, z]
      have e2 : (atKey (q :: qs) k).map (·.2) = some q.2.2 := by simp [atKey, List.find?_cons, f.1.symm.trans z]
      rw [e1, e2]
      exact f.2.2
    · have z2 : ¬ q.1 = k := fun y => z (f.1.trans y)
      have e1 : lookE (p :: ps) k = lookE ps k := by simp [lookE, List.find?_cons, z]
      have e2 : (atKey (q :: qs) k).map (·.2) = (atKey qs k).map (·.2) := by simp [atKey, List.find?_cons, z2]
      rw [e1, e2]
      exact ih
theorem PrE.repl {es : List (NestedKey × Addr × V)} {xs : List (NestedKey × Addr × Value)} (r : PrE es xs) (k : NestedKey) {v : V} {u : Value} (rv : RelV v u) :
    PrE (es.map fun e => if e.1 = k then (e.1, e.2.1, v) else e) (xs.map (putAt k u)) := by
  unfold PrE at r
  induction r with
  | nil => exact .nil
  | @cons p q ps qs f _ ih =>
    refine .cons ?_ ih
    by_cases z : p.1 = k
    · have e1 : (fun e : NestedKey × Addr × V => if e.1 = k then (e.1, e.2.1, v) else e) p = (p.1, p.2.1, v) := if_pos z
      have e2 : putAt k u q = (q.1, q.2.1, u) := if_pos (f.1.symm.trans z)
      rw [e1, e2]
      exact ⟨f.1, f.2.1, rv⟩
    · have e1 : (fun e : NestedKey × Addr × V => if e.1 = k then (e.1, e.2.1, v) else e) p = p := if_neg z
      have e2 : putAt k u q = q := if_neg fun y => z (f.1.trans y)
      rw [e1, e2]
      exact f
theorem PrE.put {es : List (NestedKey × Addr × V)} {xs : List (NestedKey × Addr × Value)} (r : PrE es xs) (k : NestedKey) (b : Addr) {v : V} {u : Value} (rv : RelV v u) : PrE (putE es k b v) (storedH xs k b u) := by
  have e : (lookE es k).isSome = (atKey xs k).isSome := by
    have := (r.look k).isSome_eq
    rw [Option.isSome_map] at this
    exact this
  unfold putE storedH
  rw [e]
  by_cases q : (atKey xs k).isSome = true
  · rw [if_pos q, if_pos q]
    exact r.repl k rv
  · rw [if_neg q, if_neg q]
    exact Paired.snoc r ⟨rfl, rfl, rv⟩
theorem PrE.keys {es : List (NestedKey × Addr × V)} {xs : List (NestedKey × Addr × Value)} (r : PrE es xs) : es.map (·.1) = xs.map (·.1) := by
  unfold PrE at r
  induction r with
  | nil => rfl
  | cons f _ ih => rw [List.map_cons, List.map_cons, ih, f.1]
theorem putE_len (es : List (NestedKey × Addr × V)) (k : NestedKey) (b : Addr) (v : V) : (putE es k b v).length ≤ es.length + 1 := by
  unfold putE
  split
  · rw [List.length_map]; omega
  · rw [List.length_append]; simp
section
variable {P : Program} {w : World} {H : Hp} {h h' : Heap} {a : Addr} {es : List (NestedKey × Addr × V)}
theorem dnok_stay (x : DNok a es h) (k : ∀ o, h.get? a = some o → h'.get? a = some o) : DNok a es h' := by
  obtain ⟨h1, h2, h3, w, xs, r, o, ds, ep, e1, e2⟩ := x
  exact ⟨h1, h2, h3, w, xs, r, o, ds, ep, k _ e1, e2⟩
theorem dno_ok (x : DNok a es h) : ObjOk P w H h a (.ext (DNok a es)) := by
  have x2 := x
  obtain ⟨_, _, _, _, _, _, o, _, _, e1, _⟩ := x2
  exact ⟨x, ⟨o, e1⟩, fun h1 h2 z k => dnok_stay z k⟩
theorem dno_at (ok : HOk P w H h) (e : H a = some (.ext (DNok a es))) : DNok a es h := by
  have x : ObjOk P w H h a (.ext (DNok a es)) := ok a _ e
  exact x.1
end
section
variable {X : Cx} {pn : List (Addr × Obj)} {sg : L2.St} {H : Hp} {s : Shared} {a b : Addr} {es : List (NestedKey × Addr × V)} {k : NestedKey} {v : V} {u : Value} {A : Around} {E : Value → Shared → Prop}
theorem key_is (iv : Inv X pn sg H s) (h : KeyAt X.K H b k) : (nestedKind X.prog X.w).is s.heap k b := let ⟨d, e, r⟩ := h.2; ⟨nest_is iv d 8 k e h.1 _ _ r rfl, ok_depth 8 k h.1⟩
theorem dn_dict (iv : Inv X pn sg H s) (h : DnAt X.K H a es) : es.length ≤ sizeLine ∧ (a == sysModules) = false ∧ (es.map (·.1)).Nodup ∧ ∃ xs, PrE es xs ∧ s.heap.DictOfH (nestedKind X.prog X.w) a xs := by
  obtain ⟨h1, h2⟩ := h
  obtain ⟨z1, z2, z3, w, xs, r, o, ds, ep, e1, e2, e3, e4⟩ := dno_at iv.hok h1
  have all : ∀ {l : List (NestedKey × Addr × V)} {m : List (NestedKey × Addr × Value)}, PrE l m → (∀ e ∈ l, KeyAt X.K H e.2.1 e.1) → (∀ x ∈ m, (nestedKind X.prog X.w).is s.heap x.1 x.2.1) ∧ ∀ x ∈ m, x.1.hash w = x.1.hash X.w := by
    intro l m q
    unfold PrE at q
    induction q with
    | nil => intro _; exact ⟨fun x hx => (nomatch hx), fun x hx => (nomatch hx)⟩
    | @cons p q ps qs hq t ih =>
      intro hk
      obtain ⟨i1, i2⟩ := ih fun e he => hk e (List.mem_cons_of_mem _ he)
      have hp := hk p List.mem_cons_self
      rw [hq.1, hq.2.1] at hp
      refine ⟨fun x hx => ?_, fun x hx => ?_⟩
      · rcases List.mem_cons.mp hx with e | hx
        · subst e; exact key_is iv hp
        · exact i1 x hx
      · rcases List.mem_cons.mp hx with e | hx
        · subst e; exact ok_hash 8 _ hp.1 _ _
        · exact i2 x hx
  obtain ⟨a1, a2⟩ := all r h2
  refine ⟨z1, z2, z3, xs, r, o, ds, ep, e1, e2, e3, e4.trans ?_, a1, by rw [← PrE.keys r]; exact z3⟩
  exact List.map_congr_left fun x hx => by
    show (⟨x.1.hash w, .ref x.2.1, x.2.2⟩ : DictEntry) = ⟨x.1.hash X.w, .ref x.2.1, x.2.2⟩
    rw [a2 x hx]
theorem dn_mk {h' : Heap} {xs : List (NestedKey × Addr × Value)} {P : Program} {w : World} (z1 : es.length ≤ sizeLine) (z2 : (a == sysModules) = false) (r : PrE es xs) (d : h'.DictOfH (nestedKind P w) a xs) : DNok a es h' := by
  obtain ⟨o, ds, ep, e1, e2, e3, e4, _, e5⟩ := d
  exact ⟨z1, z2, by rw [PrE.keys r]; exact e5, w, xs, r, o, ds, ep, e1, e2, e3, e4⟩
theorem dn_ty (iv : Inv X pn sg H s) (h : DnAt X.K H a es) : s.TypeIs (.ref a) "dict" := by
  obtain ⟨_, _, _, xs, _, d⟩ := dn_dict iv h
  exact d.typeIs
theorem dn_get {Q : Value → Shared → Prop} (hu : A.units + 12 < cLine) (iv : Inv X pn sg H s) (h : DnAt X.K H a es) (hk : KeyAt X.K H b k) (hv : lookE es k = some v) (q : ∀ w' s', Inv X pn sg H s' → RelV v w' → Q w' s') :
    wpAny (model X.prog X.w) A (getItem (.ref a) (.ref b)) Q E s := by
  obtain ⟨_, _, _, xs, r, d⟩ := dn_dict iv h
  have rk := r.look k
  rw [hv] at rk
  obtain ⟨w', hw, rw'⟩ := RelO.some_of rk
  obtain ⟨p, hp, hp2⟩ := Option.map_eq_some_iff.mp hw
  refine wpAny_getItem_heap (show A.units + 1 + 8 < cLine by omega) (key_is iv hk) d hp ?_
  rw [hp2]
  exact q w' _ (iv.tok _) rw'
theorem dn_in {Q : Value → Shared → Prop} (hu : A.units + 12 < cLine) (iv : Inv X pn sg H s) (h : DnAt X.K H a es) (hk : KeyAt X.K H b k) (q : ∀ s', Inv X pn sg H s' → Q (.bool (lookE es k).isSome) s') :
    wpAny (model X.prog X.w) A (compareOp .In (.ref b) (.ref a)) Q E s := by
  obtain ⟨_, z2, _, xs, r, d⟩ := dn_dict iv h
  have rk := (r.look k).isSome_eq
  rw [Option.isSome_map] at rk
  refine wpAny_in_heap (show A.units + 1 + 8 < cLine by omega) (key_is iv hk) z2 d ?_
  rw [← rk]
  exact q _ (iv.tok _)
theorem dn_get2 {z : V} {dv : Value} {Q : Value → Shared → Prop} (hu : A.units + 12 < cLine) (iv : Inv X pn sg H s) (h : DnAt X.K H a es) (hk : KeyAt X.K H b k) (rz : RelV z dv) (q : ∀ w' s', Inv X pn sg H s' → RelV ((lookE es k).getD z) w' → Q w' s') :
    wpAny (model X.prog X.w) A (call (.builtin "dict.get") [.ref a, .ref b, dv]) Q E s := by
  obtain ⟨_, z2, _, xs, r, d⟩ := dn_dict iv h
  refine call_meetsIn PySem.F.slot_dict_get d.typeIs PySem.F.entry_dict_get (PySem.F.args_dict_get_3 _ _ _) (meetsH_dict_get_default (nestedKind X.prog X.w) a b z2 dv) ⟨show A.in1.units + 8 < cLine from (by show A.units + 1 + 8 < cLine; omega), k, xs, key_is iv hk, d, q _ _ (iv.tok _) ?_⟩
  have rk := r.look k
  cases e1 : lookE es k with
  | none =>
    rw [e1] at rk
    have : (atKey xs k).map (·.2) = none := RelO.none_of rk
    rw [this]
    exact rz
  | some y =>
    rw [e1] at rk
    obtain ⟨w', hw, rw'⟩ := RelO.some_of rk
    rw [hw]
    exact rw'
theorem dn_set {r0 : Value} {Q : Unit → Shared → Prop} (hu : A.units + 12 < cLine) (iv : Inv X pn sg H s) (h : DnAt X.K H a es) (hk : KeyAt X.K H b k) (hl : es.length < sizeLine) (rv : RelV v r0) (q : ∀ s', Inv X pn sg (upd H a (.ext (DNok a (putE es k b v)))) s' → Q () s') :
    wpAny (model X.prog X.w) A (setItem (.ref a) (.ref b) r0) Q E s := by
  obtain ⟨z1, z2, z3, xs, r, d⟩ := dn_dict iv h
  have hz : xs.length ≤ sizeLine := by rw [← Paired.length r]; exact z1
  refine wpAny_setItem_heap (hsz := hz) (show A.units + 1 + 8 < cLine by omega) (key_is iv hk) d fun h' dd' hs => q _ ?_
  have he : ∃ q, h'.get? a = some q := let ⟨q, _, _, hq, _⟩ := dd'; ⟨q, hq⟩
  exact d_write iv (by rw [h.1]; trivial) hs he (dno_ok (dn_mk (by have := putE_len es k b v; omega) z2 (r.put k b rv) dd'))
theorem dn_new (w : World) (hb : sysModules < s.heap.objs.size) : DNok s.heap.objs.size [] (s.heap.push { cls := .type "dict", data := .dict #[] }) :=
  ⟨Nat.zero_le _, beq_eq_false_iff_ne.mpr (Nat.ne_of_gt hb), List.nodup_nil, w, [], .nil, _, _, _, Heap.get?_push_size _ rfl, ⟨rfl, rfl, rfl⟩, rfl, rfl⟩
end
def lookN (kvs : List (NestedKey × T)) (k : NestedKey) : Option T := (kvs.find? fun kv => decide (kv.1 = k)).map (·.2)
def putN (kvs : List (NestedKey × T)) (k : NestedKey) (t : T) : List (NestedKey × T) :=
  if (lookN kvs k).isSome then kvs.map fun kv => if kv.1 = k then (kv.1, t) else kv else kvs ++ [(k, t)]
abbrev NT (K : PySem.W.Frag) (B : Bk) (es : List (NestedKey × Addr × V)) (kvs : List (NestedKey × T)) : Prop := Paired (fun (p : NestedKey × Addr × V) (q : NestedKey × T) => p.1 = q.1 ∧ okKey 8 q.1 = true ∧ Rp K B.G (.ref p.2.1) q.1.data ∧ Rt K { B with l := [] } p.2.2 q.2) es kvs
theorem NT.look {K : PySem.W.Frag} {B : Bk} {es : List (NestedKey × Addr × V)} {kvs : List (NestedKey × T)} (r : NT K B es kvs) (k : NestedKey) : (lookE es k).isSome = (lookN kvs k).isSome ∧ ∀ t, lookN kvs k = some t → ∃ v, lookE es k = some v ∧ Rt K { B with l := [] } v t := by
  unfold NT at r
  induction r with
  | nil => exact ⟨rfl, fun t e => (nomatch e)⟩
  | @cons p q ps qs f _ ih =>
    by_cases z : q.1 = k
    · have e1 : lookE (p :: ps) k = some p.2.2 := by simp [lookE, List.find?_cons, f.1.trans z]
      have e2 : lookN (q :: qs) k = some q.2 := by simp [lookN, List.find?_cons, z]
      rw [e1, e2]
      exact ⟨rfl, fun t e => by cases e; exact ⟨_, rfl, f.2.2.2⟩⟩
    · have z2 : ¬ p.1 = k := fun y => z (f.1.symm.trans y)
      have e1 : lookE (p :: ps) k = lookE ps k := by simp [lookE, List.find?_cons, z2]
      have e2 : lookN (q :: qs) k = lookN qs k := by simp [lookN, List.find?_cons, z]
      rw [e1, e2]
      exact ih
theorem NT.repl {K : PySem.W.Frag} {B : Bk} {es : List (NestedKey × Addr × V)} {kvs : List (NestedKey × T)} (r : NT K B es kvs) (k : NestedKey) {v : V} {t : T} (rv : Rt K { B with l := [] } v t) :
    NT K B (es.map fun e => if e.1 = k then (e.1, e.2.1, v) else e) (kvs.map fun kv => if kv.1 = k then (kv.1, t) else kv) := by
  unfold NT at r
  induction r with
  | nil => exact .nil
  | @cons p q ps qs f _ ih =>
    refine .cons ?_ ih
    by_cases z : q.1 = k
    · have e1 : (fun e : NestedKey × Addr × V => if e.1 = k then (e.1, e.2.1, v) else e) p = (p.1, p.2.1, v) := if_pos (f.1.trans z)
      have e2 : (fun kv : NestedKey × T => if kv.1 = k then (kv.1, t) else kv) q = (q.1, t) := if_pos z
      rw [e1, e2]
      exact ⟨f.1, f.2.1, f.2.2.1, rv⟩
    · have e1 : (fun e : NestedKey × Addr × V => if e.1 = k then (e.1, e.2.1, v) else e) p = p := if_neg fun y => z (f.1.symm.trans y)
      have e2 : (fun kv : NestedKey × T => if kv.1 = k then (kv.1, t) else kv) q = q := if_neg z
      rw [e1, e2]
      exact f
theorem NT.put {K : PySem.W.Frag} {B : Bk} {es : List (NestedKey × Addr × V)} {kvs : List (NestedKey × T)} (r : NT K B es kvs) {k : NestedKey} {b : Addr} (hk : okKey 8 k = true) (hb : Rp K B.G (.ref b) k.data) {v : V} {t : T} (rv : Rt K { B with l := [] } v t) :
    NT K B (putE es k b v) (putN kvs k t) := by
  unfold putE putN
  rw [(r.look k).1]
  split
  · exact r.repl k rv
  · exact Paired.snoc r ⟨rfl, hk, hb, rv⟩
theorem NT.at {K : PySem.W.Frag} {B : Bk} {M : Mem} {H : Hp} {es : List (NestedKey × Addr × V)} {kvs : List (NestedKey × T)} (w : Wd K B M H) (r : NT K B es kvs) : ∀ e ∈ es, KeyAt K H e.2.1 e.1 := by
  unfold NT at r
  induction r with
  | nil => intro e he; cases he
  | @cons p q ps qs f _ ih =>
    intro e he
    rcases List.mem_cons.mp he with z | he
    · subst z
      rw [← f.1] at f
      exact .of f.2.1 (w.rp f.2.2.1)
    · exact ih e he
/-- the dict at i of the deck, and a key -/
def keyT (y : T) (k : NestedKey) : Prop := ∃ ks, k = .tup ks ∧ y = .d (.tuple (NestedKey.datas ks)) ∧ okKey 8 k = true
theorem keyT_at {K : PySem.W.Frag} {B : Bk} {y : V} {t : T} {k : NestedKey} (r : Rt K B y t) (h : keyT t k) : ∃ b, y = .ref b ∧ okKey 8 k = true ∧ Rp K B.G (.ref b) k.data := by
  obtain ⟨ks, rfl, rfl, hk⟩ := h
  have r' : Rp K B.G y (.tuple (NestedKey.datas ks)) := r
  cases r' with
  | tup e q => exact ⟨_, rfl, hk, .tup e q⟩
def oNGet : F2 := fun x y M Q => ∃ i k kvs t, x = .mr i ∧ keyT y k ∧ M.D[i]? = some (.dnk kvs) ∧ lookN kvs k = some t ∧ Q t M
def oNIn (n : Bool) : F2 := fun y x M Q => ∃ i k kvs, x = .mr i ∧ keyT y k ∧ M.D[i]? = some (.dnk kvs) ∧ Q (.bl (if n then !(lookN kvs k).isSome else (lookN kvs k).isSome)) M
def mNPut (d k v : Me) : Ms := fun E τ M => v τ M fun t M1 => d τ M1 fun x M2 => k τ M2 fun y M3 => ∃ i k kvs, x = .mr i ∧ keyT y k ∧ M3.D[i]? = some (.dnk kvs) ∧ noL t = true ∧ kvs.length < sizeLine ∧ E.nx τ { M3 with D := M3.D.set i (.dnk (putN kvs k t)) }
def mNNew : Me := fun _ M Q => Q (.mr M.D.length) { M with D := M.D ++ [.dnk []] }
section
variable {X : Cx} {o i e f value : Expr} {mo mi mv mz : Me} {pos pos' apos cpos : Pos} {kk : Nat}
theorem dn_wd {K : PySem.W.Frag} {B : Bk} {M : Mem} {H : Hp} (w : Wd K B M H) {x : V} {n : Nat} {kvs : List (NestedKey × T)} (r : Rt K B x (.mr n)) (hD : M.D[n]? = some (.dnk kvs)) : ∃ a es, x = .ref a ∧ B.r[n]? = some a ∧ DnAt K H a es ∧ NT K B es kvs := by
  obtain ⟨a, rfl, ha⟩ := r
  obtain ⟨_, es, e, q⟩ := w.dc _ _ _ ha hD
  exact ⟨a, es, rfl, ha, ⟨e, NT.at w q⟩, q⟩
theorem me_nget (rm : Room kk X.A) (ho : ME X o mo) (hi : ME X i mi) (hs : NoSl i) : ME X (.Subscript o i pos) (mOp oNGet mo mi) := by
  refine ⟨fun pins s σ H Q' iv ⟨τ, M, B, Q, h, w, sl, kc⟩ => ?_⟩
  let P1 := fun (x : V) (H1 : Hp) => ∃ t M1 B1, (mi τ M1 fun y M2 => oNGet t y M2 Q) ∧ Wd X.K B1 M1 H1 ∧ Ext B H B1 H1 ∧ Rt X.K B1 x t
  refine subD_of PySem.F.slot_dict_getitem.lookup hs (thn (ho.run pins s σ H P1 iv ⟨τ, M, B, _, h, w, sl, fun v t M1 B1 H1 h1 w1 e1 r1 => ⟨t, M1, B1, h1, w1, e1, r1⟩⟩) fun u s1 ⟨x, H1, I1, rx, t, M1, B1, h1, w1, e1, r1⟩ => ?_)
  let P2 := fun (y : V) (H2 : Hp) => ∃ ty M2 B2, oNGet t ty M2 Q ∧ Wd X.K B2 M2 H2 ∧ Ext B1 H1 B2 H2 ∧ Rt X.K B2 y ty
  refine thn (hi.run pins s1 σ H1 P2 I1 ⟨τ, M1, B1, _, h1, w1, sl.mono e1, fun v t M2 B2 H2 h2 w2 e2 r2 => ⟨t, M2, B2, h2, w2, e2, r2⟩⟩) fun iu s2 ⟨y, H2, I2, ry, ty, M2, B2, ⟨n, k, kvs, t', ex, hk, hD, hl, hQ⟩, w2, e2, r2⟩ => ?_
  subst ex
  obtain ⟨a, es, rfl, ha, hd, hn⟩ := dn_wd w2 (Rt.mono e2 r1) hD
  obtain ⟨b, rfl, hk8, hb⟩ := keyT_at r2 hk
  obtain rfl : u = Value.ref a := rx
  obtain rfl : iu = Value.ref b := ry
  obtain ⟨v, hv, rv⟩ := (hn.look k).2 t' hl
  exact ⟨dn_ty I2 hd, dn_get (by have := rm.un; omega) I2 hd (.of hk8 (w2.rp hb)) hv fun w' s3 I3 rw' => ⟨v, H2, I3, rw', kc _ _ M2 B2 H2 hQ w2 (e1.trans e2) rv.undeck⟩⟩
theorem opl_nin {K : PySem.W.Frag} : OpL K (fun y x H Q => ∃ a b es k, x = .ref a ∧ y = .ref b ∧ DnAt K H a es ∧ KeyAt K H b k ∧ Q (.bl (lookE es k).isSome) H) (oNIn false) := by
  rintro y x ty tx M B H Q Q' ⟨n, k, kvs, rfl, hk, hD, hQ⟩ w ry rx kc
  obtain ⟨a, es, rfl, ha, hd, hn⟩ := dn_wd w rx hD
  obtain ⟨b, rfl, hk8, hb⟩ := keyT_at ry hk
  refine ⟨a, b, es, k, rfl, rfl, hd, (.of hk8 (w.rp hb)), ?_⟩
  rw [(hn.look k).1]
  exact kc _ _ M B H hQ w (.refl _ _) (.bl _)
theorem op_nin (rm : Room kk X.A) : OpR X (compareOp .In) (fun y x H Q => ∃ a b es k, x = .ref a ∧ y = .ref b ∧ DnAt X.K H a es ∧ KeyAt X.K H b k ∧ Q (.bl (lookE es k).isSome) H) := by
  rintro pn s σ H x y v u Q iv rx ry ⟨a, b, es, k, rfl, rfl, hd, hk, q⟩
  cases rx
  cases ry
  exact dn_in (by have := rm.un; omega) iv hd hk fun s' I' => ⟨.bl _, H, I', rfl, q⟩
theorem mb_nin (rm : Room kk X.A) (hi : ME X i mi) (ho : ME X o mo) (hm : behindInMarks .In o = false := by with_unfolding_all rfl) : MB X (.Compare i [.In] [o] pos) (mTest (mOp (oNIn false) mi mo)) := mb_cmp (op_nin rm) opl_nin hi ho hm
theorem me_nnew : ME X (.Dict [] [] pos) mNNew := ⟨fun pins s σ H Q' iv ⟨τ, M, B, Q, h, w, sl, k⟩ => by
  have hp := iv.hok.fresh (Nat.le_refl s.heap.objs.size)
  obtain ⟨w2, e2⟩ := w.newD hp (o := .ext (DNok s.heap.objs.size [])) (c := .dnk []) fun H' eH => ⟨[], eH, .nil⟩
  exact wpAny_Dict_empty ⟨.ref s.heap.objs.size, _, iv.laid (a := s.heap.objs.size) (t' := s.toks) (fun _ _ q => Heap.get?_push_of_some _ q) (Nat.le_refl _) (dno_ok (dn_new X.w iv.big)), rfl, k _ _ _ _ _ h w2 e2 ⟨_, rfl, by rw [← w.rlen]; exact get_snoc⟩⟩⟩
theorem ms_nput (rm : Room kk X.A) (ho : ME X o mo) (hi : ME X i mi) (hv : ME X value mv) (hs : swapsWith value (some (.Subscript o i pos')) pos.line X.env = pure false := by rfl) :
    MS X (.Assign [.Subscript o i pos'] value pos) (mNPut mo mi mv) := by
  refine ⟨fun pins s σ H D iv ⟨E, τ, M, B, h, w, sl, g⟩ => ?_⟩
  let P1 := fun (x : V) (H1 : Hp) => ∃ t M1 B1, (mo τ M1 fun x M2 => mi τ M2 fun y M3 => ∃ i k kvs, x = .mr i ∧ keyT y k ∧ M3.D[i]? = some (.dnk kvs) ∧ noL t = true ∧ kvs.length < sizeLine ∧ E.nx τ { M3 with D := M3.D.set i (.dnk (putN kvs k t)) }) ∧ Wd X.K B1 M1 H1 ∧ Ext B H B1 H1 ∧ Rt X.K B1 x t
  refine wpAny_Assign_Subscript (thn (hv.run pins s σ H P1 iv ⟨τ, M, B, _, h, w, sl, fun v t M1 B1 H1 h1 w1 e1 r1 => ⟨t, M1, B1, h1, w1, e1, r1⟩⟩) fun vu s1 ⟨v, H1, I1, rv, t, M1, B1, h1, w1, e1, r1⟩ => ?_) hs
  let P2 := fun (x : V) (H2 : Hp) => ∃ tx M2 B2, (mi τ M2 fun y M3 => ∃ i k kvs, tx = .mr i ∧ keyT y k ∧ M3.D[i]? = some (.dnk kvs) ∧ noL t = true ∧ kvs.length < sizeLine ∧ E.nx τ { M3 with D := M3.D.set i (.dnk (putN kvs k t)) }) ∧ Wd X.K B2 M2 H2 ∧ Ext B1 H1 B2 H2 ∧ Rt X.K B2 x tx
  refine thn (ho.run pins s1 σ H1 P2 I1 ⟨τ, M1, B1, _, h1, w1, sl.mono e1, fun v t M2 B2 H2 h2 w2 e2 r2 => ⟨t, M2, B2, h2, w2, e2, r2⟩⟩) fun u s2 ⟨x, H2, I2, rx, tx, M2, B2, h2, w2, e2, r2⟩ => ?_
  let P3 := fun (y : V) (H3 : Hp) => ∃ ty M3 B3, (∃ i k kvs, tx = .mr i ∧ keyT ty k ∧ M3.D[i]? = some (.dnk kvs) ∧ noL t = true ∧ kvs.length < sizeLine ∧ E.nx τ { M3 with D := M3.D.set i (.dnk (putN kvs k t)) }) ∧ Wd X.K B3 M3 H3 ∧ Ext B2 H2 B3 H3 ∧ Rt X.K B3 y ty
  refine thn (hi.run pins s2 σ H2 P3 I2 ⟨τ, M2, B2, _, h2, w2, (sl.mono e1).mono e2, fun v t M3 B3 H3 h3 w3 e3 r3 => ⟨t, M3, B3, h3, w3, e3, r3⟩⟩) fun iu s3 ⟨y, H3, I3, ry, ty, M3, B3, ⟨n, k, kvs, ex, hk, hD, hno, hlen, hQ⟩, w3, e3, r3⟩ => ?_
  subst ex
  obtain ⟨a, es, rfl, ha, hd, hn⟩ := dn_wd w3 (Rt.mono e3 r2) hD
  obtain ⟨b, rfl, hk8, hb⟩ := keyT_at r3 hk
  obtain rfl : u = Value.ref a := rx
  obtain rfl : iu = Value.ref b := ry
  have rt := Rt.deck hno (Rt.mono e3 (Rt.mono e2 r1))
  refine dn_set (by have := rm.un; omega) I3 hd (.of hk8 (w3.rp hb)) (by rw [Paired.length hn]; exact hlen) rv fun s4 I4 => ?_
  obtain ⟨w4, e4⟩ := w3.setD ha hD (o := .ext (DNok a (putE es k b v))) (c := .dnk (putN kvs k t)) fun H' eH => ⟨_, eH, hn.put hk8 hb rt⟩
  have e14 := e1.trans (e2.trans (e3.trans e4))
  exact ⟨σ, _, I4, g.nx _ _ _ _ _ hQ w4 e14 (sl.mono e14)⟩
end
end L3
set_option Elab.async false
set_option linter.all false
set_option maxRecDepth 100000
set_option maxHeartbeats 2000000
namespace L3
open PySem PySem.Spec L2 PyProof.Rows
end L3
set_option Elab.async false
set_option linter.all false
set_option maxRecDepth 100000
set_option maxHeartbeats 2000000
namespace L3
open PySem PySem.Spec L2 PyProof.Rows
end L3
set_option Elab.async false
set_option linter.all false
set_option maxRecDepth 100000
set_option maxHeartbeats 2000000
namespace L3
open PySem PySem.Spec L2
def T.lo (n : Nat) : T → Bool
  | .mr i => decide (i < n)
  | _ => true
def Cell.lo (n : Nat) : Cell → Bool
  | .lst ts => ts.all (T.lo n)
  | .dct kvs => kvs.all fun p => T.lo n p.2
  | .dnk kvs => kvs.all fun p => T.lo n p.2
  | .held _ => true
  | .exc _ _ => true
  | .dnd kvs => kvs.all fun p => T.lo n p.2
def clo (n : Nat) (D : List Cell) : Prop := (D.take n).all (Cell.lo n) = true
theorem Rt.cutL {K : PySem.W.Frag} {B : Bk} {n : Nat} {v : V} {t : T} (h0 : T.lo n t = true) (h : Rt K { B with l := [] } v t) : Rt K { B with r := B.r.take n, l := [] } v t := by
  cases t with
  | d x => exact h
  | mr i =>
    obtain ⟨a, e, q⟩ := h
    have hi : i < n := of_decide_eq_true h0
    refine ⟨a, e, ?_⟩
    show (B.r.take n)[i]? = some a
    rw [List.getElem?_take, if_pos hi]
    exact q
  | lr i => exact h
  | scr ns => exact h
  | wt xs => exact h
  | exo a c d e => exact h
theorem paired_cutL {K : PySem.W.Frag} {B : Bk} {n : Nat} : ∀ {vs : List V} {ts : List T}, ts.all (T.lo n) = true → Paired (Rt K { B with l := [] }) vs ts → Paired (Rt K { B with r := B.r.take n, l := [] }) vs ts
  | _, _, _, .nil => .nil
  | _, _, h, .cons b r => by
    rw [List.all_cons, Bool.and_eq_true] at h
    exact .cons (Rt.cutL h.1 b) (paired_cutL h.2 r)
theorem paired_cutLD {K : PySem.W.Frag} {B : Bk} {n : Nat} : ∀ {vs : List (Key × V)} {ts : List (Key × T)}, (ts.all fun p => T.lo n p.2) = true → Paired (fun (p : Key × V) (q : Key × T) => p.1 = q.1 ∧ Rt K { B with l := [] } p.2 q.2) vs ts → Paired (fun (p : Key × V) (q : Key × T) => p.1 = q.1 ∧ Rt K { B with r := B.r.take n, l := [] } p.2 q.2) vs ts
  | _, _, _, .nil => .nil
  | _, _, h, .cons b r => by
    rw [List.all_cons, Bool.and_eq_true] at h
    exact .cons ⟨b.1, Rt.cutL h.1 b.2⟩ (paired_cutLD h.2 r)
theorem paired_cutLN {K : PySem.W.Frag} {B : Bk} {n : Nat} : ∀ {vs : List (NestedKey × Addr × V)} {ts : List (NestedKey × T)}, (ts.all fun p => T.lo n p.2) = true →
    Paired (fun (p : NestedKey × Addr × V) (q : NestedKey × T) => p.1 = q.1 ∧ okKey 8 q.1 = true ∧ Rp K B.G (.ref p.2.1) q.1.data ∧ Rt K { B with l := [] } p.2.2 q.2) vs ts →
    Paired (fun (p : NestedKey × Addr × V) (q : NestedKey × T) => p.1 = q.1 ∧ okKey 8 q.1 = true ∧ Rp K B.G (.ref p.2.1) q.1.data ∧ Rt K { B with r := B.r.take n, l := [] } p.2.2 q.2) vs ts
  | _, _, _, .nil => .nil
  | _, _, h, .cons b r => by
    rw [List.all_cons, Bool.and_eq_true] at h
    exact .cons ⟨b.1, b.2.1, b.2.2.1, Rt.cutL h.1 b.2.2.2⟩ (paired_cutLN h.2 r)
theorem paired_cutLK {K : PySem.W.Frag} {B : Bk} {n : Nat} : ∀ {vs : List (NestedKey × Addr × V)} {ts : List (PyData × T)}, (ts.all fun p => T.lo n p.2) = true →
    Paired (fun (p : NestedKey × Addr × V) (q : PyData × T) => nk q.1 = some p.1 ∧ okKey 8 p.1 = true ∧ Rp K B.G (.ref p.2.1) q.1 ∧ Rt K { B with l := [] } p.2.2 q.2) vs ts →
    Paired (fun (p : NestedKey × Addr × V) (q : PyData × T) => nk q.1 = some p.1 ∧ okKey 8 p.1 = true ∧ Rp K B.G (.ref p.2.1) q.1 ∧ Rt K { B with r := B.r.take n, l := [] } p.2.2 q.2) vs ts
  | _, _, _, .nil => .nil
  | _, _, h, .cons b r => by
    rw [List.all_cons, Bool.and_eq_true] at h
    exact .cons ⟨b.1, b.2.1, b.2.2.1, Rt.cutL h.1 b.2.2.2⟩ (paired_cutLK h.2 r)
theorem Wd.cutL {K : PySem.W.Frag} {B : Bk} {M : Mem} {H : Hp} {n : Nat} (w : Wd K B M H) (hD : clo n M.D) : Wd K { B with r := B.r.take n, l := [] } ⟨M.D.take n, []⟩ H := by
  have nr : B.r.Nodup := (List.nodup_append.mp w.nd).1
  refine ⟨w.le, ?_, rfl, ?_, fun i a c h1 h2 => ?_, fun i a ds h1 _ => ?_, fun a ha => ?_⟩
  · show (B.r.take n).length = (M.D.take n).length
    rw [List.length_take, List.length_take, w.rlen]
  · show (B.r.take n ++ []).Nodup
    rw [List.append_nil]
    exact nr.sublist (List.take_sublist _ _)
  · have h1' : (B.r.take n)[i]? = some a := h1
    have h2' : (M.D.take n)[i]? = some c := h2
    have hc : Cell.lo n c = true := List.all_eq_true.mp hD c (List.mem_of_getElem? h2')
    rw [List.getElem?_take] at h1' h2'
    split at h1'
    · rename_i hi
      rw [if_pos hi] at h2'
      obtain ⟨z1, z2⟩ := w.dc i a c h1' h2'
      refine ⟨z1, ?_⟩
      cases c with
      | lst ts =>
        obtain ⟨xs, e1, e2⟩ := z2
        exact ⟨xs, e1, paired_cutL hc e2⟩
      | dct kvs =>
        obtain ⟨xs, e1, e2⟩ := z2
        exact ⟨xs, e1, paired_cutLD hc e2⟩
      | held u => exact z2
      | exc f2 e2 => exact z2
      | dnd kvs =>
        obtain ⟨xs, e1, e2⟩ := z2
        exact ⟨xs, e1, paired_cutLK hc e2⟩
      | dnk kvs =>
        obtain ⟨xs, e1, e2⟩ := z2
        exact ⟨xs, e1, paired_cutLN hc e2⟩
    · cases h1'
  · have h1' : ([] : List Addr)[i]? = some a := h1
    simp at h1'
  · have ha' : a ∈ B.r.take n ++ [] := ha
    rw [List.append_nil] at ha'
    exact w.tr a (List.mem_append_left _ (List.mem_of_mem_take ha'))
def mDefC (n N : Nat) (body : Ms) : FD := fun ts D Q => ts.length = n ∧ body { nx := fun _ M => clo D.length M.D ∧ Q .non (M.D.take D.length), rt := fun t M => (∃ x, t = .d x) ∧ clo D.length M.D ∧ Q t (M.D.take D.length) } (ts.map some ++ List.replicate (N - n) none) ⟨D, []⟩
theorem okC_def {P : Program} {w : World} {K : PySem.W.Frag} {mg : Str → Option Value} {base : Heap} {x qual : Str} {st : Stmt} {f : Addr} {fd : FuncData} {N ps : List Str} {k : Nat} {m : Ms}
    (F : Fun K x qual st f fd) (S : FnScope N ps (defScope st))
    (body : ∀ (cdv : Value) (A : Around) (outer : List Env) (sh : Shared) (H : Hp) (E : XK), Gd (A.deeper (PyProof.Rows.envOfC qual (defScope st) sh.heap.objs.size f cdv)) → Room k (A.deeper (PyProof.Rows.envOfC qual (defScope st) sh.heap.objs.size f cdv)) →
      MSs (cxOf CX0 P w K mg base N qual (defScope st) f cdv A outer sh H E).nox (defBody st) m) :
    FnG P w K mg base (k + 1) f fd ps (spM K (mDefC ps.length N.length m)) := by
  refine fng_of F S (fun vs H Q E h => ?_) fun cdv A outer sh H vs Q E gd rm h => ?_
  · obtain ⟨ts, D, B, Q1, ⟨h1, _⟩, _, r, _⟩ := h
    exact (paired_len r).trans h1
  · obtain ⟨ts, D, B, Q1, ⟨h1, h2⟩, wd, r, kk⟩ := h
    refine ⟨_, body cdv A outer sh H E gd rm, ?_⟩
    have lB : B.l = [] := List.length_eq_zero_iff.mp wd.llen
    have lr : B.r.length = D.length := wd.rlen
    have s0 := start_sl (N := N) r
    rw [h1] at s0
    refine ⟨_, _, ⟨D, []⟩, B, h2, wd, s0, ⟨fun τ' M' B' σ' H' q w' e' s' => ?_, fun v t M' B' H' q w' e' r' => ?_, fun _ _ _ _ _ q => q.elim, fun _ _ _ _ _ q => q.elim⟩⟩
    · have e2 := e'.cut
      rw [lB, lr] at e2
      exact kk .non .non _ _ H' q.2 (Wd.cutL w' q.1) e2 .non
    · obtain ⟨⟨x, rfl⟩, q1, q2⟩ := q
      have e2 := e'.cut
      rw [lB, lr] at e2
      exact kk v (.d x) _ _ H' q2 (Wd.cutL w' q1) e2 r'
def fDefC (m : FD) : FA := fun ts M Q => ∃ n, n ≤ M.D.length ∧ clo n M.D ∧ (∀ t ∈ ts, noL t = true ∧ T.lo n t = true) ∧ m ts (M.D.take n) fun t D' => D'.length = n ∧ Q t { M with D := D' ++ M.D.drop n }
theorem paired_deckL {K : PySem.W.Frag} {B : Bk} {n : Nat} : ∀ {vs : List V} {ts : List T}, Paired (Rt K B) vs ts → (∀ t ∈ ts, noL t = true ∧ T.lo n t = true) → Paired (Rt K { B with r := B.r.take n, l := [] }) vs ts
  | _, _, .nil, _ => .nil
  | _, _, .cons p q, h => .cons (Rt.cutL (h _ (List.mem_cons_self ..)).2 (p.deck (h _ (List.mem_cons_self ..)).1)) (paired_deckL q fun t z => h t (List.mem_cons_of_mem _ z))
theorem sp_ofC {K : PySem.W.Frag} {m : FD} {vs : List V} {ts : List T} {M : Mem} {B : Bk} {H : Hp} {Q : Kt} {Q' : VK} {E : XK} (h : fDefC m ts M Q) (w : Wd K B M H) (r : Paired (Rt K B) vs ts)
    (k : ∀ v t' M' B' H', Q t' M' → Wd K B' M' H' → Ext B H B' H' → Rt K B' v t' → Q' v H') : spM K m vs H Q' E := by
  obtain ⟨n, hn, hc, hts, h⟩ := h
  refine ⟨ts, M.D.take n, { B with r := B.r.take n, l := [] }, _, h, w.cutL hc, paired_deckL r hts, fun v t D' B1 H1 q w1 e1 r1 => ?_⟩
  obtain ⟨hl, q⟩ := q
  have l1 : B1.l = [] := List.length_eq_zero_iff.mp w1.llen
  have rl1 : B1.r.length = n := by rw [w1.rlen]; exact hl
  have er : B1.r = B.r.take n := by
    have hp : B.r.take n <+: B1.r := e1.r
    exact (hp.eq_of_length (by rw [rl1, List.length_take, w.rlen]; omega)).symm
  have pre : B1.r <+: B.r := by rw [er]; exact List.take_prefix _ _
  have own : ∀ a ∈ B.r ++ B.l, H a ≠ none := fun a z => w.tr a z
  have nG : ∀ a, H a ≠ none → B.G a = none → B1.G a = none := fun a ha hb => by
    cases z : B1.G a with
    | none => rfl
    | some o =>
      rcases e1.gf a o z with y | y | y
      · rw [show B.G a = none from hb] at y; cases y
      · exact absurd y ha
      · cases y
  have e' : Ext B H { B1 with r := B.r, l := B.l } H1 :=
    ⟨e1.g, List.prefix_refl _, List.prefix_refl _, fun a o e n1 n2 => e1.fr a o e (fun y => n1 (List.mem_of_mem_take y)) (by intro y; cases y), e1.tr, fun a z => .inl z, fun a z => .inl z, fun a o e => (e1.gf a o e).elim .inl fun z => z.elim (fun z => .inr (.inl z)) (by intro z; cases z)⟩
  have ndr : B.r.Nodup := (List.nodup_append.mp w.nd).1
  refine k v t { M with D := D' ++ M.D.drop n } { B1 with r := B.r, l := B.l } H1 q ⟨w1.le, ?_, w.llen, w.nd, fun i a c h1 h2 => ?_, fun i a ds h1 h2 => ?_, fun a ha => fun y => own a ha (e1.tr a y)⟩ e' ?_
  · show B.r.length = (D' ++ M.D.drop n).length
    rw [List.length_append, List.length_drop, hl, w.rlen]
    omega
  · have h1' : B.r[i]? = some a := h1
    have h2' : (D' ++ M.D.drop n)[i]? = some c := h2
    rcases Nat.lt_or_ge i n with z | z
    · rw [List.getElem?_append_left (by omega)] at h2'
      have h3 : B1.r[i]? = some a := by
        rw [er, List.getElem?_take, if_pos z]
        exact h1'
      obtain ⟨q1, q2⟩ := w1.dc i a c h3 h2'
      exact ⟨q1, CellAt.mono (B := B1) (fun _ _ e => e) pre rfl q2⟩
    · rw [List.getElem?_append_right (by omega), List.getElem?_drop, hl, show n + (i - n) = i by omega] at h2'
      obtain ⟨q1, q2⟩ := w.dc i a c h1' h2'
      have ha : H a ≠ none := own a (List.mem_append_left _ (mem_of_get h1'))
      have nt : a ∉ B.r.take n := fun y => by
        obtain ⟨j, hj, e⟩ := List.getElem_of_mem y
        rw [List.getElem_take] at e
        have hj2 : j < n := by rw [List.length_take] at hj; omega
        have hj3 : j < B.r.length := by rw [List.length_take] at hj; omega
        obtain ⟨hi, e2⟩ := List.getElem?_eq_some_iff.mp h1'
        have := (List.getElem_inj (h₀ := hj3) (h₁ := hi) ndr).mp (e.trans e2.symm)
        omega
      refine ⟨nG a ha q1, CellAt.mono (B := B) e1.g (List.prefix_refl _) ?_ q2⟩
      cases z : H a with
      | none => exact absurd z ha
      | some o => exact e1.fr a o z nt (by intro y; cases y)
  · obtain ⟨q1, xs, q2, q3⟩ := w.lc i a ds h1 h2
    have ml : a ∈ B.l := mem_of_get h1
    exact ⟨nG a (own a (List.mem_append_right _ ml)) q1, xs, e1.fr a _ q2 (fun y => w.rl (List.mem_of_mem_take y) ml) (by intro y; cases y), RpA.mono e1.g q3⟩
  · cases t with
    | d x => exact r1
    | mr i =>
      obtain ⟨a, e, z⟩ := r1
      refine ⟨a, e, ?_⟩
      obtain ⟨c, hc⟩ := pre
      show B.r[i]? = some a
      rw [← hc]
      rw [List.getElem?_append_left (List.getElem?_eq_some_iff.mp z).1]
      exact z
    | lr i =>
      obtain ⟨a, _, z⟩ := r1
      rw [l1] at z
      simp at z
    | scr ns => exact r1
    | wt xs => exact r1
    | exo a c d e => exact r1
section
variable {X : Cx} {j k : Nat} {f : Addr} {fd : FuncData} {ps ks : List Str} {m : FD} {st : Stmt} {x : Str} {p pos : Pos} {e : Expr} {es : List Expr} {mr mk : Ma} {kws : List Keyword}
theorem me_callC (F : FnG X.prog X.w X.K X.mg X.base k f fd ps (spM X.K m)) (gd : Gd X.A) (rm : Room k X.A) (hg : Gl X x) (hm : X.mg x = some (.ref f)) (hk : PySem.W.keepIn X.K (.ref f) = true) (hb : Binds X.K fd ps [])
    (ha : MA X (e :: es) mr) (hdb : (x == ("__debug__" : Str)) = false := by decide) (he : starEach (e :: es) X.env = (false, eval e X.env) :: starEach es X.env := by rfl) (hpl : (backTo pos (starEach es X.env)).any (·.1) = false := by rfl) :
    ME X (.Call (.Name x p) (e :: es) [] pos) (mCall (fDefC m) mr) := by
  refine ⟨fun pn sh sg hp Q' iv ⟨τ, M, B, Q, h, w, s, kk⟩ => wpAny_Call_Name_kw (ld_glob iv hg hm ?_ hdb)⟩
  let P := fun (vs : List V) (H1 : Hp) => spM X.K m vs H1 Q' E0
  refine PySem.W.callWith_K (h₀ := X.base) iv.ok.mod.kin hk (thn (ha.run pos pn sh sg hp P iv ⟨τ, M, B, _, h, w, s, fun vs ts M1 B1 H1 h1 w1 e1 r1 => ?_⟩) fun us s1 ⟨vs, H1, i1, r, q⟩ => ⟨i1.kIn, ?_⟩) he hpl
  · exact sp_ofC h1 w1 r1 fun v t M2 B2 H2 h2 w2 e2 r2 => kk v t M2 B2 H2 h2 w2 (e1.trans e2) r2
  · have hl : (us ++ []).length = ps.length := by
      rw [List.append_nil, ← r.length]
      exact F.len _ _ _ _ q
    have hbb := hb s1 us i1.kIn hl
    rw [List.append_nil] at hbb
    exact run_g (args := ⟨us, []⟩) F gd rm hbb i1 r q
theorem me_fnC (h : Kn X.prog X.w X.K X.mg X.base j x st ps m) (gd : Gd X.A) (rm : Room k X.A) (hj : j ≤ k) (hg : Gl X x) (ha : MA X (e :: es) mr) (hdb : (x == ("__debug__" : Str)) = false := by decide)
    (he : starEach (e :: es) X.env = (false, eval e X.env) :: starEach es X.env := by rfl) (hpl : (backTo pos (starEach es X.env)).any (·.1) = false := by rfl) : ME X (.Call (.Name x p) (e :: es) [] pos) (mCall (fDefC m) mr) :=
  let ⟨_, _, F, hm, U, hb⟩ := h
  me_callC F gd (rm.mono hj) hg hm U.kp hb ha hdb he hpl
end
end L3
set_option Elab.async false
set_option linter.all false
set_option maxRecDepth 100000
namespace Wm
open PySem PySem.Spec L2 L3 Sh
theorem two_ok : 2 ≤ sizeLine := sz64' (show 2 ≤ 100000 by decide)
theorem sz1 : 1 ≤ sizeLine := sz64' (show 1 ≤ 100000 by decide)
theorem w_test {m : Me} {τ : En} {M : Mem} {R : Bool → Mem → Prop} (h : m τ M fun x M1 => ∃ k, x = .d (.bool k) ∧ R k M1) : mTest m τ M R := h
theorem w_bor {c d : Mb} {τ : En} {M : Mem} {R : Bool → Mem → Prop} (h : c τ M fun k M1 => if k = true then R true M1 else d τ M1 R) : bOr c d τ M R := h
theorem w_bnot {c : Mb} {τ : En} {M : Mem} {R : Bool → Mem → Prop} (h : c τ M fun k M1 => R (!k) M1) : bNot c τ M R := h
theorem w_mul {a b : Int} {M : Mem} {Q : Kt} (z : CMul a b) (h : Q (.int (a * b)) M) : oMul (.d (.int a)) (.d (.int b)) M Q := ⟨z, h⟩
theorem w_lenL {i : Nat} {ds : List PyData} {M : Mem} {Q : Kt} (h : M.L[i]? = some (some ds)) (q : Q (.int ds.length) M) : fLen [.lr i] M Q := by
  unfold fLen
  simp only [now, h]
  exact q
theorem w_slT {m : Me} {b : Nat} {n : Int} {τ : En} {M : Mem} {Q : Kt} (hb : τ[b]? = some (some (.int n))) (h : m τ M fun x M1 => oSl x none (some n) M1 Q) : mSl m oNone (oPart (mVar b)) τ M Q := by
  unfold mSl oPart mVar oNone
  have e : (fun x M1 => oSl x none (some n) M1 Q) = (fun x M1 => (fun Q2 => Q2 none M1) fun l M2 => (fun Q1 => ∃ t, τ[b]? = some (some t) ∧ (match t with | .d (.int i) => Q1 (some i) M2 | _ => False)) fun u M3 => oSl x l u M3 Q) := by
    funext x M1
    exact propext ⟨fun z => ⟨.int n, hb, z⟩, fun ⟨t, ht, z⟩ => by
      rw [hb] at ht
      cases ht
      exact z⟩
  rw [e] at h
  exact h
theorem w_asg {m : Me} {g : Mg} {E : Es} {τ : En} {M : Mem} (h : m τ M fun t M1 => g t τ M1 E.nx) : mAsg m g E τ M := h
theorem w_lc {i : Mi} {g : Mg} {c : Mb} {m : Me} {vs : List Nat} {τ : En} {M : Mem} {Q : Kt} (h : i τ M fun ts M1 => goLc g c m (wipeT τ vs) (fun acc M2 => Q (.lst acc) M2) ts [] M1) : mLc i g c m vs τ M Q := h
theorem w_yes {τ : En} {M : Mem} {R : Bool → Mem → Prop} (h : R true M) : bYes τ M R := h
theorem w_frzL {b r : Nat} {ds : List PyData} {τ : En} {M : Mem} {Q : Kt} (hb : τ[b]? = some (some (.lr r))) (hL : M.L[r]? = some (some ds)) (q : Q (.lst ds) { M with L := M.L.set r none }) : mFrz (mVar b) τ M Q := by
  refine ⟨.lr r, hb, ?_⟩
  show (match M.L[r]? with
    | some (some ds) => Q (.lst ds) { M with L := M.L.set r none }
    | _ => False)
  rw [hL]
  exact q
theorem set_get {α : Type} {L : List α} {r : Nat} {x y : α} (h : L[r]? = some x) : (L.set r y)[r]? = some y := by
  rw [List.getElem?_set_self (List.getElem?_eq_some_iff.mp h).1]
theorem w_nnew {τ : En} {M : Mem} {Q : Kt} (h : Q (.mr M.D.length) { M with D := M.D ++ [.dnk []] }) : mNNew τ M Q := h
theorem w_nput {d k v : Me} {E : Es} {τ : En} {M : Mem} (h : v τ M fun t M1 => d τ M1 fun x M2 => k τ M2 fun y M3 => ∃ i k kvs, x = .mr i ∧ keyT y k ∧ M3.D[i]? = some (.dnk kvs) ∧ noL t = true ∧ kvs.length < sizeLine ∧ E.nx τ { M3 with D := M3.D.set i (.dnk (putN kvs k t)) }) : mNPut d k v E τ M := h
theorem w_band {c d : Mb} {τ : En} {M : Mem} {R : Bool → Mem → Prop} (h : c τ M fun k M1 => if k = true then d τ M1 R else R false M1) : bAnd c d τ M R := h
theorem w_t4 {i j k l : Nat} {x y z u : PyData} {τ : En} {M : Mem} {P : En → Mem → Prop} (h : P ((((τ.set i (some (.d x))).set j (some (.d y))).set k (some (.d z))).set l (some (.d u))) M) : gTu 4 (gsCons (gN i) (gsCons (gN j) (gsCons (gN k) (gsCons (gN l) gsNil)))) (.d (.tuple [x, y, z, u])) τ M P := ⟨rfl, rfl, h⟩
theorem w_popAt {i k : Nat} {x : PyData} {ds : List PyData} {M : Mem} {Q : Kt} (hL : M.L[i]? = some (some ds)) (hk : k < 100000) (hx : ds[k]? = some x) (q : Q (.d x) { M with L := M.L.set i (some (ds.eraseIdx k)) }) : fPopAt (.lr i) [.d (.int (k : Int))] M Q := by
  rw [x_popAt, hL]
  refine ⟨⟨by omega, by omega, by rw [Int.toNat_natCast]; exact (List.getElem?_eq_some_iff.mp hx).1⟩, fun z hz => ?_⟩
  rw [Int.toNat_natCast] at hz ⊢
  rw [hx] at hz
  cases hz
  exact q
theorem er_map {α β : Type} (f : α → β) : ∀ (l : List α) (k : Nat), (l.map f).eraseIdx k = (l.eraseIdx k).map f
  | [], _ => rfl
  | _ :: _, 0 => rfl
  | a :: l, k + 1 => by
    rw [List.map_cons, List.eraseIdx_cons_succ, List.eraseIdx_cons_succ, List.map_cons, er_map f l k]
theorem w_catL {a b : List PyData} {M : Mem} {Q : Kt} (z : a.length + b.length ≤ sizeLine) (q : Q (.lst (a ++ b)) M) : oAdd (.d (.list a)) (.d (.list b)) M Q := ⟨z, q⟩
theorem w_catT {a b : List PyData} {M : Mem} {Q : Kt} (z : a.length + b.length ≤ sizeLine) (q : Q (.tup (a ++ b)) M) : oAdd (.d (.tuple a)) (.d (.tuple b)) M Q := ⟨z, q⟩
theorem w_neS {a : Str} {M : Mem} {Q : Kt} (q : Q (.bl false) M) : oEq true (.d (.str a)) (.d (.str a)) M Q := by
  rw [x_eqs]
  simpa using q
theorem w_eqS {a : Str} {M : Mem} {Q : Kt} (q : Q (.bl true) M) : oEq false (.d (.str a)) (.d (.str a)) M Q := by
  rw [x_eqs]
  simpa using q
theorem w_tupl {xs : List PyData} {M : Mem} {Q : Kt} (q : Q (.tup xs) M) : fTuple [.d (.list xs)] M Q := q
end Wm
set_option Elab.async false
set_option linter.all false
set_option maxRecDepth 100000
set_option maxHeartbeats 2000000
namespace L3
open PySem PySem.Spec L2
def goLc2 (g : Mg) (c : Mb) (i1 : Mi) (g1 : Mg) (c1 : Mb) (m : Me) (vs1 : List Nat) (τ0 : En) (Q : List PyData → Mem → Prop) : List T → List PyData → Mem → Prop
  | [], acc, M => Q acc M
  | t :: ts, acc, M => g t τ0 M fun τ1 M1 => c τ1 M1 fun k M2 => if k = true then i1 τ1 M2 fun ts1 M3 => goLc g1 c1 m (wipeT τ1 vs1) (goLc2 g c i1 g1 c1 m vs1 τ0 Q ts) ts1 acc M3 else goLc2 g c i1 g1 c1 m vs1 τ0 Q ts acc M2
def mLc2 (i : Mi) (g : Mg) (c : Mb) (i1 : Mi) (g1 : Mg) (c1 : Mb) (m : Me) (vs vs1 : List Nat) : Me := fun τ M Q => i τ M fun ts M1 => goLc2 g c i1 g1 c1 m vs1 (wipeT τ vs) (fun acc M2 => Q (.lst acc) M2) ts [] M1
/-- the list that grows at D, and what is to come -/
def LSt (K : PySem.W.Frag) (B1 : Bk) (H1 : Hp) (D : Addr) (cont : List PyData → Mem → Prop) (H2 : Hp) : Prop := ∃ acc vs M2 B2, cont acc M2 ∧ Wd K B2 M2 H2 ∧ Ext B1 H1 B2 H2 ∧ H2 D = some (.lst vs) ∧ RpA K B2.G vs acc ∧ B2.G D = none ∧ D ∉ B2.r ∧ D ∉ B2.l
theorem keepD {B2 B4 : Bk} {H2 H4 : Hp} {D : Addr} {vs : List V} (d2 : H2 D = some (.lst vs)) (g2 : B2.G D = none) (n2 : D ∉ B2.r) (l2 : D ∉ B2.l) (e4 : Ext B2 H2 B4 H4) : H4 D = some (.lst vs) ∧ B4.G D = none ∧ D ∉ B4.r ∧ D ∉ B4.l := by
  refine ⟨e4.fr D _ d2 n2 l2, ?_, fun z => ?_, fun z => ?_⟩
  · cases q : B4.G D with
    | none => rfl
    | some o =>
      rcases e4.gf D o q with z | z | z
      · rw [g2] at z; cases z
      · rw [d2] at z; cases z
      · exact absurd z l2
  · rcases e4.rn D z with q | q
    · exact n2 q
    · rw [d2] at q; cases q
  · rcases e4.ln D z with q | q
    · exact l2 q
    · rw [d2] at q; cases q
theorem side_write {K : PySem.W.Frag} {B6 : Bk} {M6 : Mem} {H6 : Hp} {D : Addr} {o : HO} (w6 : Wd K B6 M6 H6) (q2 : B6.G D = none) (q3 : D ∉ B6.r) (q4 : D ∉ B6.l) : Wd K B6 M6 (upd H6 D o) := by
  refine ⟨fun a u z => ?_, w6.rlen, w6.llen, w6.nd, fun j a c z1 z2 => ?_, fun j a ds z1 z2 => ?_, fun a ha => ?_⟩
  · rw [upd_ne (ne_of_none z q2)]
    exact w6.le a u z
  · obtain ⟨p1, p2⟩ := w6.dc j a c z1 z2
    exact ⟨p1, CellAt.mono (fun _ _ e => e) (List.prefix_refl _) (upd_ne fun z => q3 (by rw [← z]; exact mem_of_get z1)) p2⟩
  · obtain ⟨p1, xs, p2, p3⟩ := w6.lc j a ds z1 z2
    exact ⟨p1, xs, (upd_ne fun z => q4 (by rw [← z]; exact mem_of_get z1)).trans p2, p3⟩
  · rw [upd_ne fun z => ?_]
    · exact w6.tr a ha
    · rw [z] at ha
      exact (List.mem_append.mp ha).elim q3 q4
structure BkLe (B B' : Bk) : Prop where
  g : ∀ a o, B.G a = some o → B'.G a = some o
  r : B.r <+: B'.r
  l : B.l <+: B'.l
theorem BkLe.of {B B' : Bk} {H H' : Hp} (x : Ext B H B' H') : BkLe B B' := ⟨x.g, x.r, x.l⟩
theorem BkLe.refl (B : Bk) : BkLe B B := ⟨fun _ _ e => e, List.prefix_refl _, List.prefix_refl _⟩
theorem BkLe.trans {B B1 B2 : Bk} (x : BkLe B B1) (y : BkLe B1 B2) : BkLe B B2 := ⟨fun a o e => y.g a o (x.g a o e), x.r.trans y.r, x.l.trans y.l⟩
theorem Sl.le {K : PySem.W.Frag} {B B' : Bk} (x : BkLe B B') {σ : L2.St} {τ : En} (s : Sl K B σ τ) : Sl K B' σ τ :=
  ⟨s.len, fun i t e => let ⟨v, h, q⟩ := s.at_ i t e; ⟨v, h, Rt.mono' x.g x.r x.l q⟩⟩
theorem WalkT.stepL {K : PySem.W.Frag} {B1 B2 : Bk} {M2 : Mem} {H2 H3 : Hp} {ts : List T} {i : Nat} {x : V} (hi : i < ts.length) (w2 : Wd K B2 M2 H2) (e2 : BkLe B1 B2)
    (y : (H3 = H2 ∧ ∃ t, ts[i]? = some t ∧ Rt K B1 x t) ∨ ∃ p vs ds u, x = .ref p ∧ H2 p = none ∧ H3 = upd H2 p u ∧ RpA K B1.G vs ds ∧ (u = .tup vs ∧ ts[i]? = some (.wt ds) ∨ ∃ o : Obj, o.dict = none ∧ u = .frz o (.tup vs) ∧ ts[i]? = some (.d (.tuple ds)))) :
    ∃ B3, Wd K B3 M2 H3 ∧ Ext B2 H2 B3 H3 ∧ Rt K B3 x ts[i] := by
  have hg : ts[i]? = some ts[i] := List.getElem?_eq_getElem hi
  rcases y with ⟨rfl, t, h1, h2⟩ | ⟨p, vs, ds, u, rfl, h1, rfl, h2, ⟨rfl, h3⟩ | ⟨o, ho, rfl, h3⟩⟩
  · rw [hg] at h1
    cases h1
    exact ⟨B2, w2, .refl _ _, Rt.mono' e2.g e2.r e2.l h2⟩
  · rw [hg] at h3
    obtain ⟨w3, e3⟩ := w2.alloc h1 (.tup vs)
    refine ⟨_, w3, e3, ?_⟩
    rw [Option.some.inj h3]
    exact ⟨p, vs, rfl, .inl (.inl upd_same), RpA.mono e3.g (RpA.mono e2.g h2)⟩
  · rw [hg] at h3
    obtain ⟨w3, e3⟩ := w2.alloc h1 (.frz o (.tup vs))
    refine ⟨_, w3, e3, ?_⟩
    rw [Option.some.inj h3]
    exact .tup (.inl ⟨o, upd_same, ho⟩) (RpA.mono e3.g (RpA.mono e2.g h2))
theorem lc2_gen {K : PySem.W.Frag} {i : Mi} {g : Mg} {os : List Nat} {mc : Mb} {i1 : Mi} {g1 : Mg} {os1 : List Nat} {mc1 : Mb} {m : Me} {vs0 vs1 : List Nat} {σ : L2.St} {H : Hp} {Q' : VK} {τ : En} {M : Mem} {B : Bk} {Qf : List PyData → Mem → Prop} (sub : ∀ j ∈ os, j ∈ vs0) (sub1 : ∀ j ∈ os1, j ∈ vs1)
    (h : i τ M fun ts M1 => goLc2 g mc i1 g1 mc1 m vs1 (wipeT τ vs0) Qf ts [] M1) (w : Wd K B M H) (sl : Sl K B σ τ)
    (k : ∀ (D : Addr) (acc : List PyData) (vs : List V) (M2 : Mem) (B2 : Bk) (H2 : Hp), Qf acc M2 → H D = none → Wd K B2 M2 H2 → Ext B H B2 H2 → H2 D = some (.lst vs) → RpA K B2.G vs acc → B2.G D = none → D ∉ B2.r → D ∉ B2.l → Q' (.ref D) H2) :
    tLc2 (rI K i) (rG K os g) (rB K mc) (rI K i1) (rG K os1 g1) (rB K mc1) (rE K m) vs0 vs1 σ H Q' := by
  refine ⟨τ, M, B, _, h, w, sl, fun ts M1 B1 H1 J h1 w1 e1 W D hD => ?_⟩
  obtain ⟨dG, dr, dl⟩ := w1.fresh hD
  have sw := (sl.mono e1).wipe vs0
  let P := fun (i : Nat) (H2 : Hp) => LSt K B1 H1 D (goLc2 g mc i1 g1 mc1 m vs1 (wipeT τ vs0) Qf (ts.drop i)) H2
  refine ⟨fun i n H2 => n = ts.length - i ∧ i ≤ ts.length ∧ P i H2, ⟨ts.length, by simp, Nat.zero_le _, [], [], M1, B1, h1, w1.side hD _, .side hD _, upd_same, .nil, dG, dr, dl⟩, ?_⟩
  rintro i n H2 ⟨rfl, hi, acc, vs, M2, B2, h2, w2, e2, d2, r2, g2, n2, l2⟩
  have hG : ∀ a o, B1.G a = some o → H2 a = some o := fun a o z => w2.le a o (e2.g a o z)
  by_cases hlt : i < ts.length
  · refine .inr ⟨W.goes i H2 hlt hG, P (i + 1), fun H' p' => ⟨ts.length - (i + 1), by omega, rfl, hlt, p'⟩, fun x H3 y => ?_⟩
    have y := W.yields i H2 x H3 hlt hG y
    obtain ⟨B3, w3, e3, r3⟩ := WalkT.step hlt w2 e2 y
    rw [drop_at hlt, goLc2] at h2
    refine ⟨ts[i], wipeT τ vs0, M2, B3, _, h2, w3, (sw.mono e2).mono e3, r3, fun τ4 M4 B4 σ4 H4 h4 w4 e4 s4 a4 => ⟨a4.wipe sub, ?_⟩⟩
    refine ⟨τ4, M4, B4, _, h4, w4, s4, fun k5 M5 B5 H5 h5 w5 e5 => ?_⟩
    have e25 := e3.trans (e4.trans e5)
    cases k5 with
    | false =>
      obtain ⟨q1, q2, q3, q4⟩ := keepD d2 g2 n2 l2 e25
      exact ⟨acc, vs, M5, B5, h5, w5, e2.trans e25, q1, RpA.mono e25.g r2, q2, q3, q4⟩
    | true =>
      refine ⟨τ4, M5, B5, _, h5, w5, s4.mono e5, fun ts1 M6 B6 H6 J1 h6 w6 e6 W1 => ?_⟩
      have e26 := e25.trans e6
      have s6 := ((s4.mono e5).mono e6).wipe vs1
      let P1 := fun (j : Nat) (H7 : Hp) => ∃ acc vs M2 B2, goLc g1 mc1 m (wipeT τ4 vs1) (goLc2 g mc i1 g1 mc1 m vs1 (wipeT τ vs0) Qf (ts.drop (i + 1))) (ts1.drop j) acc M2 ∧ Wd K B2 M2 H7 ∧ Ext B1 H1 B2 H7 ∧ BkLe B6 B2 ∧ H7 D = some (.lst vs) ∧ RpA K B2.G vs acc ∧ B2.G D = none ∧ D ∉ B2.r ∧ D ∉ B2.l
      obtain ⟨q1, q2, q3, q4⟩ := keepD d2 g2 n2 l2 e26
      refine ⟨fun j n H7 => n = ts1.length - j ∧ j ≤ ts1.length ∧ P1 j H7, ⟨ts1.length, by simp, Nat.zero_le _, acc, vs, M6, B6, h6, w6, e2.trans e26, .refl _, q1, RpA.mono e26.g r2, q2, q3, q4⟩, ?_⟩
      clear q1 q2 q3 q4 r2 d2 g2 n2 l2
      rintro j n H7 ⟨rfl, hj, acc, vs, M7, B7, h7, w7, e7, b7, d7, r7, g7, n7, l7⟩
      have hG1 : ∀ a o, B6.G a = some o → H7 a = some o := fun a o z => w7.le a o (b7.g a o z)
      by_cases hlt1 : j < ts1.length
      · refine .inr ⟨W1.goes j H7 hlt1 hG1, P1 (j + 1), fun H' p' => ⟨ts1.length - (j + 1), by omega, rfl, hlt1, p'⟩, fun x1 H8 y1 => ?_⟩
        have y1 := W1.yields j H7 x1 H8 hlt1 hG1 y1
        obtain ⟨B8, w8, e8, r8⟩ := WalkT.stepL hlt1 w7 b7 y1
        rw [drop_at hlt1, goLc] at h7
        refine ⟨ts1[j], wipeT τ4 vs1, M7, B8, _, h7, w8, (s6.le b7).mono e8, r8, fun τ9 M9 B9 σ9 H9 h9 w9 e9 s9 a9 => ⟨a9.wipe sub1, ?_⟩⟩
        refine ⟨τ9, M9, B9, _, h9, w9, s9, fun k10 M10 B10 H10 h10 w10 e10 => ?_⟩
        have e710 := e8.trans (e9.trans e10)
        cases k10 with
        | false =>
          obtain ⟨q1, q2, q3, q4⟩ := keepD d7 g7 n7 l7 e710
          exact ⟨acc, vs, M10, B10, h10, w10, e7.trans e710, b7.trans (.of e710), q1, RpA.mono e710.g r7, q2, q3, q4⟩
        | true =>
          refine ⟨τ9, M10, B10, _, h10, w10, s9.mono e10, fun v t M11 B11 H11 h11 w11 e11 r11 => ?_⟩
          split at h11
          · have e711 := e710.trans e11
            obtain ⟨q1, q2, q3, q4⟩ := keepD d7 g7 n7 l7 e711
            refine ⟨vs, q1, by rw [RpA.length r7]; exact h11.1, acc ++ [_], vs ++ [v], M11, B11, h11.2, side_write w11 q2 q3 q4, ?_, b7.trans (.of e711), upd_same, RpA.append (RpA.mono e711.g r7) (.cons r11 .nil), q2, q3, q4⟩
            have x6 := e7.trans e711
            refine ⟨x6.g, x6.r, x6.l, fun a u z n1 n2 => ?_, fun a z => ?_, x6.rn, x6.ln, x6.gf⟩
            · rw [upd_ne (ne_of_none z hD)]
              exact x6.fr a u z n1 n2
            · by_cases q : a = D
              · rw [q]
                exact hD
              · rw [upd_ne q] at z
                exact x6.tr a z
          · exact h11.elim
      · have e : j = ts1.length := by omega
        subst e
        rw [List.drop_length] at h7
        exact .inl ⟨W1.stops H7 hG1, acc, vs, M7, B7, h7, w7, e7, d7, r7, g7, n7, l7⟩
  · have e : i = ts.length := by omega
    subst e
    rw [List.drop_length] at h2
    exact .inl ⟨W.stops H2 hG, k D acc vs M2 B2 H2 h2 (e1.tr D hD) w2 (e1.trans e2) d2 r2 g2 n2 l2⟩
theorem lc2_of {K : PySem.W.Frag} {i : Mi} {g : Mg} {os : List Nat} {mc : Mb} {i1 : Mi} {g1 : Mg} {os1 : List Nat} {mc1 : Mb} {m : Me} {vs0 vs1 : List Nat} {σ : L2.St} {H : Hp} {Q' : VK} (sub : ∀ j ∈ os, j ∈ vs0) (sub1 : ∀ j ∈ os1, j ∈ vs1) (h : rE K (mLc2 i g mc i1 g1 mc1 m vs0 vs1) σ H Q') :
    tLc2 (rI K i) (rG K os g) (rB K mc) (rI K i1) (rG K os1 g1) (rB K mc1) (rE K m) vs0 vs1 σ H Q' := by
  obtain ⟨τ, M, B, Q, h, w, sl, k⟩ := h
  refine lc2_gen sub sub1 h w sl fun D acc vs M2 B2 H2 h2 hD w2 e2 d2 r2 g2 n2 l2 => ?_
  rcases Ext.adoptG (o := .lst vs) hD e2 with x | x
  · exact k _ _ M2 _ H2 h2 (w2.adoptG g2 n2 l2 d2) x (.lst upd_same (RpA.mono (upd_keep g2) r2))
  · exact absurd g2 x
section
variable {X : Cx} {elt tg tg1 e e1 : Expr} {ifs ifs1 : List Expr} {scope : Scope} {own : List (Str × Nat)} {i i1 : Mi} {g g1 : Mg} {os os1 : List Nat} {mc mc1 : Mb} {m : Me} {vs1 : List Nat} {pos : Pos}
variable {n : Nat} {y : Str} {py spos : Pos}
theorem ms_setLc2 (hc : X.calm = true) (hN : X.N.Nodup) (hy : X.N[n]? = some y) (hyl : X.env.scope.names.lookup y = some .local)
    (hsw : swapsWith (.ListComp elt [⟨tg, e, ifs, 0⟩, ⟨tg1, e1, ifs1, 0⟩] scope pos) (some (.Name y py)) spos.line X.env = pure true) (hi : MI X tg e i) (ok : BlkOk X.N X.env.scope scope own) (hv : ∀ i ∈ vs1, i ∈ own.map (·.2))
    (hg : ∀ (s : Shared) (H : Hp) (C : Addr) (cl : List (Str × Addr)) (fp : List Addr), MG (X.blk s H scope (compEnvC scope cl C X.env) fp) tg os g) (ht : ∀ (s : Shared) (H : Hp) (C : Addr) (cl : List (Str × Addr)) (fp : List Addr), MTs (X.blk s H scope (compEnvC scope cl C X.env) fp) ifs mc)
    (hi1 : ∀ (s : Shared) (H : Hp) (C : Addr) (cl : List (Str × Addr)) (fp : List Addr), MI (X.blk s H scope (compEnvC scope cl C X.env) fp) tg1 e1 i1)
    (hg1 : ∀ (s : Shared) (H : Hp) (C : Addr) (cl : List (Str × Addr)) (fp : List Addr), MG (X.blk s H scope (compEnvC scope cl C X.env) fp) tg1 os1 g1) (ht1 : ∀ (s : Shared) (H : Hp) (C : Addr) (cl : List (Str × Addr)) (fp : List Addr), MTs (X.blk s H scope (compEnvC scope cl C X.env) fp) ifs1 mc1)
    (he : ∀ (s : Shared) (H : Hp) (C : Addr) (cl : List (Str × Addr)) (fp : List Addr), ME (X.blk s H scope (compEnvC scope cl C X.env) fp) elt m) (sub : ∀ j ∈ os, j ∈ own.map (·.2)) (sub1 : ∀ j ∈ os1, j ∈ vs1)
    (hs : ∀ x, foldedSetIterable e X.env x = pure x := by intro _; rfl) (hs1 : ∀ env x, foldedSetIterable e1 env x = pure x := by intro _ _; rfl) :
    MS X (.Assign [.Name y py] (.ListComp elt [⟨tg, e, ifs, 0⟩, ⟨tg1, e1, ifs1, 0⟩] scope pos) spos) (mSet n (mLc2 i g mc i1 g1 mc1 m (own.map (·.2)) vs1)) :=
  PS.of (L2.ps_setLc2 (te := rE X.K m) (tt := rB X.K mc) (g := rG X.K os g) (wi1 := rI X.K i1) (g1 := rG X.K os1 g1) (tt1 := rB X.K mc1) hc hN hy hyl hsw hi ok hv hg ht hi1 hg1 ht1 he hs hs1) fun D σ H ⟨E, τ, M, B, h, w, sl, go⟩ =>
  lc2_of sub sub1 ⟨τ, M, B, _, h, w, sl, fun v t M1 B1 H1 h1 w1 e1 r1 => go.nx _ M1 B1 _ H1 h1 w1 e1 ((sl.mono e1).set n r1)⟩
end
end L3
set_option Elab.async false
set_option linter.all false
set_option maxRecDepth 100000
set_option maxHeartbeats 2000000
namespace L3
open PySem PySem.Spec L2 PySem.W PyProof.Rows
def rMinD (K : PySem.W.Frag) : List V → Hp → VK → Prop := fun xs H Q => ∃ (a : Addr) (vs : List V) (x : PyData) (l : List PyData), xs = [.ref a] ∧ SqL K H a vs ∧ Dp K H (.ref a) (.list (x :: l)) ∧ AlikeAll (x :: l) ∧ PyData.depthAll (x :: l) ≤ 20 ∧
  ∀ (i : Nat) (v : V), vs[i]? = some v → (x :: l)[i]? = some (minD x l) → Q v H
theorem cr_minD {X : Cx} {k : Nat} (hc : X.calm = true) (rm : Room k X.A) : CallR X (.builtin "min") (rMinD X.K) := by
  intro pins s σ H xs us Q iv r ⟨a, vs, x, l, ex, hs, hd, al, dp, q⟩
  subst ex
  have rr : RelV (.ref a) (.ref a) := rfl
  obtain ⟨as, rd⟩ := Dp.reads iv _ _ _ hd rr
  obtain ⟨its, rv, hl, hz⟩ := iv.list hs
  obtain ⟨o, n, ho, hcl, hdn, hdat⟩ := hl
  have un := rm.un
  cases rd with
  | list h1 h2 h3 h4 =>
    rw [ho] at h1
    cases h1
    rw [hdat] at h3
    cases h3
    have hl2 : s.heap.IsList a its.toArray := ⟨o, ho, hcl, n, hdat⟩
    rw [Vals.ref1 r]
    have hn : its.toArray.size = l.length + 1 := readsAll_len h4
    refine call_min_walkH (iter_listW (A := X.A.in1) (iv.ok.hd hc) hl2 fun s₂ e W st hfp hw hk => ?_)
    refine ⟨_, _, _, _, _, _, _, s.heap, _, rfl, W, st, hfp, by omega, hw, hk, cmpIn_lt (A := X.A.in1) h4 al (by show X.A.units + 1 + _ < _; omega), fun v s' hP m => ?_⟩
    obtain ⟨h', tk, rfl, hk'⟩ := moved_old e rfl m
    have e1 : its.toArray.size - 1 = l.length := by omega
    rw [e1] at hP
    obtain ⟨b1, b2⟩ := argBest_fold dataLt PyData.none x l l.length (Nat.le_refl _)
    rw [List.take_length] at b2
    generalize hj : argBest (fun i j => dataLt ((x :: l).getD i .none) ((x :: l).getD j .none)) l.length = j at hP b1 b2
    have hv : its[j]? = some v := by simpa using hP
    have hw2 := vals_at rv hv
    have hjl : j < vs.length := by rw [rv.length]; exact (List.getElem?_eq_some_iff.mp hv).1
    refine ⟨_, H, iv.kept (t' := tk) hk', hw2, q j _ (by rw [List.getD_eq_getElem?_getD, List.getElem?_eq_getElem hjl]; rfl) ?_⟩
    have hlt : j < (x :: l).length := by simp; omega
    rw [List.getElem?_eq_getElem hlt]
    unfold minD
    rw [← b2, List.getD_eq_getElem?_getD, List.getElem?_eq_getElem hlt]
    rfl
theorem RpA.at_ {K : PySem.W.Frag} {G : Hp} : ∀ {vs : List V} {ds : List PyData} {i : Nat} {v : V} {d : PyData}, RpA K G vs ds → vs[i]? = some v → ds[i]? = some d → Rp K G v d
  | _, _, i, _, _, .nil, e, _ => by simp at e
  | _, _, 0, _, _, .cons p q, e, f => by
    cases e
    cases f
    exact p
  | _, _, i + 1, _, _, .cons p q, e, f => RpA.at_ q (by simpa using e) (by simpa using f)
def fMinD : FA := fun ts M Q => match ts with
  | [t] => (match now t M with
    | some (.list (x :: l)) => (AlikeAll (x :: l) ∧ PyData.depthAll (x :: l) ≤ 20) ∧ Q (.d (minD x l)) M
    | _ => False)
  | _ => False
theorem cal_minD {K : PySem.W.Frag} : CaL K (rMinD K) fMinD := by
  intro xs ts M B H Q Q' h w r k
  unfold fMinD at h
  split at h
  · obtain ⟨v, rfl, r1⟩ := paired_one r
    split at h
    · rename_i x l e
      obtain ⟨p, ys, rfl, h1, h2⟩ := (w.seq r1).1 _ e
      refine ⟨p, ys, x, l, rfl, h1, w.dpNow r1 e, h.1.1, h.1.2, fun i v hv hm => ?_⟩
      exact k _ _ M _ _ h.2 w (.refl _ _) (RpA.at_ h2 hv hm)
    · exact h.elim
  · exact h.elim
theorem me_minD {X : Cx} {k : Nat} {e : Expr} {es : List Expr} {mr : Ma} {p pos : Pos} (hc : X.calm = true) (rm : Room k X.A) (hg : Gl X "min") (hm : X.mg "min" = none) (ha : MA X (e :: es) mr) (he : starEach (e :: es) X.env = (false, eval e X.env) :: starEach es X.env := by rfl) (hpl : (backTo pos (starEach es X.env)).any (·.1) = false := by rfl) : ME X (.Call (.Name "min" p) (e :: es) [] pos) (mCall fMinD mr) := me_callB (cr_minD hc rm) cal_minD hg hm (by decide +kernel) ha (by decide) (by decide) he hpl
def mRevL (m : Me) : Me := fun τ M Q => m τ M fun t M1 => match now t M1 with
  | some (.list ds) => Q (.lst ds.reverse) M1
  | _ => False
theorem me_revL {X : Cx} {e : Expr} {m : Me} {k : Nat} {p1 p2 p3 pos : Pos} (he : ME X e m) : ME X (.Subscript e (.Slice none none (some (.UnaryOp .USub (.Constant (.int 1) k p1) p2)) p3) pos) (mRevL m) := PE.of (pe_revL he) fun σ H Q' ⟨τ, M, B, Q, h, w, s, k⟩ => by
  refine ⟨τ, M, B, _, h, w, s, fun v t M1 B1 H1 h1 w1 e1 r1 => ?_⟩
  split at h1
  · rename_i ds e
    obtain ⟨p, ys, rfl, g1, g2⟩ := (w1.seq r1).1 _ e
    refine ⟨p, ys, rfl, g1, fun q hq => ?_⟩
    obtain ⟨w4, e4⟩ := w1.alloc hq (.lst ys.reverse)
    exact k _ _ M1 _ _ h1 w4 (e1.trans e4) (.lst upd_same (RpA.mono e4.g (RpA.reverse g2)))
  · exact h1.elim
def gNPut (d k : Me) : Mg := fun t τ M Q => d τ M fun x M2 => k τ M2 fun y M3 => ∃ i k kvs, x = .mr i ∧ keyT y k ∧ M3.D[i]? = some (.dnk kvs) ∧ noL t = true ∧ kvs.length < sizeLine ∧ Q τ { M3 with D := M3.D.set i (.dnk (putN kvs k t)) }
theorem mg_nput {X : Cx} {kk : Nat} {o i : Expr} {mo mi : Me} {pos : Pos} (rm : Room kk X.A) (ho : ME X o mo) (hi : ME X i mi)
    (ha : ∀ v, assign (.Subscript o i pos) X.env v = (do
      let ov ← holding [v] (eval o X.env)
      let iv ← holding [v, ov] (eval i X.env)
      standAt pos
      holding [v, ov, iv] (setItem ov iv v)
      release [v, ov, iv] []) := by intro _; rfl) : MG X (.Subscript o i pos) [] (gNPut mo mi) := by
  refine ⟨fun pins s σ H v u Q' iv rv ⟨t, τ, M, B, Q, h, w, sl, r, g⟩ => ?_⟩
  rw [ha]
  let P2 := fun (x : V) (H2 : Hp) => ∃ tx M2 B2, (mi τ M2 fun y M3 => ∃ i k kvs, tx = .mr i ∧ keyT y k ∧ M3.D[i]? = some (.dnk kvs) ∧ noL t = true ∧ kvs.length < sizeLine ∧ Q τ { M3 with D := M3.D.set i (.dnk (putN kvs k t)) }) ∧ Wd X.K B2 M2 H2 ∧ Ext B H B2 H2 ∧ Rt X.K B2 x tx
  refine wpAny_bind (wpAny_holding (thn (ho.run pins s σ H P2 iv ⟨τ, M, B, _, h, w, sl, fun v t M2 B2 H2 h2 w2 e2 r2 => ⟨t, M2, B2, h2, w2, e2, r2⟩⟩) fun ov s2 ⟨x, H2, I2, rx, tx, M2, B2, h2, w2, e2, r2⟩ => ?_))
  let P3 := fun (y : V) (H3 : Hp) => ∃ ty M3 B3, (∃ i k kvs, tx = .mr i ∧ keyT ty k ∧ M3.D[i]? = some (.dnk kvs) ∧ noL t = true ∧ kvs.length < sizeLine ∧ Q τ { M3 with D := M3.D.set i (.dnk (putN kvs k t)) }) ∧ Wd X.K B3 M3 H3 ∧ Ext B2 H2 B3 H3 ∧ Rt X.K B3 y ty
  refine wpAny_bind (wpAny_holding (thn (hi.run pins s2 σ H2 P3 I2 ⟨τ, M2, B2, _, h2, w2, sl.mono e2, fun v t M3 B3 H3 h3 w3 e3 r3 => ⟨t, M3, B3, h3, w3, e3, r3⟩⟩) fun iu s3 ⟨y, H3, I3, ry, ty, M3, B3, ⟨n, k, kvs, ex, hk, hD, hno, hlen, hQ⟩, w3, e3, r3⟩ => ?_))
  subst ex
  obtain ⟨a, es, rfl, hla, hd, hn⟩ := dn_wd w3 (Rt.mono e3 r2) hD
  obtain ⟨b, rfl, hk8, hb⟩ := keyT_at r3 hk
  obtain rfl : ov = Value.ref a := rx
  obtain rfl : iu = Value.ref b := ry
  have rt := Rt.deck hno (Rt.mono e3 (Rt.mono e2 r))
  refine wpAny_bind (wpAny_standAt (wpAny_bind (wpAny_holding ?_)))
  refine dn_set (by have := rm.un; omega) I3 hd (.of hk8 (w3.rp hb)) (by rw [Paired.length hn]; exact hlen) rv fun s4 I4 => ?_
  obtain ⟨w4, e4⟩ := w3.setD hla hD (o := .ext (DNok a (putE es k b v))) (c := .dnk (putN kvs k t)) fun H' eH => ⟨_, eH, hn.put hk8 hb rt⟩
  have e14 := e2.trans (e3.trans e4)
  exact wpAny_release ⟨σ, _, I4, g _ _ _ _ _ hQ w4 e14 (sl.mono e14) ⟨rfl, fun _ _ => rfl⟩⟩
theorem dn_dset {X : Cx} {pn : List (Addr × Obj)} {sg : L2.St} {H : Hp} {s : Shared} {a b : Addr} {es : List (NestedKey × Addr × V)} {k : NestedKey} {v : V} {A : Around} {E : Value → Shared → Prop} {r0 : Value} {Q : Unit → Shared → Prop} (hu : A.units + 12 < cLine) (iv : Inv X pn sg H s) (h : DnAt X.K H a es) (hk : KeyAt X.K H b k) (hl : es.length < sizeLine) (rv : RelV v r0) (q : ∀ s', Inv X pn sg (upd H a (.ext (DNok a (putE es k b v)))) s' → Q () s') :
    wpAny (model X.prog X.w) A (dictSet a (.ref b) r0) Q E s := by
  obtain ⟨z1, z2, z3, xs, r, d⟩ := dn_dict iv h
  have hz : xs.length ≤ sizeLine := by rw [← Paired.length r]; exact z1
  refine wpAny_dictSet_heap (hsz := hz) (show A.units + 8 < cLine by omega) (key_is iv hk) d fun h' dd' hs => q _ ?_
  have he : ∃ q, h'.get? a = some q := let ⟨q, _, _, hq, _⟩ := dd'; ⟨q, hq⟩
  exact d_write iv (by rw [h.1]; trivial) hs he (dno_ok (dn_mk (by have := putE_len es k b v; omega) z2 (r.put k b rv) dd'))
def mNOne (k v : Me) : Me := fun τ M Q => k τ { M with D := M.D ++ [.dnk []] } fun y M1 => v τ M1 fun t M2 => ∃ key, keyT y key ∧ noL t = true ∧ M2.D[M.D.length]? = some (.dnk []) ∧ Q (.mr M.D.length) { M2 with D := M2.D.set M.D.length (.dnk [(key, t)]) }
theorem me_none1 {X : Cx} {kk : Nat} {ek ev : Expr} {mk mv : Me} {pos : Pos} (rm : Room kk X.A) (hk : ME X ek mk) (hv : ME X ev mv) : ME X (.Dict [some ek] [ev] pos) (mNOne mk mv) := ⟨fun pins s σ H Q' iv ⟨τ, M, B, Q, h, w, sl, g⟩ => by
  have hp := iv.hok.fresh (Nat.le_refl s.heap.objs.size)
  obtain ⟨w2, e2⟩ := w.newD hp (o := .ext (DNok s.heap.objs.size [])) (c := .dnk []) fun H' eH => ⟨[], eH, .nil⟩
  have iv2 := iv.laid (a := s.heap.objs.size) (t' := s.toks) (fun _ _ q => Heap.get?_push_of_some _ q) (Nat.le_refl _) (dno_ok (dn_new X.w iv.big))
  refine wpAny_Dict_any rfl rfl (by simp) (show 1 ≤ 15 by decide) ?_
  have PP : PPs X pos [some ek] [ev] [(rE X.K mk, rE X.K mv)] := pps_cons hk hv pps_nil
  let P := fun (ps : List (V × V)) (H3 : Hp) => ∃ x y tx ty M3 B3, ps = [(x, y)] ∧ (∃ key, keyT tx key ∧ noL ty = true ∧ M3.D[M.D.length]? = some (.dnk []) ∧ Q (.mr M.D.length) { M3 with D := M3.D.set M.D.length (.dnk [(key, ty)]) }) ∧ Wd X.K B3 M3 H3 ∧ Ext B H B3 H3 ∧ Rt X.K B3 x tx ∧ Rt X.K B3 y ty ∧ B3.r[M.D.length]? = some s.heap.objs.size
  have hr0 : B.r.length = M.D.length := w.rlen
  refine thn (PP.run pins _ σ _ P iv2 ⟨τ, _, _, _, h, w2, sl.mono e2, fun x tx M3 B3 H3 h3 w3 e3 r3 => ⟨τ, M3, B3, _, h3, w3, (sl.mono e2).mono e3, fun y ty M4 B4 H4 h4 w4 e4 r4 => ⟨x, y, tx, ty, M4, B4, rfl, h4, w4, e2.trans (e3.trans e4), Rt.mono e4 r3, r4, ?_⟩⟩⟩) fun us s3 ⟨ps, H3, I3, rel, x, y, tx, ty, M3, B3, ex, ⟨key, hkt, hno, hD, hQ⟩, w3, e3, r3, r4, hr⟩ => ?_
  · refine get_prefix (e3.r.trans e4.r) ?_
    show (B.r ++ [s.heap.objs.size])[M.D.length]? = _
    rw [← hr0]
    exact get_snoc
  · subst ex
    cases rel with
    | @cons _ uv _ _ f g0 =>
      cases g0
      obtain ⟨u, uw⟩ := uv
      obtain ⟨ru, rv⟩ := f
      obtain ⟨a, es, ea, hla, hd, hn⟩ := dn_wd w3 (x := .ref s.heap.objs.size) (n := M.D.length) ⟨_, rfl, hr⟩ hD
      have hla0 := hla
      rw [hr] at hla
      cases hla
      cases hn
      obtain ⟨b, rfl, hk8, hb⟩ := keyT_at r3 hkt
      obtain rfl : u = Value.ref b := ru
      have rt := Rt.deck hno r4
      unfold storeAll
      rw [List.forIn_cons]
      refine wpAny_bind (wpAny_bind (dn_dset (es := []) (by have := rm.un; omega) I3 hd (.of hk8 (w3.rp hb)) (by decide +kernel) rv fun s4 I4 => wpAny_pure ?_))
      show wpAny _ _ (forIn [] PUnit.unit _) _ _ _
      rw [List.forIn_nil]
      obtain ⟨w4, e4⟩ := w3.setD hla0 hD (o := .ext (DNok s.heap.objs.size (putE [] key b y))) (c := .dnk (putN [] key ty)) fun H' eH => ⟨_, eH, NT.put (es := []) (kvs := []) .nil hk8 hb rt⟩
      exact wpAny_pure ⟨.ref s.heap.objs.size, _, I4, rfl, g _ _ _ _ _ hQ w4 (e3.trans e4) ⟨_, rfl, hr⟩⟩⟩
end L3
set_option Elab.async false
set_option linter.all false
set_option maxRecDepth 100000
namespace Pl
open PySem PySem.Spec L2 L3
abbrev d_round_up : FD := Sh.d_round_up
abbrev b_places_there_0 : Ms := (mRet (mLc (iEnum (aCons (mVar 0) aNil)) (gTu 2 (gsCons (gN 1) (gsCons (gN 2) gsNil))) (mTest (mOp oGt (mVar 2) (mC (.int 0)))) (mVar 1) [1, 2]))
abbrev b_places_there : Ms := b_places_there_0
def d_places_there : FD := mDef 1 3 b_places_there
abbrev d_greatest_alignment : FD := Sh.d_greatest_alignment
abbrev b__law_pool_0 : Ms := (mSet 2 (mOp oMod (mCall fInt (aCons (mOp oAdd (mOp oMul (mVar 2) (mC (.int 69069))) (mVar 3)) aNil)) (mC (.int 4294967291))))
abbrev b__law_pool_1 : Ms := (mRet (mNewD (aCons (mLcD (iSeq (mVar 1)) (gN 3) (mTest (mOp oGt (mVar 3) (mOp oPow (mC (.int 10)) (mC (.int 15))))) (mVar 3) [3]) (aCons (mVar 2) (aCons (mC (.int 0)) aNil)))))
abbrev b__law_pool_2 : Ms := (mSeq (mFor (iSeq (mVar 1)) (gN 3) b__law_pool_0) b__law_pool_1)
abbrev b__law_pool_3 : Ms := (mSeq (mPar 1 2 (aCons (mLc (iSeq (mSl (mVar 0) oNone (oPart (mC (.int 60))))) (gN 3) bYes (mOp oAdd (mOp oMul (mC (.int 2)) (mCall fAbs (aCons (mVar 3) aNil))) (mCall fInt (aCons (mOp oLt (mVar 3) (mC (.int 0))) aNil))) [3]) (aCons (mOp oAdd (mC (.int 40961)) (mCall fLen (aCons (mVar 0) aNil))) aNil))) b__law_pool_2)
abbrev b__law_pool : Ms := b__law_pool_3
def d__law_pool : FD := mDef 1 4 b__law_pool
abbrev b__law_draw_0 : Ms := (mDrop (mMeth fPopD (mOp oIx (mVar 0) (mC (.int 0))) (aCons (mC (.int 0)) aNil)))
abbrev b__law_draw_1 : Ms := (mRet (mOp oMod (mCall fInt (aCons (mVar 2) aNil)) (mVar 1)))
abbrev b__law_draw_2 : Ms := (mSeq (mIf (mTest (mOp oLt (mVar 2) (mVar 1))) b__law_draw_0 mNext) b__law_draw_1)
abbrev b__law_draw_3 : Ms := (mSeq (mLPutD (mOp oIx (mVar 0) (mC (.int 0))) (mC (.int 0)) (mOp oDiv (mVar 2) (mVar 1))) b__law_draw_2)
abbrev b__law_draw_4 : Ms := (mSeq (mSet 2 (mOp oIx (mOp oIx (mVar 0) (mC (.int 0))) (mC (.int 0)))) b__law_draw_3)
abbrev b__law_draw_5 : Ms := (mRet (mOp oMod (mCall fInt (aCons (mOp oDiv (mVar 3) (mC (.int 128))) aNil)) (mVar 1)))
abbrev b__law_draw_6 : Ms := (mSeq (mSet 3 (mOp oMod (mCall fInt (aCons (mOp oAdd (mOp oMul (mVar 3) (mVar 3)) (mOp oIx (mVar 0) (mC (.int 1)))) aNil)) (mC (.int 4294967231)))) b__law_draw_5)
abbrev b__law_draw_7 : Ms := (mSeq (mSet 3 (mOp oMod (mCall fInt (aCons (mOp oAdd (mOp oAdd (mOp oMul (mVar 3) (mVar 3)) (mOp oMul (mC (.int 40503)) (mOp oIx (mVar 0) (mC (.int 2))))) (mC (.int 11))) aNil)) (mC (.int 4294967279)))) b__law_draw_6)
abbrev b__law_draw_8 : Ms := (mSeq (mSet 3 (mOp oMod (mCall fInt (aCons (mOp oAdd (mOp oIx (mVar 0) (mC (.int 1))) (mOp oMul (mC (.int 2654435761)) (mOp oIx (mVar 0) (mC (.int 2))))) aNil)) (mC (.int 4294967291)))) b__law_draw_7)
abbrev b__law_draw_9 : Ms := (mSeq (mLPutD (mVar 0) (mC (.int 2)) (mOp oAdd (mOp oIx (mVar 0) (mC (.int 2))) (mC (.int 1)))) b__law_draw_8)
abbrev b__law_draw_10 : Ms := (mSeq (mIf (mTest (mOp (oEq true) (mOp oIx (mVar 0) (mC (.int 0))) (mLst aNil))) b__law_draw_4 mNext) b__law_draw_9)
abbrev b__law_draw : Ms := b__law_draw_10
def d__law_draw : FD := mDef 2 4 b__law_draw
abbrev b__law_pick_0 : Ms := (mRet (mOp oIx (mVar 1) (mCall (fDef d__law_draw) (aCons (mVar 0) (aCons (mCall fLen (aCons (mVar 1) aNil)) aNil)))))
abbrev b__law_pick : Ms := b__law_pick_0
def d__law_pick : FD := mDef 2 2 b__law_pick
abbrev b__law_up_0 : Ms := (mRet (mOp oMul (mUn oNeg (mOp oDiv (mUn oNeg (mVar 0)) (mVar 1))) (mVar 1)))
abbrev b__law_up : Ms := b__law_up_0
def d__law_up : FD := mDef 2 2 b__law_up
abbrev b__law_kind_0 : Ms := (mSet 5 (mOp oSub (mOp oDiv (mOp oPow (mC (.int 10)) (mC (.int 30))) (mVar 3)) (mCall (fDef d__law_draw) (aCons (mVar 0) (aCons (mC (.int 4)) aNil)))))
abbrev b__law_kind_1 : Ms := (mRet (mTup (aCons (mOp oSub (mOp oMul (mVar 3) (mVar 5)) (mVar 4)) (aCons (mVar 3) aNil))))
abbrev b__law_kind_2 : Ms := (mSeq (mIf (bAnd (mTest (mVar 2)) (mTest (mOp (oEq false) (mCall (fDef d__law_draw) (aCons (mVar 0) (aCons (mC (.int 2)) aNil))) (mC (.int 0))))) b__law_kind_0 mNext) b__law_kind_1)
abbrev b__law_kind_3 : Ms := (mSeq (mSet 5 (mCall (fDef d__law_pick) (aCons (mVar 0) (aCons (mLst (aCons (mC (.int 1)) (aCons (mC (.int 1)) (aCons (mC (.int 2)) (aCons (mC (.int 3)) (aCons (mC (.int 4)) (aCons (mC (.int 6)) (aCons (mC (.int 8)) (aCons (mC (.int 5)) (aCons (mOp oAdd (mC (.int 1)) (mCall (fDef d__law_draw) (aCons (mVar 0) (aCons (mC (.int 40)) aNil)))) aNil)))))))))) aNil)))) b__law_kind_2)
abbrev b__law_kind_4 : Ms := (mSeq (mSet 4 (mOp oMod (mCall (fDef d__law_pick) (aCons (mVar 0) (aCons (mLst (aCons (mC (.int 0)) (aCons (mC (.int 0)) (aCons (mC (.int 1)) (aCons (mOp oSub (mVar 3) (mC (.int 1))) (aCons (mOp oDiv (mVar 3) (mC (.int 2))) (aCons (mCall (fDef d__law_draw) (aCons (mVar 0) (aCons (mVar 3) aNil))) aNil))))))) aNil))) (mVar 3))) b__law_kind_3)
abbrev b__law_kind_5 : Ms := (mSeq (mSet 3 (mCall (fDef d__law_pick) (aCons (mVar 0) (aCons (mVar 1) aNil)))) b__law_kind_4)
abbrev b__law_kind : Ms := b__law_kind_5
def d__law_kind : FD := mDef 3 6 b__law_kind
abbrev b__law_book_0 : Ms := (mLPut (mVar 4) (mC (.int 0)) (mOp oIx (mVar 4) (mUn oNeg (mC (.int 1)))))
abbrev b__law_book_1 : Ms := (mRet (mCall fTuple (aCons (mVar 4) aNil)))
abbrev b__law_book_2 : Ms := (mSeq (mIf (bAnd (mTest (mOp oGt (mVar 1) (mC (.int 1)))) (mTest (mOp (oEq false) (mCall (fDef d__law_draw) (aCons (mVar 0) (aCons (mC (.int 6)) aNil))) (mC (.int 0))))) b__law_book_0 mNext) b__law_book_1)
abbrev b__law_book_3 : Ms := (mSeq (mSet 4 (mLcL (iRange (aCons (mVar 1) aNil)) (gN 5) bYes (mCall (fDef d__law_kind) (aCons (mVar 0) (aCons (mVar 2) (aCons (mVar 3) aNil)))) [5])) b__law_book_2)
abbrev b__law_book : Ms := b__law_book_3
def d__law_book : FD := mDef 4 6 b__law_book
abbrev b__law_steps_0 : Ms := (mRet (mCall (fDef d__law_pick) (aCons (mVar 0) (aCons (mOp oAdd (mVar 1) (mLst (aCons (mLst (aCons (mC (.int 1)) (aCons (mC (.int 2)) (aCons (mC (.int 4)) (aCons (mC (.int 8)) (aCons (mC (.int 16)) (aCons (mC (.int 32)) (aCons (mC (.int 64)) aNil)))))))) (aCons (mLst (aCons (mC (.int 1)) (aCons (mC (.int 4)) (aCons (mC (.int 8)) aNil)))) aNil)))) aNil))))
abbrev b__law_steps_1 : Ms := (mSeq (mSet 1 (mLst (aCons (mLst (aCons (mC (.int 1)) (aCons (mC (.int 2)) (aCons (mC (.int 4)) (aCons (mC (.int 8)) (aCons (mC (.int 16)) (aCons (mC (.int 32)) (aCons (mC (.int 64)) aNil)))))))) (aCons (mLst (aCons (mC (.int 1)) (aCons (mC (.int 2)) (aCons (mC (.int 4)) aNil)))) (aCons (mLst (aCons (mC (.int 1)) (aCons (mC (.int 2)) (aCons (mC (.int 4)) (aCons (mC (.int 8)) aNil))))) (aCons (mLst (aCons (mC (.int 4)) (aCons (mC (.int 8)) aNil))) (aCons (mLst (aCons (mC (.int 1)) (aCons (mC (.int 64)) aNil))) (aCons (mLst (aCons (mC (.int 2)) (aCons (mC (.int 16)) (aCons (mC (.int 64)) aNil)))) (aCons (mLst (aCons (mC (.int 64)) aNil)) (aCons (mLst (aCons (mC (.int 1)) aNil)) aNil)))))))))) b__law_steps_0)
abbrev b__law_steps : Ms := b__law_steps_1
def d__law_steps : FD := mDef 1 2 b__law_steps
abbrev b__law_there_0 : Ms := (mRet (mLc (iEnum (aCons (mVar 0) aNil)) (gTu 2 (gsCons (gN 1) (gsCons (gN 2) gsNil))) (mTest (mOp oGt (mVar 2) (mC (.int 0)))) (mVar 1) [1, 2]))
abbrev b__law_there : Ms := b__law_there_0
def d__law_there : FD := mDef 1 3 b__law_there
abbrev b__law_top_0 : Ms := (mRet (mCall fMax (aCons (mLc (iSeq (mCall (fDef d__law_there) (aCons (mVar 1) aNil))) (gN 2) bYes (mOp oIx (mOp oIx (mVar 0) (mVar 2)) (mC (.int 1))) [2]) aNil)))
abbrev b__law_top : Ms := b__law_top_0
def d__law_top : FD := mDef 2 3 b__law_top
end Pl
set_option Elab.async false
set_option linter.all false
set_option maxRecDepth 100000
namespace Pl
open PySem PySem.Spec L2 L3 Sh
def rd (great : List Int) (mixed turns : Int) : List Cell := [.lst (great.map T.int), .lst [.mr 0, .int mixed, .int turns]]
structure RI (D : List Cell) : Prop where
  ex : ∃ (great : List Int) (mixed turns : Int), D = rd great mixed turns ∧ great.length ≤ 64 ∧ 0 ≤ mixed ∧ mixed < 4294967291 ∧ 0 ≤ turns
@[simp] theorem a3_0 {α : Type} {x y z : α} : atI [x, y, z] 0 = some x := rfl
@[simp] theorem a3_1 {α : Type} {x y z : α} : atI [x, y, z] 1 = some y := rfl
@[simp] theorem a3_2 {α : Type} {x y z : α} : atI [x, y, z] 2 = some z := rfl
@[simp] theorem ac_0 {α : Type} {x : α} {l : List α} : atI (x :: l) 0 = some x := atI_nat (j := 0) rfl
@[simp] theorem ix3_2 : ixN 3 2 = some 2 := rfl
@[simp] theorem ixs_0 {n : Nat} : ixN (n + 1) 0 = some 0 := by
  unfold ixN
  rw [if_pos (by omega), if_pos (by omega)]
  rfl
theorem draw_tail {great : List Int} {mixed turns many : Int} {Q : T → List Cell → Prop} {t2 : Option T} (hg : great.length ≤ 64) (m0 : 0 ≤ mixed) (m1 : mixed < 4294967291) (t0 : 0 ≤ turns) (h1 : 1 ≤ many) (h2 : many < 18446744073709551616)
    (q : ∀ n D', 0 ≤ n → n < many → RI D' → Q (.int n) D') : b__law_draw_9 { nx := fun _ M => Q .non M.D, rt := fun t M => noL t = true ∧ Q t M.D } [some (.mr 1), some (.int many), t2, none] ⟨rd great mixed turns, []⟩ := by
  refine w_seq ?_
  simp [rd]
  refine w_seq ?_
  simp
  have r1 := rang (i := mixed + 2654435761 * (turns + 1)) (j := 4294967291) (by omega)
  refine ⟨by unfold CMul; omega, ?_⟩
  refine w_seq ?_
  simp
  refine ⟨by unfold CMul; omega, by unfold CMul; omega, ?_⟩
  have r2 := rang (i := (mixed + 2654435761 * (turns + 1)) % 4294967291 * ((mixed + 2654435761 * (turns + 1)) % 4294967291) + 40503 * (turns + 1) + 11) (j := 4294967279) (by omega)
  generalize ((mixed + 2654435761 * (turns + 1)) % 4294967291 * ((mixed + 2654435761 * (turns + 1)) % 4294967291) + 40503 * (turns + 1) + 11) % 4294967279 = f at r2
  refine w_seq ?_
  simp
  refine ⟨by unfold CMul; omega, ?_⟩
  refine ⟨by unfold CDv; omega, by omega, ?_⟩
  have hf := fun x : Int => rang (i := x) (j := many) (by omega)
  exact q _ _ (hf _).1 (hf _).2 ⟨great, mixed, turns + 1, rfl, hg, m0, m1, by omega⟩
theorem sp_draw {D : List Cell} {many : Int} {Q : T → List Cell → Prop} (hD : RI D) (h1 : 1 ≤ many) (h2 : many < 18446744073709551616) (q : ∀ n D', 0 ≤ n → n < many → RI D' → Q (.int n) D') : d__law_draw [.mr 1, .int many] D Q := by
  obtain ⟨great, mixed, turns, rfl, hg, m0, m1, t0⟩ := hD.ex
  refine ⟨rfl, ?_⟩
  have ht := fun (t2 : Option T) => draw_tail (t2 := t2) hg m0 m1 t0 h1 h2 q
  refine w_seq (w_if ?_)
  simp [rd, he_nil]
  cases great with
  | nil => exact .inl ⟨rfl, ht none⟩
  | cons c rest =>
    refine .inr ⟨by simp, ?_⟩
    refine w_seq ?_
    simp
    refine w_seq ?_
    simp
    refine ⟨by unfold CDv; omega, ?_⟩
    refine w_seq (w_if ?_)
    simp
    have hp := fun x : Int => rang (i := x) (j := many) (by omega)
    have hl2 : rest.length + 1 ≤ 64 := by simpa using hg
    by_cases hx : c < many
    · refine .inr ⟨hx, ?_⟩
      exact ⟨by omega, q _ _ (hp c).1 (hp c).2 ⟨rest, mixed, turns, rfl, by omega, m0, m1, t0⟩⟩
    · refine .inl ⟨by omega, ?_⟩
      exact ⟨by omega, q _ _ (hp c).1 (hp c).2 ⟨(c / many) :: rest, mixed, turns, by simp [rd], by simpa using hl2, m0, m1, t0⟩⟩
def dbl2 (n : Int) : Int := 2 * (if n < 0 then -n else n) + (if n < 0 then 1 else 0)
theorem cutk {ns : List Int} {k : Nat} : cutT ns none (some (k : Int)) = ns.take k := by
  unfold cutT
  have h1 : HT.sIx ns.length 0 none = 0 := rfl
  have h2 : HT.sIx ns.length ns.length (some (k : Int)) = min k ns.length := by
    show (if (k : Int) < 0 then ((k : Int) + (ns.length : Int)).toNat else min (k : Int).toNat ns.length) = _
    rw [if_neg (by omega)]
    simp
  rw [h1, h2]
  simp
theorem sp_pool {ns : List Int} {Q : T → List Cell → Prop} (h : ns.length ≤ 63) (q : ∀ D, RI D → Q (.mr 1) D) : d__law_pool [.scr ns] [] Q := by
  refine ⟨rfl, w_seq ?_⟩
  simp only [x_par, x_acons, x_lc, x_iseq, x_sl, x_var]
  have hc : cutT ns none (some 60) = ns.take 60 := cutk (k := 60)
  simp [wipeT, hc]
  have h0 : (ns.take 60).length ≤ sizeLine := sz64' (by rw [List.length_take]; omega)
  have hcs : (ns.take 60).length ≤ 60 := by rw [List.length_take]; omega
  rw [← List.map_take]
  refine lc_pure (e := T.d ∘ PyData.int) (fun n => .int (dbl2 n)) h0 (fun x acc R _ ha hr => ?_) ?_
  · simp
    unfold dbl2 at hr
    refine ⟨by unfold CMul; omega, ?_⟩
    by_cases hx : x < 0
    · simp [hx] at hr ⊢
      exact ⟨ha, hr⟩
    · simp [hx] at hr ⊢
      exact ⟨ha, hr⟩
  · rw [map_map']
    have hl : ((ns.take 60).map dbl2).length ≤ 60 := by rw [List.length_map]; exact hcs
    generalize (ns.take 60).map dbl2 = cs at hl
    refine w_seq (w_for ?_)
    simp
    refine for_all (fun i τ M => M = ⟨[], []⟩ ∧ ∃ st w, τ = [some (.scr ns), some (.lst (cs.map .int)), some (.int st), w] ∧ 0 ≤ st ∧ st < 4294967291) ⟨rfl, _, _, rfl, by omega, by omega⟩ ?_ ?_
    · rintro i τ M t R ht ⟨rfl, st, w, rfl, h1, h2⟩ k
      rw [List.getElem?_map] at ht
      cases hx : cs[i]? with
      | none => rw [hx] at ht; cases ht
      | some x =>
        rw [hx] at ht
        cases ht
        have hm := rang (i := st * 69069 + x) (j := 4294967291) (by omega)
        simp
        refine ⟨by unfold CMul; omega, ?_⟩
        exact k _ _ ⟨rfl, _, _, rfl, hm.1, hm.2⟩
    · rintro τ M ⟨rfl, st, w, rfl, h1, h2⟩
      dsimp only
      simp only [x_ret, x_newD, x_acons, x_anil, mLcD, x_iseq, x_var]
      simp [wipeT]
      refine lc_pf (e := T.d ∘ PyData.int) (fun n => decide (1000000000000000 < n)) (fun n => .int n) (sz64' (by omega)) (fun x acc R _ ha hr => ?_) ?_
      · simp [CPow]
        by_cases hx : 1000000000000000 < x
        · rw [if_pos (decide_eq_true hx)] at hr
          exact .inr ⟨hx, ha, hr⟩
        · rw [if_neg (by simpa using hx)] at hr
          exact .inl ⟨by omega, hr⟩
      · generalize hdp : cs.filter (fun n => decide (1000000000000000 < n)) = dp
        have hdl : dp.length ≤ 60 := by
          rw [← hdp]
          exact Nat.le_trans (List.length_filter_le _ _) hl
        simp [sizeLine_eq]
        refine q _ ⟨dp, st, 0, by simp [rd], by omega, h1, h2, by omega⟩
end Pl
set_option Elab.async false
set_option linter.all false
set_option maxRecDepth 100000
namespace Pl
open PySem PySem.Spec L2 L3 Sh
theorem sp_pick {D : List Cell} {xs : List PyData} {Q : T → List Cell → Prop} (hD : RI D) (h1 : xs ≠ []) (h2 : xs.length < 100000) (q : ∀ x D', x ∈ xs → RI D' → Q (.d x) D') : d__law_pick [.mr 1, .lst xs] D Q := by
  have hl : 0 < xs.length := List.length_pos_iff.mpr h1
  refine ⟨rfl, ?_⟩
  try simp
  refine sp_draw hD (by omega) (by omega) fun n D' n0 n1 hD' => ?_
  obtain ⟨k, rfl⟩ : ∃ k : Nat, n = k := ⟨n.toNat, by omega⟩
  have hk : k < xs.length := by omega
  try simp
  exact ⟨_, atI_nat (List.getElem?_eq_getElem hk), q _ _ (List.getElem_mem hk) hD'⟩
theorem rup_neg {n m : Int} (h : 0 < m) : -(-n / m) * m = rup n m := by
  have e : -n / m = -((n + m - 1) / m) := by
    have h1 := Int.emod_add_mul_ediv (n + m - 1) m
    have h2 := Int.emod_nonneg (n + m - 1) (show m ≠ 0 by omega)
    have h3 := Int.emod_lt_of_pos (n + m - 1) h
    refine ((Int.ediv_emod_unique h (a := -n) (q := -((n + m - 1) / m)) (r := m - 1 - (n + m - 1) % m)).mpr ⟨?_, by omega, by omega⟩).1
    rw [Int.mul_neg]
    omega
  rw [e]
  unfold rup
  rw [Int.neg_neg]
theorem sp_up {n m : Int} {D : List Cell} {Q : T → List Cell → Prop} (h1 : 0 < m) (h2 : m ≤ 64) (q : Q (.int (rup n m)) D) : d__law_up [.int n, .int m] D Q := by
  refine ⟨rfl, ?_⟩
  rw [← rup_neg h1] at q
  try simp
  exact ⟨by unfold CDv; omega, by unfold CMul; omega, by simpa using q⟩
theorem sp_kind {S : List Int} {gr : Bool} {D : List Cell} {Q : T → List Cell → Prop} (hD : RI D) (hs : S ≠ []) (hl : S.length ≤ 100) (hS : ∀ s ∈ S, Al s) (q : ∀ k D', GK k → RI D' → Q (.d (kd k)) D') : d__law_kind [.mr 1, .lst (S.map .int), .bl gr] D Q := by
  refine ⟨rfl, w_seq ?_⟩
  simp
  refine sp_pick hD (by simpa using hs) (by simp; omega) fun x D1 hx hD1 => ?_
  obtain ⟨s, hs, rfl⟩ := List.mem_map.mp hx
  have al := hS s hs
  have ap := al.pos
  refine w_seq ?_
  simp [sizeLine_eq]
  refine ⟨by unfold CDv; omega, ?_⟩
  refine sp_draw hD1 (by omega) (by omega) fun n D2 n0 n1 hD2 => ?_
  simp
  refine sp_pick hD2 (by simp) (by simp) fun y D3 hy hD3 => ?_
  have : ∃ v : Int, y = .int v := by
    simp at hy
    rcases hy with rfl | rfl | rfl | rfl | rfl <;> exact ⟨_, rfl⟩
  obtain ⟨v, rfl⟩ := this
  have r := rang (i := v) (j := s) (by omega)
  simp
  refine ⟨by omega, ?_⟩
  generalize v % s = sh at r
  refine w_seq ?_
  simp
  refine sp_draw hD3 (by omega) (by omega) fun n2 D4 z0 z1 hD4 => ?_
  simp [sizeLine_eq]
  refine sp_pick hD4 (by simp) (by simp) fun y D5 hy hD5 => ?_
  have : ∃ v : Int, y = .int v ∧ 1 ≤ v ∧ v ≤ 40 := by
    simp at hy
    rcases hy with rfl | rfl | rfl | rfl | rfl | rfl | rfl | rfl <;> exact ⟨_, rfl, by omega, by omega⟩
  obtain ⟨tm, rfl, t1, t2⟩ := this
  have fin : ∀ (D' : List Cell) (t : Int), RI D' → 1 ≤ t → s * t ≤ 1000000000000000000000000000000 → s ≤ s * t → CMul s t ∧ 2 ≤ sizeLine ∧ Q (T.tup [PyData.int (s * t - sh), PyData.int s]) D' := by
    intro D' t hD' h1 h2 h3
    refine ⟨by unfold CMul; omega, by rw [sizeLine_eq]; omega, ?_⟩
    exact q (s * t - sh, s) D' ⟨⟨by show 1 ≤ s * t - sh; omega, by show s * t - sh ≤ _; omega⟩, al⟩ hD'
  have small : s * tm ≤ 1000000000000000000000000000000 ∧ s ≤ s * tm := by
    unfold Al at al
    rcases al with rfl | rfl | rfl | rfl | rfl | rfl | rfl <;> omega
  refine w_seq (w_if ?_)
  simp
  cases gr with
  | false => exact .inl ⟨rfl, fin _ _ hD5 t1 small.1 small.2⟩
  | true =>
    refine .inr ⟨rfl, ?_⟩
    refine sp_draw hD5 (by omega) (by omega) fun n3 D6 y0 y1 hD6 => ?_
    simp
    by_cases hz : n3 = 0
    · refine .inr ⟨hz, ?_⟩
      refine ⟨by unfold CPow; omega, by unfold CDv; omega, ?_⟩
      refine sp_draw hD6 (by omega) (by omega) fun n4 D7 x0 x1 hD7 => ?_
      have big : 1 ≤ 1000000000000000000000000000000 / s - n4 ∧ s * (1000000000000000000000000000000 / s - n4) ≤ 1000000000000000000000000000000 ∧ s ≤ s * (1000000000000000000000000000000 / s - n4) := by
        unfold Al at al
        rcases al with rfl | rfl | rfl | rfl | rfl | rfl | rfl <;> omega
      simp
      exact fin _ _ hD7 big.1 big.2.1 big.2.2
    · exact .inl ⟨hz, fin _ _ hD6 t1 small.1 small.2⟩
theorem sp_steps {D : List Cell} {Q : T → List Cell → Prop} (hD : RI D) (q : ∀ (S : List Int) D', S ≠ [] → S.length ≤ 100 → (∀ s ∈ S, Al s) → RI D' → Q (.lst (S.map .int)) D') : d__law_steps [.mr 1] D Q := by
  refine ⟨rfl, w_seq ?_⟩
  simp [sizeLine_eq]
  refine sp_pick hD (by simp) (by simp) fun x D1 hx hD1 => ?_
  have : ∃ S : List Int, x = .list (S.map .int) ∧ S ≠ [] ∧ S.length ≤ 100 ∧ ∀ s ∈ S, Al s := by
    have al : Al 1 ∧ Al 2 ∧ Al 4 ∧ Al 8 ∧ Al 16 ∧ Al 32 ∧ Al 64 := by unfold Al; omega
    simp at hx
    rcases hx with rfl | rfl | rfl | rfl | rfl | rfl | rfl | rfl | rfl | rfl
    · exact ⟨[1, 2, 4, 8, 16, 32, 64], rfl, by simp, by simp, by simp [al]⟩
    · exact ⟨[1, 2, 4], rfl, by simp, by simp, by simp [al]⟩
    · exact ⟨[1, 2, 4, 8], rfl, by simp, by simp, by simp [al]⟩
    · exact ⟨[4, 8], rfl, by simp, by simp, by simp [al]⟩
    · exact ⟨[1, 64], rfl, by simp, by simp, by simp [al]⟩
    · exact ⟨[2, 16, 64], rfl, by simp, by simp, by simp [al]⟩
    · exact ⟨[64], rfl, by simp, by simp, by simp [al]⟩
    · exact ⟨[1], rfl, by simp, by simp, by simp [al]⟩
    · exact ⟨[1, 2, 4, 8, 16, 32, 64], rfl, by simp, by simp, by simp [al]⟩
    · exact ⟨[1, 4, 8], rfl, by simp, by simp, by simp [al]⟩
  obtain ⟨S, rfl, s1, s2, s3⟩ := this
  exact ⟨rfl, q S D1 s1 s2 s3 hD1⟩
theorem sp_book {S : List Int} {gr : Bool} {many : Int} {D : List Cell} {Q : T → List Cell → Prop} (hD : RI D) (hs : S ≠ []) (hl : S.length ≤ 100) (hS : ∀ s ∈ S, Al s) (h1 : 1 ≤ many) (h2 : many ≤ 6)
    (q : ∀ K D', GB K → (K.length : Int) = many → RI D' → Q (.d (bkD K)) D') : d__law_book [.mr 1, .int many, .lst (S.map .int), .bl gr] D Q := by
  refine ⟨rfl, w_seq ?_⟩
  simp
  unfold mLcL
  simp [wipeT]
  refine ⟨by omega, ?_⟩
  refine lc_all (fun i acc M => ∃ (K : Bk6) (D' : List Cell), M = ⟨D', []⟩ ∧ RI D' ∧ acc = K.map kd ∧ K.length = i ∧ ∀ k ∈ K, GK k) ⟨[], D, rfl, hD, rfl, rfl, by simp⟩ ?_ ?_
  · rintro i acc M t R ht ⟨K, D', rfl, hD', rfl, hk, hK⟩ k
    obtain ⟨hi, rfl⟩ := range_at ht
    simp
    refine sp_kind hD' hs hl hS fun c D1 hc hD1 => ?_
    simp [sizeLine_eq]
    refine ⟨by omega, k _ _ ⟨K ++ [c], D1, rfl, hD1, by simp, by simp [hk], ?_⟩⟩
    intro z hz
    rcases List.mem_append.mp hz with y | y
    · exact hK z y
    · rw [List.mem_singleton.mp y]
      exact hc
  · rintro acc M ⟨K, D', rfl, hD', rfl, hk, hK⟩
    rw [range_len] at hk
    have gK : GB K := ⟨by intro z; subst z; simp at hk; omega, by omega, hK⟩
    refine w_seq (w_if ?_)
    simp
    have hret : ∀ D1, RI D1 → Q (.d (bkD K)) D1 := fun D1 hD1 => q K D1 gK (by omega) hD1
    by_cases hm : many ≤ 1
    · exact .inl ⟨hm, hret _ hD'⟩
    · refine .inr ⟨by omega, ?_⟩
      refine sp_draw hD' (by omega) (by omega) fun n D1 n0 n1 hD1 => ?_
      simp
      by_cases hn : n = 0
      · refine .inr ⟨hn, ?_⟩
        obtain ⟨c, K1, rfl⟩ : ∃ c K1, K = c :: K1 := List.exists_cons_of_ne_nil gK.ne
        obtain ⟨K2, l, e⟩ : ∃ K2 l, c :: K1 = K2 ++ [l] := ⟨_, _, (List.dropLast_concat_getLast gK.ne).symm⟩
        have h3 : atI ((c :: K1).map kd) (-1) = some (kd l) := by
          rw [e, List.map_append]
          exact atI_last _ _
        refine ⟨_, h3, ?_⟩
        simp
        refine q (l :: K1) D1 ⟨by simp, by have := gK.six; simpa using this, fun k hk' => ?_⟩ (by simp at hk ⊢; omega) hD1
        rcases List.mem_cons.mp hk' with z | z
        · rw [z]
          exact hK _ (by rw [e]; simp)
        · exact hK _ (List.mem_cons_of_mem _ z)
      · exact .inl ⟨hn, hret _ hD1⟩
theorem sum_pos : ∀ {l : List Int}, (∀ x ∈ l, 0 ≤ x) → 0 ≤ l.sum ∧ (l.sum ≠ 0 → ∃ x ∈ l, 0 < x)
  | [], _ => by simp
  | a :: l, h => by
    have h1 := h a List.mem_cons_self
    have h2 := sum_pos fun x hx => h x (List.mem_cons_of_mem _ hx)
    rw [List.sum_cons]
    refine ⟨by omega, fun z => ?_⟩
    by_cases c : 0 < a
    · exact ⟨a, List.mem_cons_self, c⟩
    · obtain ⟨x, hx, h3⟩ := h2.2 (by omega)
      exact ⟨x, List.mem_cons_of_mem _ hx, h3⟩
end Pl
set_option Elab.async false
set_option linter.all false
set_option maxRecDepth 100000
namespace Pl
open PySem PySem.Spec L2 L3 Sh
theorem num_getD {N : List Int} {i : Nat} (h : i < N.length) : (N.map PyData.int).getD i .none = .int (num N i) := by
  rw [num_at h, List.getD_eq_getElem?_getD, List.getElem?_map, List.getElem?_eq_getElem h]
  rfl
theorem lc_there {K : Bk6} {N : List Int} {τ : En} {M : Mem} {F : List PyData → Mem → Prop} (g : GB K) (gn : GN K N) (hτ : τ.length = 3) (q : F ((thr K N).map ix) M) :
    goLc (gTu 2 (gsCons (gN 1) (gsCons (gN 2) gsNil))) (mTest (mOp oGt (mVar 2) (mC (.int 0)))) (mVar 1) τ F (enumT (N.map .int)) [] M := by
  have h6 := g.six
  have hl := gn.len
  obtain ⟨a, b, c, rfl⟩ : ∃ a b c, τ = [a, b, c] := by
    match τ, hτ with
    | [a, b, c], _ => exact ⟨a, b, c, rfl⟩
  unfold enumT
  refine lc_pf (ts := List.range (N.map PyData.int).length) (fun i => decide (0 < num N i)) (fun i => ix i) (sz64' (by simp; omega)) (fun x acc R hx ha hr => ?_) ?_
  · have hx' : x < N.length := by simpa using hx
    rw [num_getD hx']
    simp
    by_cases hz : 0 < num N x
    · rw [if_pos (decide_eq_true hz)] at hr
      exact .inr ⟨hz, ha, hr⟩
    · rw [if_neg (by simpa using hz)] at hr
      exact .inl ⟨by omega, hr⟩
  · simp
    have e : (List.range N.length).filter (fun i => decide (0 < num N i)) = thr K N := by rw [hl]; rfl
    rw [e]
    exact q
theorem sp_there {K : Bk6} {N : List Int} {D : List Cell} {Q : T → List Cell → Prop} (g : GB K) (gn : GN K N) (q : Q (.lst ((thr K N).map ix)) D) : d__law_there [.d (recD N)] D Q := by
  refine ⟨rfl, ?_⟩
  simp only [x_ret, x_lc, x_ienum, x_acons, x_anil, x_var]
  simp [recD, wipeT]
  exact lc_there g gn rfl q
def mn : List Int → Int
  | [] => 0
  | [x] => x
  | x :: y :: r => min x (mn (y :: r))
theorem mn_le : ∀ {l : List Int} {x : Int}, x ∈ l → mn l ≤ x
  | [y], x, h => by
    rw [List.mem_singleton.mp h]
    exact Int.le_refl _
  | y :: z :: r, x, h => by
    unfold mn
    rcases List.mem_cons.mp h with q | q
    · rw [q]; omega
    · have := mn_le q; omega
theorem mn_mem : ∀ {l : List Int}, l ≠ [] → mn l ∈ l
  | [y], _ => by simp [mn]
  | y :: z :: r, _ => by
    unfold mn
    have := mn_mem (l := z :: r) (by simp)
    rcases Int.le_total y (mn (z :: r)) with q | q
    · rw [Int.min_eq_left q]; exact List.mem_cons_self
    · rw [Int.min_eq_right q]; exact List.mem_cons_of_mem _ this
theorem mn_uniq {l : List Int} {m : Int} (h : m ∈ l) (g : ∀ y ∈ l, m ≤ y) : m = mn l := by
  have h1 := mn_le h
  have h2 := g _ (mn_mem (l := l) (by intro z; rw [z] at h; cases h))
  omega
def pwk (k : Int × Int) : Int := (lowN (rup k.1 k.2).toNat : Int)
def un (Ks : List (Int × Int)) : Int := mn (Ks.map pwk)
/-- the kinds there -/
def kth (K : Bk6) (N : List Int) : List (Int × Int) := (thr K N).map (kat K)
def lst0 (K : Bk6) (N : List Int) : Int := un (kth K N)
theorem sp_top {K : Bk6} {N : List Int} {D : List Cell} {Q : T → List Cell → Prop} (g : GB K) (gn : GN K N) (q : Q (.int (mx (als K (thr K N)))) D) : d__law_top [.d (bkD K), .d (recD N)] D Q := by
  have gr := gn.gr g
  refine ⟨rfl, ?_⟩
  simp
  rw [x_lc]
  simp [wipeT]
  refine sp_there g gn ?_
  simp
  have := lc_al (M := ⟨D, []⟩) (a := some (.d (recD N))) (F := fun acc M2 => fMax [.lst acc] M2 fun t M => noL t = true ∧ Q t M.D) g gr (f_max (als_ne gr) ⟨rfl, q⟩)
  rw [mapT]
  exact this
/-- the floor -/
def fl0 (K : Bk6) (N : List Int) (i : Nat) : Int := num N i * rup (kat K i).1 (min (kat K i).2 (lst0 K N))
def fl (K : Bk6) (N : List Int) : Int := rup ((List.range K.length).map (fl0 K N)).sum (mx (als K (thr K N)))
theorem rec_at {N : List Int} {i : Nat} (h : i < N.length) : atI (N.map PyData.int) (i : Int) = some (.int (num N i)) := by
  refine atI_nat ?_
  rw [List.getElem?_map, List.getElem?_eq_getElem h, num_at h]
  rfl
end Pl
set_option Elab.async false
set_option linter.all false
set_option maxRecDepth 100000
namespace Pl
open PySem PySem.Spec L2 L3 Sh
end Pl
set_option Elab.async false
set_option linter.all false
set_option maxRecDepth 100000
namespace Pn
open PySem PySem.Spec L2 L3
abbrev d_places_there : FD := Pl.d_places_there
abbrev d__law_there : FD := Pl.d__law_there
end Pn
set_option Elab.async false
set_option linter.all false
set_option maxRecDepth 100000
namespace Pl
open PySem PySem.Spec L2 L3 Sh
theorem g_kd {k : Int × Int} {i j : Nat} {τ : En} {M : Mem} {P : En → Mem → Prop} (h : P ((τ.set i (some (.int k.1))).set j (some (.int k.2))) M) : gTu 2 (gsCons (gN i) (gsCons (gN j) gsNil)) (.d (kd k)) τ M P := ⟨rfl, rfl, h⟩
def fw (s r m : Int) : Nat := ((List.range 64).find? fun (n : Nat) => decide (((n : Int) * s - r) % m = 0)).getD 0
end Pl
set_option Elab.async false
set_option linter.all false
set_option maxRecDepth 100000
namespace Pl
open PySem PySem.Spec L2 L3 Sh
def lk (K : Bk6) (i : Nat) : Int := rm K i - (kat K i).1
/-- fields of f behind one of p -/
def bh (K : Bk6) (m : Int) (p f : Nat) : Int := (fw (rm K f) (m * (lk K p / m)) (kat K p).2 : Int)
theorem bk_ix {K : Bk6} {i : Nat} {M : Mem} {Q : Kt} (g : GB K) (h : i < K.length) (q : Q (.d (kd (kat K i))) M) : oIx (.d (bkD K)) (.int (i : Int)) M Q := by
  unfold bkD
  simp only [x_ixt]
  exact ⟨_, at_book g h, q⟩
/-- what a filler is needed for -/
def nd (K : Bk6) (N : List Int) (f : Nat) : Int := ((thr K N).map fun p => num N p * bh K (lst0 K N) p f).sum
def fls (K : Bk6) (N : List Int) : List Nat := (thr K N).filter fun f => decide (pwk (kat K f) = lst0 K N)
end Pl
set_option Elab.async false
set_option linter.all false
set_option maxRecDepth 100000
namespace Pl
open PySem PySem.Spec L2 L3 Sh
section
variable {K : Bk6} {N : List Int} {f : List Nat} {m : Int} (g : GB K) (gn : GN K N) (hp : f.Perm (List.range K.length))
end
end Pl
set_option Elab.async false
set_option linter.all false
set_option maxRecDepth 100000
namespace Pl
open PySem PySem.Spec L2 L3 Sh
/-- a power of two to 128 -/
def Bl (a : Int) : Prop := ∃ j : Nat, j ≤ 7 ∧ a = ((2 ^ j : Nat) : Int)
theorem Bl.pos {a : Int} (h : Bl a) : 1 ≤ a ∧ a ≤ 128 := by
  obtain ⟨j, hj, rfl⟩ := h
  have h1 : 1 ≤ 2 ^ j := Nat.one_le_two_pow
  have h2 : 2 ^ j ≤ 2 ^ 7 := Nat.pow_le_pow_right (by omega) hj
  omega
end Pl
set_option Elab.async false
set_option linter.all false
set_option maxRecDepth 100000
namespace Pl
open PySem PySem.Spec L2 L3 Sh
def Pw (m : Int) : Prop := ∃ j : Nat, m = ((2 ^ j : Nat) : Int)
theorem Pw.pos {m : Int} (h : Pw m) : 1 ≤ m := by
  obtain ⟨j, rfl⟩ := h
  have : 1 ≤ 2 ^ j := Nat.one_le_two_pow
  omega
def tm (K : Bk6) (m : Int) (i : Nat) : Int := rup (kat K i).1 (min (kat K i).2 m)
/-- a row has the fields of a record -/
def Ct (K : Bk6) (N : List Int) (r : List Nat) : Prop := ∀ i, i < K.length → ((r.count i : Nat) : Int) = num N i
theorem ct_thr {K : Bk6} {N : List Int} {r : List Nat} (gr : ∀ i ∈ r, i < K.length) (c : Ct K N r) (i : Nat) : i ∈ r ↔ i ∈ thr K N := by
  rw [thr_mem]
  constructor
  · intro h
    have := List.count_pos_iff.mpr h
    have := c i (gr i h)
    exact ⟨gr i h, by omega⟩
  · rintro ⟨h1, h2⟩
    have := c i h1
    exact List.count_pos_iff.mp (by omega)
theorem ct_mx {K : Bk6} {N : List Int} {r : List Nat} (ne : r ≠ []) (gr : ∀ i ∈ r, i < K.length) (c : Ct K N r) : mx (als K r) = mx (als K (thr K N)) := by
  have h : als K r ≠ [] := by simpa [als] using ne
  refine mx_uniq ?_ fun y hy => ?_
  · obtain ⟨i, hi, e⟩ := List.mem_map.mp (mx_mem h)
    have e' : (kat K i).2 = mx (als K r) := e
    rw [← e']
    exact List.mem_map_of_mem (f := fun i => (kat K i).2) ((ct_thr gr c i).mp hi)
  · obtain ⟨i, hi, rfl⟩ := List.mem_map.mp hy
    exact mx_ge (List.mem_map_of_mem (f := fun i => (kat K i).2) ((ct_thr gr c i).mpr hi))
/-- how far one field of p with its fillers leads -/
def st (K : Bk6) (m : Int) (p f : Nat) : Int := tm K m p + bh K m p f * rm K f
def blk (K : Bk6) (m : Int) (p f : Nat) : List Nat := p :: List.replicate (bh K m p f).toNat f
structure Fa (K : Bk6) (N : List Int) (f : Nat) (L : List Nat) : Prop where
  perm : L.Perm ((thr K N).filter fun p => decide (p ≠ f))
  fall : L.Pairwise fun x y => (kat K y).2 ≤ (kat K x).2
theorem sum_perm {l m : List Nat} (f : Nat → Int) (h : l.Perm m) : (l.map f).sum = (m.map f).sum := by
  induction h with
  | nil => rfl
  | cons x _ ih => simp [ih]
  | swap x y l => simp; omega
  | trans _ _ a b => exact a.trans b
theorem sum_less {f : Nat} (F : Nat → Int) : ∀ {l : List Nat}, l.Nodup → f ∈ l → ((l.filter fun p => decide (p ≠ f)).map F).sum + F f = (l.map F).sum
  | a :: l, nd, h => by
    obtain ⟨n1, n2⟩ := List.nodup_cons.mp nd
    rcases List.mem_cons.mp h with z | z
    · subst z
      have : (l.filter fun p => decide (p ≠ f)) = l := List.filter_eq_self.mpr fun x hx => by
        refine decide_eq_true ?_
        intro z
        exact n1 (z ▸ hx)
      rw [List.filter_cons, if_neg (by simp), this, List.map_cons, List.sum_cons]
      omega
    · have ne : a ≠ f := fun q => n1 (q ▸ z)
      rw [List.filter_cons, if_pos (by simpa using ne), List.map_cons, List.sum_cons, List.map_cons, List.sum_cons]
      have := sum_less F n2 z
      omega
theorem thr_nd (K : Bk6) (N : List Int) : (thr K N).Nodup := List.Nodup.sublist List.filter_sublist List.nodup_range
theorem Fa.sum {K : Bk6} {N : List Int} {f : Nat} {L : List Nat} (h : Fa K N f L) (hf : f ∈ fls K N) (F : Nat → Int) : (L.map F).sum + F f = ((thr K N).map F).sum := by
  rw [sum_perm F h.perm]
  exact sum_less F (thr_nd K N) (List.mem_filter.mp hf).1
theorem Fa.mem {K : Bk6} {N : List Int} {f : Nat} {L : List Nat} (h : Fa K N f L) {p : Nat} : p ∈ L ↔ p ∈ thr K N ∧ p ≠ f := by
  rw [h.perm.mem_iff, List.mem_filter]
  simp
end Pl
set_option Elab.async false
set_option linter.all false
set_option maxRecDepth 100000
namespace Pz
open PySem PySem.Spec L2 L3
abbrev d__law_draw : FD := Pl.d__law_draw
abbrev b__law_few_0 : Ms := (mLPut (mVar 3) (mVar 5) (mOp oAdd (mOp oIx (mVar 3) (mVar 5)) (mC (.int 1))))
abbrev b__law_few_1 : Ms := (mSeq (mSet 5 (mCall (fDef d__law_draw) (aCons (mVar 0) (aCons (mVar 1) aNil)))) b__law_few_0)
abbrev b__law_few_2 : Ms := (mRet (mCall fTuple (aCons (mVar 3) aNil)))
abbrev b__law_few_3 : Ms := (mSeq (mFor (iRange (aCons (mOp oAdd (mC (.int 1)) (mCall (fDef d__law_draw) (aCons (mVar 0) (aCons (mVar 2) aNil)))) aNil)) (gN 4) b__law_few_1) b__law_few_2)
abbrev b__law_few_4 : Ms := (mSeq (mSet 3 (mOp oMulL (mLst (aCons (mC (.int 0)) aNil)) (mVar 1))) b__law_few_3)
abbrev b__law_few : Ms := b__law_few_4
def d__law_few : FD := mDef 3 6 b__law_few
abbrev d__law_up : FD := Pl.d__law_up
abbrev b__law_end_0 : Ms := (mSet 2 (mOp oAdd (mCall (fDef d__law_up) (aCons (mVar 2) (aCons (mOp oIx (mOp oIx (mVar 0) (mVar 3)) (mC (.int 1))) aNil))) (mOp oIx (mOp oIx (mVar 0) (mVar 3)) (mC (.int 0)))))
abbrev b__law_end_1 : Ms := (mRet (mVar 2))
abbrev b__law_end_2 : Ms := (mSeq (mFor (iSeq (mVar 1)) (gN 3) b__law_end_0) b__law_end_1)
abbrev b__law_end : Ms := b__law_end_2
def d__law_end : FD := mDef 3 4 b__law_end
abbrev b__law_size_0 : Ms := (mRet (mCall (fDef d__law_up) (aCons (mCall (fDef d__law_end) (aCons (mVar 0) (aCons (mVar 1) (aCons (mC (.int 0)) aNil)))) (aCons (mCall fMax (aCons (mLc (iSeq (mVar 1)) (gN 2) bYes (mOp oIx (mOp oIx (mVar 0) (mVar 2)) (mC (.int 1))) [2]) aNil)) aNil))))
abbrev b__law_size : Ms := b__law_size_0
def d__law_size : FD := mDef 2 3 b__law_size
end Pz
set_option Elab.async false
set_option linter.all false
set_option maxRecDepth 100000
namespace Ll
open PySem PySem.Spec L2 L3
abbrev d__law_up : FD := Pl.d__law_up
abbrev b__law_parts_0 : Ms := (mSet 3 (mOp oAdd (mVar 3) (mLc (iRange (aCons (mOp oAdd (mCall fInt (aCons (mVar 2) aNil)) (mC (.int 1))) aNil)) (gN 5) bYes (mOp oAdd (mVar 4) (mTup (aCons (mVar 5) aNil))) [5])))
abbrev b__law_parts_1 : Ms := (mSet 1 (mVar 3))
abbrev b__law_parts_2 : Ms := (mSeq (mFor (iSeq (mVar 1)) (gN 4) b__law_parts_0) b__law_parts_1)
abbrev b__law_parts_3 : Ms := (mSeq (mSet 3 (mLst aNil)) b__law_parts_2)
abbrev b__law_parts_4 : Ms := (mRet (mVar 1))
abbrev b__law_parts_5 : Ms := (mSeq (mFor (iSeq (mVar 0)) (gN 2) b__law_parts_3) b__law_parts_4)
abbrev b__law_parts_6 : Ms := (mSeq (mSet 1 (mLst (aCons (mTup aNil) aNil))) b__law_parts_5)
abbrev b__law_parts : Ms := b__law_parts_6
def d__law_parts : FD := mDef 1 6 b__law_parts
abbrev d__law_there : FD := Pl.d__law_there
abbrev d__law_top : FD := Pl.d__law_top
abbrev b__law_least_0 : Ms := (mDrop (mMeth fApp (mVar 4) (aCons (mOp oAdd (mCall (fDef d__law_up) (aCons (mOp oNGet (mVar 2) (mOp oAdd (mOp oAdd (mSl (mVar 3) oNone (oPart (mVar 5))) (mTup (aCons (mOp oSub (mOp oIx (mVar 3) (mVar 5)) (mC (.int 1))) aNil))) (mSl (mVar 3) (oPart (mOp oAdd (mVar 5) (mC (.int 1)))) oNone))) (aCons (mVar 7) aNil))) (mVar 6)) aNil)))
abbrev b__law_least_1 : Ms := (mSeq (mAsg (mOp oIx (mVar 0) (mVar 5)) (gTu 2 (gsCons (gN 6) (gsCons (gN 7) gsNil)))) b__law_least_0)
abbrev b__law_least_2 : Ms := (mNPut (mVar 2) (mVar 3) (mIte (mTest (mOp (oEq true) (mVar 4) (mLst aNil))) (mCall fMin (aCons (mVar 4) aNil)) (mC (.int 0))))
abbrev b__law_least_3 : Ms := (mSeq (mFor (iSeq (mCall (fDef d__law_there) (aCons (mVar 3) aNil))) (gN 5) b__law_least_1) b__law_least_2)
abbrev b__law_least_4 : Ms := (mSeq (mSet 4 (mNewL aNil)) b__law_least_3)
abbrev b__law_least_5 : Ms := (mRet (mCall (fDef d__law_up) (aCons (mOp oNGet (mVar 2) (mCall fTuple (aCons (mVar 1) aNil))) (aCons (mCall (fDef d__law_top) (aCons (mVar 0) (aCons (mVar 1) aNil))) aNil))))
abbrev b__law_least_6 : Ms := (mSeq (mFor (iSeq (mCall (fDef d__law_parts) (aCons (mVar 1) aNil))) (gN 3) b__law_least_4) b__law_least_5)
abbrev b__law_least_7 : Ms := (mSeq (mSet 2 mNNew) b__law_least_6)
abbrev b__law_least : Ms := b__law_least_7
def d__law_least : FD := mDefT 2 8 b__law_least
abbrev d_row_end : FD := Sh.d_row_end
abbrev d_row_whole : FD := Sh.d_row_whole
abbrev b_require_few_0 : Ms := mDead
abbrev b_require_few_1 : Ms := (mSet 1 (mOp oMul (mVar 1) (mOp oAdd (mVar 2) (mC (.int 1)))))
abbrev b_require_few_2 : Ms := mDead
abbrev b_require_few_3 : Ms := (mIf (mTest (mOp oGt (mVar 1) (mC (.int 256)))) b_require_few_2 mNext)
abbrev b_require_few_4 : Ms := (mSeq (mFor (iSeq (mVar 0)) (gN 2) b_require_few_1) b_require_few_3)
abbrev b_require_few_5 : Ms := (mSeq (mSet 1 (mC (.int 1))) b_require_few_4)
abbrev b_require_few_6 : Ms := (mSeq (mIf (mTest (mOp oGt (mCall fSumT (aCons (mVar 0) aNil)) (mC (.int 100)))) b_require_few_0 mNext) b_require_few_5)
abbrev b_require_few : Ms := b_require_few_6
def d_require_few : FD := mDef 1 3 b_require_few
abbrev b_parts_of_0 : Ms := (mSet 1 (mLc2 (iSeq (mVar 1)) (gN 3) bYes (iRange (aCons (mOp oAdd (mVar 2) (mC (.int 1))) aNil)) (gN 4) bYes (mOp oAdd (mVar 3) (mTup (aCons (mVar 4) aNil))) [3, 4] [4]))
abbrev b_parts_of_1 : Ms := (mRet (mVar 1))
abbrev b_parts_of_2 : Ms := (mSeq (mFor (iSeq (mVar 0)) (gN 2) b_parts_of_0) b_parts_of_1)
abbrev b_parts_of_3 : Ms := (mSeq (mSet 1 (mLst (aCons (mTup aNil) aNil))) b_parts_of_2)
abbrev b_parts_of : Ms := b_parts_of_3
def d_parts_of : FD := mDef 1 5 b_parts_of
abbrev d_places_there : FD := Pl.d_places_there
abbrev b_one_fewer_0 : Ms := (mRet (mOp oAdd (mOp oAdd (mSl (mVar 0) oNone (oPart (mVar 1))) (mTup (aCons (mOp oSub (mOp oIx (mVar 0) (mVar 1)) (mC (.int 1))) aNil))) (mSl (mVar 0) (oPart (mOp oAdd (mVar 1) (mC (.int 1)))) oNone)))
abbrev b_one_fewer : Ms := b_one_fewer_0
def d_one_fewer : FD := mDef 2 2 b_one_fewer
abbrev b_last_places_0 : Ms := (mAsg (mCall fMinD (aCons (mVar 6) aNil)) (gTu 2 (gsCons (gNPut (mVar 3) (mVar 5)) (gsCons (gNPut (mVar 4) (mVar 5)) gsNil))))
abbrev b_last_places_1 : Ms := (mSeq (mSet 6 (mLc (iSeq (mCall (fDef d_places_there) (aCons (mVar 5) aNil))) (gN 7) bYes (mTup (aCons (mCall (fDef d_row_end) (aCons (mVar 0) (aCons (mTup (aCons (mVar 7) aNil)) (aCons (mOp oNGet (mVar 3) (mCall (fDef d_one_fewer) (aCons (mVar 5) (aCons (mVar 7) aNil)))) aNil)))) (aCons (mVar 7) aNil))) [7])) b_last_places_0)
abbrev b_last_places_2 : Ms := (mRet (mVar 4))
abbrev b_last_places_3 : Ms := (mSeq (mFor (iSeq (mSl (mVar 2) (oPart (mC (.int 1))) oNone)) (gN 5) b_last_places_1) b_last_places_2)
abbrev b_last_places_4 : Ms := (mSeq (mSet 4 mNNew) b_last_places_3)
abbrev b_last_places_5 : Ms := (mSeq (mSet 3 (mNOne (mOp oIx (mVar 2) (mC (.int 0))) (mC (.int 0)))) b_last_places_4)
abbrev b_last_places_6 : Ms := (mSeq (mSet 2 (mCall (fDef d_parts_of) (aCons (mVar 1) aNil))) b_last_places_5)
abbrev b_last_places : Ms := b_last_places_6
def d_last_places : FD := mDef 2 8 b_last_places
abbrev b_least_row_0 : Ms := (mSet 4 (mCall (fDef d_one_fewer) (aCons (mVar 4) (aCons (mOp oNGet (mVar 2) (mVar 4)) aNil))))
abbrev b_least_row_1 : Ms := (mSeq (mDrop (mMeth fApp (mVar 3) (aCons (mOp oNGet (mVar 2) (mVar 4)) aNil))) b_least_row_0)
abbrev b_least_row_2 : Ms := (mRet (mCall fTuple (aCons (mRevL (mVar 3)) aNil)))
abbrev b_least_row_3 : Ms := (mSeq (mWhile (mTest (mOp (oNIn false) (mVar 4) (mVar 2))) b_least_row_1) b_least_row_2)
abbrev b_least_row_4 : Ms := (mSeq (mSet 4 (mVar 1)) b_least_row_3)
abbrev b_least_row_5 : Ms := (mSeq (mSet 3 (mNewL aNil)) b_least_row_4)
abbrev b_least_row_6 : Ms := (mSeq (mSet 2 (mCall (fDef d_last_places) (aCons (mVar 0) (aCons (mVar 1) aNil)))) b_least_row_5)
abbrev b_least_row_7 : Ms := (mSeq (mDrop (mCall (fDef d_require_few) (aCons (mVar 1) aNil))) b_least_row_6)
abbrev b_least_row : Ms := b_least_row_7
def d_least_row : FD := mDefT 2 5 b_least_row
abbrev b_least_whole_0 : Ms := (mRet (mCall (fDef d_row_whole) (aCons (mVar 0) (aCons (mCall (fDef d_least_row) (aCons (mVar 0) (aCons (mVar 1) aNil))) aNil))))
abbrev b_least_whole : Ms := b_least_whole_0
def d_least_whole : FD := mDef 2 2 b_least_whole
end Ll
set_option Elab.async false
set_option linter.all false
set_option maxRecDepth 100000
namespace Pl
open PySem PySem.Spec L2 L3 Sh
theorem sp_end {K : Bk6} {r : List Nat} {e : Int} {D : List Cell} {Q : T → List Cell → Prop} (g : GB K) (gr : ∀ i ∈ r, i < K.length) (q : Q (.int (rend K r e)) D) : Pz.d__law_end [.d (bkD K), .d (rowD r), .int e] D Q := by
  refine ⟨rfl, w_seq (w_for ?_)⟩
  show mVar 1 [some (.d (bkD K)), some (.d (rowD r)), some (.int e), none] _ _
  refine ⟨_, rfl, ?_⟩
  show goFor _ _ _ ((r.map ix).map T.d) _ _
  refine for_all (fun i τ M => M = ⟨D, []⟩ ∧ ∃ p, τ = [some (.d (bkD K)), some (.d (rowD r)), some (.int (rend K (r.take i) e)), p]) ⟨rfl, _, rfl⟩ ?_ ?_
  · rintro i τ M t R ht ⟨rfl, p, rfl⟩ k
    obtain ⟨j, hj, rfl, hi⟩ := row_at ht
    have jl := gr j (List.mem_of_getElem? hj)
    have a := (kat_ok g jl).1.2.pos
    rw [take_snoc hj, rend_snoc] at k
    rw [x_gn]
    show mSet 2 _ _ [some (.d (bkD K)), some (.d (rowD r)), some (.int (rend K (r.take i) e)), some (.int (j : Int))] _
    rw [x_set]
    refine ⟨_, rfl, .d (bkD K), rfl, .int (j : Int), rfl, bk_ix g jl ?_⟩
    refine ⟨_, at_1, ?_⟩
    refine ⟨by simp, sp_up (by omega) (by omega) ?_⟩
    refine ⟨.d (bkD K), rfl, .int (j : Int), rfl, bk_ix g jl ?_⟩
    refine ⟨_, at_0, ?_⟩
    exact k _ _ ⟨rfl, _, rfl⟩
  · rintro τ M ⟨rfl, p, rfl⟩
    rw [show ((r.map ix).map T.d).length = r.length by simp, List.take_length]
    exact ⟨_, rfl, rfl, q⟩
theorem sp_size {K : Bk6} {r : List Nat} {D : List Cell} {Q : T → List Cell → Prop} (g : GB K) (gr : GR K r) (q : Q (.int (whole K r)) D) : Pz.d__law_size [.d (bkD K), .d (rowD r)] D Q := by
  have ha := (als_al g gr).pos
  refine ⟨rfl, ?_⟩
  show Pz.b__law_size_0 _ [some (.d (bkD K)), some (.d (rowD r)), none] _
  simp only [x_ret, x_call, x_acons]
  refine ⟨.d (bkD K), rfl, .d (rowD r), rfl, (by simp), sp_end g gr.ok ?_⟩
  dsimp only
  rw [x_lc]
  refine ⟨_, rfl, ?_⟩
  show goLc _ _ _ [some (.d (bkD K)), some (.d (rowD r)), none] _ ((r.map ix).map T.d) _ _
  rw [List.map_map, mapT]
  refine lc_al g gr ?_
  simp only [x_anil]
  refine f_max (als_ne gr) ?_
  exact ⟨by simp, sp_up (by omega) (by omega) ⟨rfl, q⟩⟩
theorem sum_set : ∀ {N : List Int} {i : Nat} (h : i < N.length), (N.set i (N[i] + 1)).sum = N.sum + 1
  | a :: N, 0, _ => by simp; omega
  | a :: N, i + 1, h => by
    have := sum_set (N := N) (i := i) (by simpa using h)
    simp only [List.set_cons_succ, List.sum_cons, List.getElem_cons_succ]
    omega
theorem set_nn {N : List Int} {i : Nat} (h : i < N.length) (hn : ∀ n ∈ N, 0 ≤ n) : ∀ n ∈ N.set i (N[i] + 1), 0 ≤ n := by
  intro n hm
  rcases List.mem_or_eq_of_mem_set hm with z | z
  · exact hn n z
  · have := hn _ (List.getElem_mem h)
    omega
theorem mem_le_sum : ∀ {N : List Int}, (∀ n ∈ N, 0 ≤ n) → ∀ n ∈ N, n ≤ N.sum
  | a :: N, h, n, hm => by
    have h1 := h a List.mem_cons_self
    have h2 := (sum_pos fun x hx => h x (List.mem_cons_of_mem _ hx)).1
    rw [List.sum_cons]
    rcases List.mem_cons.mp hm with z | z
    · omega
    · have := mem_le_sum (fun x hx => h x (List.mem_cons_of_mem _ hx)) n z
      omega
theorem pos_ex : ∀ {N : List Int}, (∀ n ∈ N, 0 ≤ n) → 0 < N.sum → ∃ n ∈ N, 0 < n
  | [], _, h => by simp at h
  | a :: N, h, hs => by
    by_cases z : 0 < a
    · exact ⟨a, List.mem_cons_self, z⟩
    · rw [List.sum_cons] at hs
      obtain ⟨n, hn, hp⟩ := pos_ex (N := N) (fun x hx => h x (List.mem_cons_of_mem _ hx)) (by omega)
      exact ⟨n, List.mem_cons_of_mem _ hn, hp⟩
theorem ixN_nat {n i : Nat} (h : i < n) : ixN n (i : Int) = some i := by
  unfold ixN
  simp
  omega
theorem sp_few {K : Bk6} {most : Int} {D : List Cell} {Q : T → List Cell → Prop} (hD : RI D) (g : GB K) (h1 : 1 ≤ most) (h2 : most ≤ 64) (q : ∀ N D', GN K N → 1 ≤ N.sum → N.sum ≤ most → RI D' → Q (.d (recD N)) D') : Pz.d__law_few [.mr 1, .int (K.length : Int), .int most] D Q := by
  have h6 := g.six
  have hK : 1 ≤ K.length := List.length_pos_iff.mpr g.ne
  refine ⟨rfl, w_seq ?_⟩
  show mSet 3 (mOp oMulL (mLst (aCons (mC (.int 0)) aNil)) (mVar 1)) _ [some (.mr 1), some (.int (K.length : Int)), some (.int most), none, none, none] _
  rw [x_set]
  refine ⟨sz64' (by decide), _, rfl, ?_⟩
  dsimp only
  rw [x_mulL]
  refine ⟨⟨by omega, by omega, sz64' (by simp; omega)⟩, ?_⟩
  have e0 : (List.replicate (K.length : Int).toNat [PyData.int 0]).flatten = (List.replicate K.length (0 : Int)).map .int := by
    rw [Int.toNat_natCast]
    generalize K.length = n
    induction n with
    | zero => rfl
    | succ n ih => rw [List.replicate_succ, List.flatten_cons, ih]; rfl
  rw [e0]
  refine w_seq (w_for ?_)
  show iRange _ [some (.mr 1), some (.int (K.length : Int)), some (.int most), some (.lr 0), none, none] ⟨D, [some ((List.replicate K.length (0 : Int)).map .int)]⟩ _
  simp only [x_irange, x_acons, x_anil]
  refine ⟨.mr 1, rfl, .int most, rfl, (by simp), sp_draw hD (by omega) (by omega) fun d D1 d0 d1 hD1 => ?_⟩
  refine ⟨by omega, ?_⟩
  refine for_all (fun i τ M => ∃ (N : List Int) (D' : List Cell) (u v : Option T), M = ⟨D', [some (N.map .int)]⟩ ∧ RI D' ∧ (N.length = K.length ∧ (∀ n ∈ N, 0 ≤ n) ∧ N.sum = (i : Int)) ∧ τ = [some (.mr 1), some (.int (K.length : Int)), some (.int most), some (.lr 0), u, v])
    ⟨_, D1, _, _, rfl, hD1, ⟨by simp, fun n hn => by rw [List.eq_of_mem_replicate hn]; omega, by simp⟩, rfl⟩ ?_ ?_
  · rintro i τ M t R ht ⟨N, D', u, v, rfl, hD', ⟨n1, n2, n3⟩, rfl⟩ k
    obtain ⟨hi, rfl⟩ := range_at ht
    rw [x_gn]
    refine w_seq ?_
    show mSet 5 _ _ [some (.mr 1), some (.int (K.length : Int)), some (.int most), some (.lr 0), some (.int (i : Int)), v] _
    rw [x_set]
    refine ⟨.mr 1, rfl, _, rfl, (by simp), sp_draw hD' (by omega) (by omega) fun s D2 s0 s1 hD2 => ?_⟩
    obtain ⟨j, rfl⟩ : ∃ j : Nat, s = (j : Int) := ⟨s.toNat, by omega⟩
    have jl : j < N.length := by omega
    show Pz.b__law_few_0 _ [some (.mr 1), some (.int (K.length : Int)), some (.int most), some (.lr 0), some (.int (i : Int)), some (.int (j : Int))] ⟨D2, [some (N.map .int)]⟩
    refine (?_ : mLPut (mVar 3) (mVar 5) (mOp oAdd (mOp oIx (mVar 3) (mVar 5)) (mC (.int 1))) _ [some (.mr 1), some (.int (K.length : Int)), some (.int most), some (.lr 0), some (.int (i : Int)), some (.int (j : Int))] ⟨D2, [some (N.map .int)]⟩)
    rw [x_lput]
    have ea : atI (N.map PyData.int) (j : Int) = some (.int N[j]) := by rw [rec_at jl, num_at jl]
    refine ⟨.lr 0, rfl, .int (j : Int), rfl, _, ea, ?_⟩
    refine ⟨.lr 0, rfl, .int (j : Int), rfl, ?_⟩
    refine ⟨j, ixN_nat (by simpa using jl), ?_⟩
    have es : (N.map PyData.int).set j (.int (N[j] + 1)) = (N.set j (N[j] + 1)).map .int := by rw [List.map_set]
    rw [es]
    refine k _ _ ⟨_, D2, _, _, rfl, hD2, ⟨by simpa using n1, set_nn jl n2, ?_⟩, rfl⟩
    rw [sum_set jl, n3]
    omega
  · rintro τ M ⟨N, D', u, v, rfl, hD', ⟨n1, n2, n3⟩, rfl⟩
    rw [range_len] at n3
    have n4 : N.sum = 1 + d := by omega
    have gn : GN K N := ⟨n1, fun n hn => ⟨n2 n hn, by have := mem_le_sum n2 n hn; omega⟩, pos_ex n2 (by omega)⟩
    refine ⟨.lr 0, rfl, ?_⟩
    simp only [x_anil]
    exact ⟨rfl, q N D' gn (by omega) (by omega) hD'⟩
end Pl
set_option Elab.async false
set_option linter.all false
set_option maxRecDepth 100000
namespace Px
open PySem PySem.Spec L2 L3
abbrev d__law_up : FD := Pl.d__law_up
abbrev d__law_end : FD := Pz.d__law_end
abbrev d_places_there : FD := Pl.d_places_there
end Px
set_option Elab.async false
set_option linter.all false
set_option maxRecDepth 100000
namespace Pl
open PySem PySem.Spec L2 L3 Sh
theorem w_an {R : List T → Mem → Prop} {τ : En} {M : Mem} (h : R [] M) : aNil τ M R := h
theorem w_c {x : PyData} {τ : En} {M : Mem} {Q : Kt} (h : Q (.d x) M) : mC x τ M Q := h
theorem w_eqI {n : Bool} {a b : Int} {M : Mem} {Q : Kt} (h : Q (.bl (if n then !decide (a = b) else decide (a = b))) M) : oEq n (.d (.int a)) (.d (.int b)) M Q := by
  rw [x_eqi]
  exact h
theorem w_sub {a b : Int} {M : Mem} {Q : Kt} (h : Q (.int (a - b)) M) : oSub (.d (.int a)) (.d (.int b)) M Q := by
  rw [x_sub]
  exact h
theorem w_lenK {K : Bk6} {M : Mem} {Q : Kt} (q : Q (.int (K.length : Int)) M) : fLen [.d (bkD K)] M Q := by
  unfold bkD
  rw [x_lent, List.length_map]
  exact q
theorem w_lenR {r : List Nat} {M : Mem} {Q : Kt} (q : Q (.int (r.length : Int)) M) : fLen [.d (rowD r)] M Q := by
  unfold rowD
  rw [x_lent, List.length_map]
  exact q
theorem w_neNil {M : Mem} {Q : Kt} (q : Q (.bl false) M) : oEq true (.d (.list [])) (.d (.list [])) M Q := by
  rw [x_eq (a := .list []) (b := .list []) rfl rfl (shaped_ints []) (shaped_ints []) (fun _ z => nomatch z), eqv_nil]
  exact q
theorem filter_none {α : Type} (l : List α) : l.filter (fun _ => false) = [] := by
  induction l with
  | nil => rfl
  | cons a l ih => rw [List.filter_cons, if_neg Bool.false_ne_true, ih]
end Pl
set_option Elab.async false
set_option linter.all false
set_option maxRecDepth 100000
namespace Pl
open PySem PySem.Spec L2 L3 Sh
end Pl
set_option Elab.async false
set_option linter.all false
set_option maxRecDepth 100000
namespace Pl
open PySem PySem.Spec L2 L3 Sh
theorem ifT {p q : Prop} {b : Bool} (h : b = true) (x : p) : if b = true then p else q := by
  rw [if_pos h]
  exact x
theorem ifF {p q : Prop} {b : Bool} (h : ¬ b = true) (x : q) : if b = true then p else q := by
  rw [if_neg h]
  exact x
theorem w_int {a : Int} {M : Mem} {Q : Kt} (h : Q (.int a) M) : fInt [.d (.int a)] M Q := by
  rw [x_int]
  exact h
theorem w_add {a b : Int} {M : Mem} {Q : Kt} (h : Q (.int (a + b)) M) : oAdd (.d (.int a)) (.d (.int b)) M Q := h
section
variable {K : Bk6} {r : List Nat} {E : Es} {D : List Cell} {ps top : Option T} {n e0 : Int}
end
end Pl
set_option Elab.async false
set_option linter.all false
set_option maxRecDepth 100000
namespace L3
open PySem PySem.Spec L2
theorem walk_own {K : PySem.W.Frag} {a : Addr} (m : Nat) : Walk (Itl K a) m (fun H => ∃ xs, H a = some (.lst xs) ∧ xs.length = m) fun i H x H' => H' = H ∧ ∀ xs, SqL K H a xs → xs[i]? = some x :=
  ⟨fun i H hi ⟨xs, e, l⟩ => ⟨xs, xs[i]'(by omega), .of e, List.getElem?_eq_getElem (by omega)⟩, fun H ⟨xs, e, l⟩ => ⟨xs, .of e, by omega⟩, fun _ _ _ _ _ _ y => y⟩
section
variable {X : Cx} {e tg : Expr} {m o : Me} {elt : Expr} {ifs : List Expr} {scope : Scope} {own : List (Str × Nat)} {g : Mg} {os : List Nat} {mc : Mb} {pos : Pos}
end
end L3
set_option Elab.async false
set_option linter.all false
set_option maxRecDepth 100000
namespace Pq
open PySem PySem.Spec L2 L3
end Pq
set_option Elab.async false
set_option linter.all false
set_option maxRecDepth 100000
set_option maxHeartbeats 1000000
namespace Pq
open PySem PySem.Spec L2 L3 Sh Pl
theorem w_gt {a b : Int} {M : Mem} {Q : Kt} (h : Q (.bl (decide (b < a))) M) : oGt (.d (.int a)) (.d (.int b)) M Q := by
  rw [x_gt]
  exact h
theorem w_appL {i : Nat} {z : PyData} {ds : List PyData} {D : List Cell} {L : List (Option (List PyData))} {Q : Kt} (h : L[i]? = some (some ds)) (hl : ds.length < sizeLine) (q : Q .non ⟨D, L.set i (some (ds ++ [z]))⟩) : fApp (.lr i) [.d z] ⟨D, L⟩ Q := by
  rw [x_appL]
  show (match L[i]? with
    | some (some ds) => ds.length < sizeLine ∧ Q .non ⟨D, L.set i (some (ds ++ [z]))⟩
    | _ => False)
  rw [h]
  exact ⟨hl, q⟩
theorem get_end {α : Type} (L : List α) (x : α) : (L ++ [x])[L.length]? = some x := by simp
theorem lay_all : ∀ {l : List PyData}, (∀ x ∈ l, PyData.canLay0 x = true ∧ PyData.depth x ≤ 5) → PyData.canLayAll0 l = true ∧ PyData.depthAll l ≤ 5
  | [], _ => by simp [PyData.canLayAll0, PyData.depthAll]
  | x :: l, h => by
    obtain ⟨h1, h2⟩ := h x List.mem_cons_self
    obtain ⟨h3, h4⟩ := lay_all (l := l) fun y hy => h y (List.mem_cons_of_mem _ hy)
    refine ⟨by simp [PyData.canLayAll0, h1, h3], ?_⟩
    simp only [PyData.depthAll]
    omega
theorem sh_tuple {l : List PyData} (h : ∀ x ∈ l, PyData.canLay0 x = true ∧ PyData.depth x ≤ 5) : SeqAt.shaped (.tuple l) = true := by
  obtain ⟨h3, h4⟩ := lay_all h
  unfold SeqAt.shaped
  rw [Bool.and_eq_true]
  refine ⟨by simp [PyData.canLay0, h3], decide_eq_true ?_⟩
  simp only [PyData.depth]
  omega
theorem sh_rec (N : List Int) : SeqAt.shaped (recD N) = true := sh_tuple fun x hx => by
  obtain ⟨n, _, rfl⟩ := List.mem_map.mp hx
  simp [PyData.canLay0, PyData.depth]
theorem eqv_int (i j : Int) : PyData.eqv (.int i) (.int j) = decide (i = j) := by
  simp only [PyData.eqv]
  by_cases h : i = j
  · rw [h]; simp
  · simp [h]
theorem eqv_ints : ∀ N M : List Int, PyData.eqvAll (N.map .int) (M.map .int) = decide (N = M)
  | [], [] => by simp [PyData.eqvAll]
  | [], _ :: _ => by simp [PyData.eqvAll]
  | _ :: _, [] => by simp [PyData.eqvAll]
  | x :: N, y :: M => by
    rw [List.map_cons, List.map_cons, PyData.eqvAll, eqv_ints N M, eqv_int]
    by_cases h : x = y <;> by_cases h2 : N = M <;> simp [h, h2]
theorem eqv_rec (N M : List Int) : PyData.eqv (.tuple (N.map .int)) (.tuple (M.map .int)) = decide (N = M) := by
  rw [PyData.eqv, eqv_ints]
end Pq
set_option Elab.async false
set_option linter.all false
set_option maxRecDepth 100000
namespace Lw
open PySem PySem.Spec PySem.W L2 L3 Sh Pl
def extp (P : List (List Int)) (n : Int) : List (List Int) := P.flatMap fun p => (List.range (n + 1).toNat).map fun (s : Nat) => p ++ [(s : Int)]
def prts (N : List Int) : List (List Int) := N.foldl extp [[]]
def prd (N : List Int) : Int := N.foldl (fun a n => a * (n + 1)) 1
def lx (p q : List Int) : Prop := ∃ i, (∀ j, j < i → num p j = num q j) ∧ num p i < num q i
theorem lx_asym {p q : List Int} (h : lx p q) (g : lx q p) : False := by
  obtain ⟨i, h1, h2⟩ := h
  obtain ⟨k, g1, g2⟩ := g
  rcases Nat.lt_trichotomy i k with z | z | z
  · have := g1 i z; omega
  · subst z; omega
  · have := h1 k z; omega
theorem num_snoc {p : List Int} {s : Int} {j : Nat} : num (p ++ [s]) j = if j < p.length then num p j else if j = p.length then s else 0 := by
  unfold num
  rw [List.getD_eq_getElem?_getD, List.getD_eq_getElem?_getD]
  by_cases z : j < p.length
  · rw [if_pos z, List.getElem?_append_left z]
  · rw [if_neg z, List.getElem?_append_right (by omega)]
    by_cases y : j = p.length
    · rw [if_pos y, y]; simp
    · rw [if_neg y, List.getElem?_eq_none (by simp; omega)]
      rfl
theorem num_out {p : List Int} {j : Nat} (h : p.length ≤ j) : num p j = 0 := by
  unfold num
  rw [List.getD_eq_getElem?_getD, List.getElem?_eq_none h]
  rfl
theorem num_end {p : List Int} {s : Int} {n : Nat} (h : p.length = n) : num (p ++ [s]) n = s := by
  rw [num_snoc, if_neg (by omega), if_pos h.symm]
structure PO (N : List Int) (P : List (List Int)) : Prop where
  mem : ∀ p, p ∈ P ↔ p.length = N.length ∧ ∀ i, i < N.length → 0 ≤ num p i ∧ num p i ≤ num N i
  srt : P.Pairwise lx
  hd : P[0]? = some (List.replicate N.length 0)
  len : (P.length : Int) = prd N
theorem flat_len (n : Int) : ∀ P : List (List Int), (extp P n).length = P.length * (n + 1).toNat
  | [] => by simp [extp]
  | p :: P => by
    have ih := flat_len n P
    unfold extp at ih ⊢
    rw [List.flatMap_cons, List.length_append, ih, List.length_map, List.length_range, List.length_cons, Nat.succ_mul]
    omega
theorem ext_po {N : List Int} {P : List (List Int)} {n : Int} (h : PO N P) (hn : 0 ≤ n) : PO (N ++ [n]) (extp P n) := by
  refine ⟨fun p => ?_, ?_, ?_, ?_⟩
  · rw [List.length_append]
    unfold extp
    constructor
    · intro hp
      obtain ⟨a, ha, hp⟩ := List.mem_flatMap.mp hp
      obtain ⟨s, hs, rfl⟩ := List.mem_map.mp hp
      have hs := List.mem_range.mp hs
      obtain ⟨h1, h2⟩ := (h.mem a).mp ha
      refine ⟨by simp [h1], fun i hi => ?_⟩
      rw [num_snoc, num_snoc, h1]
      by_cases z : i < N.length
      · rw [if_pos z, if_pos z]; exact h2 i z
      · have : i = N.length := by simp at hi; omega
        rw [if_neg z, if_neg z, if_pos this, if_pos this]
        omega
    · rintro ⟨h1, h2⟩
      have ne : p ≠ [] := by intro z; rw [z] at h1; simp at h1
      have hl : p.dropLast.length = N.length := by rw [List.length_dropLast, h1]; simp
      have hp : p = p.dropLast ++ [p.getLast ne] := (List.dropLast_concat_getLast ne).symm
      generalize p.getLast ne = l at hp
      generalize p.dropLast = d at hp hl
      subst hp
      have h3 := h2 N.length (by simp)
      rw [num_end hl, num_end rfl] at h3
      refine List.mem_flatMap.mpr ⟨d, (h.mem d).mpr ⟨hl, fun i hi => ?_⟩, List.mem_map.mpr ⟨l.toNat, List.mem_range.mpr (by omega), by rw [Int.toNat_of_nonneg h3.1]⟩⟩
      have := h2 i (by simp; omega)
      rw [num_snoc, num_snoc, hl, if_pos hi, if_pos hi] at this
      exact this
  · unfold extp
    refine List.pairwise_flatMap.mpr ⟨fun a ha => ?_, ?_⟩
    · refine List.pairwise_map.mpr (List.pairwise_lt_range.imp ?_)
      intro x y hxy
      refine ⟨a.length, fun j hj => ?_, ?_⟩
      · rw [num_snoc, num_snoc, if_pos hj, if_pos hj]
      · rw [num_end rfl, num_end rfl]
        omega
    · refine h.srt.imp_of_mem ?_
      intro a b ha hb hab x hx y hy
      obtain ⟨s, _, rfl⟩ := List.mem_map.mp hx
      obtain ⟨t, _, rfl⟩ := List.mem_map.mp hy
      have la := ((h.mem a).mp ha).1
      have lb := ((h.mem b).mp hb).1
      obtain ⟨i, h1, h2⟩ := hab
      have hi : i < N.length := by
        rcases Nat.lt_or_ge i N.length with z | z
        · exact z
        · rw [num_out (p := a) (by omega), num_out (p := b) (by omega)] at h2; omega
      refine ⟨i, fun j hj => ?_, ?_⟩
      · rw [num_snoc, num_snoc, if_pos (by omega), if_pos (by omega)]; exact h1 j hj
      · rw [num_snoc, num_snoc, if_pos (by omega), if_pos (by omega)]; exact h2
  · have h0 := h.hd
    obtain ⟨P', rfl⟩ : ∃ P', P = List.replicate N.length 0 :: P' := by
      cases P with
      | nil => cases h0
      | cons a P => cases h0; exact ⟨P, rfl⟩
    unfold extp
    rw [List.flatMap_cons]
    have e : (n + 1).toNat = n.toNat + 1 := by omega
    rw [e, List.range_succ_eq_map, List.map_cons, List.cons_append, List.length_append, List.length_singleton, List.replicate_succ']
    rfl
  · rw [flat_len]
    unfold prd
    rw [List.foldl_append, List.foldl_cons, List.foldl_nil, Int.natCast_mul, h.len, Int.toNat_of_nonneg (by omega)]
    rfl
theorem prts_snoc (N : List Int) (n : Int) : prts (N ++ [n]) = extp (prts N) n := by
  unfold prts
  rw [List.foldl_append]
  rfl
theorem prts_go : ∀ (M N : List Int), (∀ n ∈ M, 0 ≤ n) → PO N (prts N) → PO (N ++ M) (prts (N ++ M))
  | [], N, _, h => by simpa using h
  | m :: M, N, hm, h => by
    have := prts_go M (N ++ [m]) (fun n hn => hm n (List.mem_cons_of_mem _ hn)) (by rw [prts_snoc]; exact ext_po h (hm m List.mem_cons_self))
    simpa using this
theorem prts_ok {N : List Int} (hn : ∀ n ∈ N, 0 ≤ n) : PO N (prts N) := by
  have := prts_go N [] hn ⟨fun p => ?_, by simp [prts], rfl, rfl⟩
  · simpa using this
  · simp [prts]
theorem prd_ge : ∀ (N : List Int) (a : Int), 0 < a → (∀ n ∈ N, 0 ≤ n) → a ≤ N.foldl (fun a n => a * (n + 1)) a
  | [], a, _, _ => Int.le_refl _
  | n :: N, a, ha, hn => by
    have h0 := hn n List.mem_cons_self
    have h1 : a ≤ a * (n + 1) := by
      have := Int.mul_le_mul_of_nonneg_left (show 1 ≤ n + 1 by omega) (show 0 ≤ a by omega)
      omega
    exact Int.le_trans h1 (prd_ge N (a * (n + 1)) (by omega) fun m hm => hn m (List.mem_cons_of_mem _ hm))
theorem prd_take {N : List Int} (hn : ∀ n ∈ N, 0 ≤ n) (i : Nat) : prd (N.take i) ≤ prd N := by
  have e : prd N = (N.drop i).foldl (fun a n => a * (n + 1)) (prd (N.take i)) := by
    unfold prd
    rw [← List.foldl_append, List.take_append_drop]
  rw [e]
  have h1 : 1 ≤ prd (N.take i) := prd_ge _ 1 (by omega) fun n h => hn n (List.mem_of_mem_take h)
  exact prd_ge _ _ (by omega) fun n h => hn n (List.mem_of_mem_drop h)
theorem prd_pos {N : List Int} (hn : ∀ n ∈ N, 0 ≤ n) : 1 ≤ prd N := prd_ge N 1 (by omega) hn
/-- one field fewer -/
def fw (q : List Int) (p : Nat) : List Int := q.set p (num q p - 1)
theorem num_set {N : List Int} {p q : Nat} {x : Int} (h : p < N.length) : num (N.set p x) q = if p = q then x else num N q := by
  unfold num
  rw [List.getD_eq_getElem?_getD, List.getElem?_set]
  by_cases z : p = q
  · subst z
    rw [if_pos rfl, if_pos h, if_pos rfl]
    rfl
  · rw [if_neg z, if_neg z, List.getD_eq_getElem?_getD]
theorem fw_len (q : List Int) (p : Nat) : (fw q p).length = q.length := by simp [fw]
theorem fw_num {q : List Int} {p : Nat} (h : p < q.length) (i : Nat) : num (fw q p) i = if p = i then num q p - 1 else num q i := num_set h
theorem fw_lx {q : List Int} {p : Nat} (h : p < q.length) : lx (fw q p) q := ⟨p, fun j hj => by rw [fw_num h, if_neg (by omega)], by rw [fw_num h, if_pos rfl]; omega⟩
theorem fw_mem {N q : List Int} {p : Nat} (hn : ∀ n ∈ N, 0 ≤ n) (hq : q ∈ prts N) (hp : p < N.length) (h0 : 0 < num q p) : fw q p ∈ prts N := by
  have po := prts_ok hn
  obtain ⟨h1, h2⟩ := (po.mem q).mp hq
  refine (po.mem _).mpr ⟨by rw [fw_len, h1], fun i hi => ?_⟩
  rw [fw_num (by omega)]
  have := h2 i hi
  by_cases z : p = i
  · subst z; rw [if_pos rfl]; omega
  · rw [if_neg z]; exact this
/-- one field fewer comes ahead -/
theorem fw_ahead {N q : List Int} {p i : Nat} (hn : ∀ n ∈ N, 0 ≤ n) (hq : (prts N)[i]? = some q) (hp : p < N.length) (h0 : 0 < num q p) : fw q p ∈ (prts N).take i := by
  have po := prts_ok hn
  have hm := List.mem_of_getElem? hq
  have ql := ((po.mem q).mp hm).1
  obtain ⟨j, hj, e⟩ := List.getElem_of_mem (fw_mem hn hm hp h0)
  obtain ⟨hi, ei⟩ := List.getElem?_eq_some_iff.mp hq
  have l := fw_lx (q := q) (p := p) (by omega)
  rcases Nat.lt_trichotomy j i with z | z | z
  · rw [← e]
    exact List.mem_take_iff_getElem.mpr ⟨j, by omega, rfl⟩
  · subst z
    rw [← e, ei] at l
    exact (lx_asym l l).elim
  · have := List.pairwise_iff_getElem.mp po.srt i j hi hj z
    rw [ei, e] at this
    exact (lx_asym this l).elim
theorem prts_nd {N : List Int} (hn : ∀ n ∈ N, 0 ≤ n) : (prts N).Nodup := (prts_ok hn).srt.imp fun h => by
  intro e
  rw [e] at h
  exact lx_asym h h
theorem self_mem {N : List Int} (hn : ∀ n ∈ N, 0 ≤ n) : N ∈ prts N := ((prts_ok hn).mem N).mpr ⟨rfl, fun i hi => ⟨by rw [num_at hi]; exact hn _ (List.getElem_mem hi), Int.le_refl _⟩⟩
def bpl : List (Int × Int) → Int × Int
  | [] => (0, 0)
  | x :: l => minOf x l
theorem lt_pair (x y : Int × Int) : DatumOrd.lt x y = true ↔ x.1 < y.1 ∨ x.1 = y.1 ∧ x.2 < y.2 := by
  show (if x.1 = y.1 then decide (x.2 < y.2) else decide (x.1 < y.1)) = true ↔ _
  by_cases z : x.1 = y.1
  · rw [if_pos z, decide_eq_true_iff]; omega
  · rw [if_neg z, decide_eq_true_iff]; omega
theorem minOf_ok : ∀ (l : List (Int × Int)) (x : Int × Int), minOf x l ∈ x :: l ∧ ∀ y ∈ x :: l, (minOf x l).1 ≤ y.1
  | [], x => ⟨List.mem_cons_self, fun y hy => by rw [List.mem_singleton.mp hy]; exact Int.le_refl _⟩
  | y :: l, x => by
    have e : minOf x (y :: l) = minOf (if DatumOrd.lt y x = true then y else x) l := rfl
    rw [e]
    by_cases z : DatumOrd.lt y x = true
    · rw [if_pos z]
      have ih := minOf_ok l y
      have := (lt_pair _ _).mp z
      refine ⟨List.mem_cons_of_mem _ ih.1, fun v hv => ?_⟩
      rcases List.mem_cons.mp hv with w | w
      · have := ih.2 y List.mem_cons_self
        subst w; omega
      · exact ih.2 v w
    · rw [if_neg z]
      have ih := minOf_ok l x
      have hz : ¬ (y.1 < x.1 ∨ y.1 = x.1 ∧ y.2 < x.2) := fun w => z ((lt_pair _ _).mpr w)
      refine ⟨?_, fun v hv => ?_⟩
      · rcases List.mem_cons.mp ih.1 with w | w
        · rw [w]; exact List.mem_cons_self
        · exact List.mem_cons_of_mem _ (List.mem_cons_of_mem _ w)
      · have h0 := ih.2 x List.mem_cons_self
        rcases List.mem_cons.mp hv with w | w
        · subst w; exact h0
        rcases List.mem_cons.mp w with w | w
        · subst w; omega
        · exact ih.2 v (List.mem_cons_of_mem _ w)
theorem bpl_mem {l : List (Int × Int)} (h : l ≠ []) : bpl l ∈ l := by
  cases l with
  | nil => exact (h rfl).elim
  | cons x l => exact (minOf_ok l x).1
theorem bpl_le {l : List (Int × Int)} {x : Int × Int} (h : x ∈ l) : (bpl l).1 ≤ x.1 := by
  cases l with
  | nil => cases h
  | cons y l => exact (minOf_ok l y).2 x h
def tl (q : List Int) : Nat := q.sum.toNat
def lel (K : Bk6) : Nat → List Int → Int × Int
  | 0, _ => (0, 0)
  | n + 1, q => bpl ((thr K q).map fun p => (sfin K p (lel K n (fw q p)).1, (p : Int)))
def le (K : Bk6) (q : List Int) : Int := (lel K (tl q) q).1
def lst (K : Bk6) (q : List Int) : Int := (lel K (tl q) q).2
def prs (K : Bk6) (q : List Int) : List (Int × Int) := (thr K q).map fun p => (sfin K p (le K (fw q p)), (p : Int))
theorem sum_set : ∀ {N : List Int} {p : Nat} {x : Int}, p < N.length → (N.set p x).sum = N.sum - num N p + x
  | a :: l, 0, x, _ => by
    show x + l.sum = a + l.sum - a + x
    omega
  | a :: l, p + 1, x, h => by
    have ih := sum_set (N := l) (p := p) (x := x) (Nat.lt_of_succ_lt_succ h)
    have e : num (a :: l) (p + 1) = num l p := rfl
    show a + (l.set p x).sum = a + l.sum - num (a :: l) (p + 1) + x
    rw [ih, e]
    omega
theorem thr_pos {K : Bk6} {q : List Int} (ql : q.length = K.length) (nn : ∀ n ∈ q, 0 ≤ n) {p : Nat} (h : p ∈ thr K q) : p < q.length ∧ 0 < num q p ∧ 0 < q.sum ∧ tl q = tl (fw q p) + 1 ∧ ∀ n ∈ fw q p, 0 ≤ n := by
  obtain ⟨h1, h2⟩ := thr_mem.mp h
  have h3 : p < q.length := by omega
  have h4 := mem_le_sum nn _ (List.getElem_mem h3)
  have h5 := num_at h3
  have h6 := sum_set (N := q) (p := p) (x := num q p - 1) h3
  refine ⟨h3, h2, by omega, ?_, fun n hn => ?_⟩
  · unfold tl fw
    rw [h6]
    omega
  · rcases List.mem_or_eq_of_mem_set hn with z | z
    · exact nn n z
    · omega
theorem thr_nil {K : Bk6} {q : List Int} (ql : q.length = K.length) (nn : ∀ n ∈ q, 0 ≤ n) (h : tl q = 0) : thr K q = [] := by
  refine List.eq_nil_iff_forall_not_mem.mpr fun p hp => ?_
  have := thr_pos ql nn hp
  omega
theorem thr_ne {K : Bk6} {q : List Int} (ql : q.length = K.length) (h : 0 < tl q) (nn : ∀ n ∈ q, 0 ≤ n) : thr K q ≠ [] := by
  obtain ⟨n, hn, h0⟩ := (sum_pos nn).2 (by unfold tl at h; omega)
  obtain ⟨i, hi, e⟩ := List.getElem_of_mem hn
  intro z
  have : i ∈ thr K q := thr_mem.mpr ⟨by omega, by rw [num_at hi, e]; exact h0⟩
  rw [z] at this
  cases this
theorem lel_eq {K : Bk6} {q : List Int} (ql : q.length = K.length) (nn : ∀ n ∈ q, 0 ≤ n) : lel K (tl q) q = bpl (prs K q) := by
  cases h : tl q with
  | zero =>
    unfold prs
    rw [thr_nil ql nn h]
    rfl
  | succ n =>
    show bpl _ = bpl _
    unfold prs
    congr 1
    refine List.map_congr_left fun p hp => ?_
    have := thr_pos ql nn hp
    have e : tl (fw q p) = n := by omega
    unfold le
    rw [e]
theorem le_nil {K : Bk6} {q : List Int} (h : tl q = 0) : le K q = 0 := by
  unfold le
  rw [h]
  rfl
theorem le_last {K : Bk6} {q : List Int} (ql : q.length = K.length) (nn : ∀ n ∈ q, 0 ≤ n) (h : 0 < tl q) : ∃ p ∈ thr K q, lst K q = (p : Int) ∧ le K q = sfin K p (le K (fw q p)) := by
  have ne : prs K q ≠ [] := by
    unfold prs
    intro z
    exact thr_ne ql h nn (List.map_eq_nil_iff.mp z)
  have := bpl_mem ne
  rw [← lel_eq ql nn] at this
  obtain ⟨p, hp, e⟩ := List.mem_map.mp this
  refine ⟨p, hp, ?_, ?_⟩
  · unfold lst; rw [← e]
  · show (lel K (tl q) q).1 = _
    rw [← e]
/-- a row that ends soonest -/
def bk (K : Bk6) : Nat → List Int → List Nat
  | 0, _ => []
  | n + 1, q => bk K n (fw q (lst K q).toNat) ++ [(lst K q).toNat]
theorem bk_ok {K : Bk6} : ∀ (n : Nat) (q : List Int), tl q = n → q.length = K.length → (∀ n ∈ q, 0 ≤ n) → (∀ i ∈ bk K n q, i < K.length) ∧ Ct K q (bk K n q) ∧ rend K (bk K n q) 0 = le K q ∧ (bk K n q).length = n
  | 0, q, h, ql, nn => ⟨by simp [bk], fun i hi => by
      have hz : ∀ p, p ∉ thr K q := by rw [thr_nil ql nn h]; simp
      have h1 : ¬ 0 < num q i := fun z => hz i (thr_mem.mpr ⟨hi, z⟩)
      have h2 := nn _ (List.getElem_mem (show i < q.length by omega))
      rw [← num_at (by omega)] at h2
      simp [bk]
      omega, by rw [le_nil h]; rfl, rfl⟩
  | n + 1, q, h, ql, nn => by
    obtain ⟨p, hp, e1, e2⟩ := le_last ql nn (by omega)
    have hq := thr_pos ql nn hp
    have e3 : (lst K q).toNat = p := by omega
    obtain ⟨i1, i2, i3, i4⟩ := bk_ok n (fw q p) (by omega) (by rw [fw_len, ql]) hq.2.2.2.2
    show (∀ i ∈ bk K n (fw q (lst K q).toNat) ++ [(lst K q).toNat], _) ∧ Ct K q (bk K n (fw q (lst K q).toNat) ++ [(lst K q).toNat]) ∧ rend K (bk K n (fw q (lst K q).toNat) ++ [(lst K q).toNat]) 0 = _ ∧ (bk K n (fw q (lst K q).toNat) ++ [(lst K q).toNat]).length = _
    rw [e3]
    refine ⟨fun i hi => ?_, fun i hi => ?_, ?_, by simp [i4]⟩
    · rcases List.mem_append.mp hi with z | z
      · exact i1 i z
      · rw [List.mem_singleton.mp z]; omega
    · have := i2 i hi
      rw [fw_num hq.1] at this
      rw [List.count_append, List.count_singleton]
      by_cases z : p = i
      · subst z
        rw [if_pos rfl] at this
        simp
        omega
      · rw [if_neg z] at this
        simp [z]
        exact this
    · rw [rend_snoc, i3, e2]
/-- the least whole -/
def lw (K : Bk6) (N : List Int) : Int := rup (le K N) (mx (als K (thr K N)))
def lrow (K : Bk6) (N : List Int) : List Nat := bk K (tl N) N
theorem gn_nn {K : Bk6} {N : List Int} (gn : GN K N) : ∀ n ∈ N, 0 ≤ n := fun n hn => (gn.ok n hn).1
theorem gn_tl {K : Bk6} {N : List Int} (gn : GN K N) : 0 < tl N := by
  obtain ⟨n, hn, h0⟩ := gn.pos
  have := mem_le_sum (gn_nn gn) n hn
  unfold tl
  omega
theorem lrow_ok {K : Bk6} {N : List Int} (gn : GN K N) : (∀ i ∈ lrow K N, i < K.length) ∧ Ct K N (lrow K N) ∧ rend K (lrow K N) 0 = le K N ∧ (lrow K N).length = tl N := bk_ok (tl N) N rfl gn.len (gn_nn gn)
theorem lrow_gr {K : Bk6} {N : List Int} (gn : GN K N) (h : N.sum ≤ 100) : GR K (lrow K N) := by
  obtain ⟨h1, h2, h3, h4⟩ := lrow_ok gn
  have := gn_tl gn
  exact ⟨by intro z; rw [z] at h4; simp at h4; omega, by unfold tl at h4; omega, h1⟩
theorem lrow_ne {K : Bk6} {N : List Int} (gn : GN K N) : lrow K N ≠ [] := by
  have h4 := (lrow_ok gn).2.2.2
  have := gn_tl gn
  intro z
  rw [z] at h4
  simp at h4
  omega
theorem lrow_whole {K : Bk6} {N : List Int} (gn : GN K N) : whole K (lrow K N) = lw K N := by
  obtain ⟨h1, h2, h3, h4⟩ := lrow_ok gn
  unfold whole lw
  rw [h3, ct_mx (lrow_ne gn) h1 h2]
end Lw
set_option Elab.async false
set_option linter.all false
set_option maxRecDepth 100000
set_option maxHeartbeats 1000000
namespace Ll
open PySem PySem.Spec PySem.W L2 L3 Sh Pl Pq Wm Lw
theorem w_sumT {ns : List Int} {M : Mem} {Q : Kt} (q : Q (.int ns.sum) M) : fSumT [.d (recD ns)] M Q := by
  unfold fSumT recD
  simp only
  rw [intsOf_map]
  exact q
/-- records of few parts -/
structure GF (K : Bk6) (N : List Int) : Prop where
  gn : GN K N
  hd : N.sum ≤ 100
  few : prd N ≤ 256
theorem int_at {N : List Int} {i : Nat} {t : T} (h : ((N.map PyData.int).map T.d)[i]? = some t) : ∃ n, N[i]? = some n ∧ t = .int n ∧ i < N.length := by
  rw [List.getElem?_map, List.getElem?_map] at h
  cases q : N[i]? with
  | none => rw [q] at h; cases h
  | some n =>
    rw [q] at h
    cases h
    exact ⟨n, rfl, rfl, (List.getElem?_eq_some_iff.mp q).1⟩
theorem prd_nn {N : List Int} (nn : ∀ n ∈ N, 0 ≤ n) (i : Nat) : 1 ≤ prd (N.take i) ∧ prd (N.take i) ≤ prd N := ⟨prd_pos fun n hn => nn n (List.mem_of_mem_take hn), prd_take nn i⟩
theorem prd_snoc (N : List Int) (n : Int) : prd (N ++ [n]) = prd N * (n + 1) := by
  unfold prd
  rw [List.foldl_append]
  rfl
theorem sp_few {K : Bk6} {N : List Int} {D : List Cell} {Q : T → List Cell → Prop} (gf : GF K N) (q : Q .non D) : d_require_few [.d (recD N)] D Q := by
  have nn := gn_nn gf.gn
  refine ⟨rfl, w_seq (w_if (w_test (w_op (w_call (w_ac ⟨.d (recD N), rfl, w_an (w_sumT (w_c (w_gt ⟨_, rfl, ?_⟩)))⟩)))))⟩
  refine ifF (by have := gf.hd; simp; omega) (w_next ?_)
  show b_require_few_5 _ [some (.d (recD N)), none, none] _
  refine w_seq (w_set (w_c ?_))
  show b_require_few_4 _ [some (.d (recD N)), some (.int 1), none] _
  refine w_seq (w_for ?_)
  rw [x_iseq]
  refine ⟨.d (recD N), rfl, ?_⟩
  show goFor _ _ _ ((N.map PyData.int).map T.d) _ _
  refine for_all (fun i τ M => ∃ v, M = ⟨D, []⟩ ∧ τ = [some (.d (recD N)), some (.int (prd (N.take i))), v]) ⟨none, rfl, rfl⟩ ?_ ?_
  · rintro i τ M t R ht ⟨v, rfl, rfl⟩ k
    obtain ⟨n, hn, rfl, hi⟩ := int_at ht
    rw [x_gn]
    have a1 := (prd_nn nn i).2
    have a0 := (prd_nn nn i).1
    have a2 := prd_take nn (i + 1)
    rw [take_snoc hn, prd_snoc] at k a2
    have n0 := nn n (List.mem_of_getElem? hn)
    have few := gf.few
    have : n ≤ prd (N.take i) * (n + 1) := by
      have := Int.mul_le_mul_of_nonneg_right a0 (show 0 ≤ n + 1 by omega)
      omega
    refine w_set (w_op ⟨.int (prd (N.take i)), rfl, w_op ⟨.int n, rfl, w_c (w_add (w_mul ?_ ?_))⟩⟩)
    · unfold CMul; omega
    · exact k _ _ ⟨_, rfl, rfl⟩
  · rintro τ M ⟨v, rfl, rfl⟩
    rw [List.length_map, List.length_map, List.take_length]
    show b_require_few_3 _ [some (.d (recD N)), some (.int (prd N)), v] _
    refine w_if (w_test (w_op ⟨.int (prd N), rfl, w_c (w_gt ⟨_, rfl, ?_⟩)⟩))
    exact ifF (by have := gf.few; simp; omega) (w_next q)
theorem ext_len {P : List (List Int)} {n : Int} {N : List Int} (h : PO N P) (hn : 0 ≤ n) : ((extp P n).length : Int) = prd (N ++ [n]) := (ext_po h hn).len
theorem recD_snoc (p : List Int) (s : Int) : PyData.tuple (p.map PyData.int ++ [.int s]) = recD (p ++ [s]) := by
  unfold recD
  rw [List.map_append]
  rfl
theorem rec_at {P : List (List Int)} {i : Nat} {t : T} (h : ((P.map recD).map T.d)[i]? = some t) : ∃ p, P[i]? = some p ∧ t = .d (recD p) ∧ i < P.length := by
  rw [List.getElem?_map, List.getElem?_map] at h
  cases q : P[i]? with
  | none => rw [q] at h; cases h
  | some n =>
    rw [q] at h
    cases h
    exact ⟨n, rfl, rfl, (List.getElem?_eq_some_iff.mp q).1⟩
/-- what one part becomes -/
def ex1 (p : List Int) (n : Int) : List (List Int) := (List.range (n + 1).toNat).map fun (s : Nat) => p ++ [(s : Int)]
theorem ex1_D (p : List Int) (n : Int) : (ex1 p n).map recD = (List.range (n + 1).toNat).map fun (s : Nat) => recD (p ++ [(s : Int)]) := by
  unfold ex1
  rw [List.map_map]
  rfl
theorem extp_eq (P : List (List Int)) (n : Int) : extp P n = P.flatMap fun p => ex1 p n := rfl
theorem lc2_go {n : Int} (hn : 0 ≤ n) (h256 : n ≤ 256) {D : List Cell} {a b : Option T} {F : List PyData → Mem → Prop} :
    ∀ (P : List (List Int)) (acc : List PyData), (∀ p ∈ P, p.length ≤ 6) → acc.length + (extp P n).length ≤ 100000 → F (acc ++ (extp P n).map recD) ⟨D, []⟩ →
    goLc2 (gN 3) bYes (iRange (aCons (mOp oAdd (mVar 2) (mC (.int 1))) aNil)) (gN 4) bYes (mOp oAdd (mVar 3) (mTup (aCons (mVar 4) aNil))) [4] [a, b, some (.int n), none, none] F ((P.map recD).map T.d) acc ⟨D, []⟩
  | [], acc, _, _, q => by
    show F acc ⟨D, []⟩
    simpa [extp] using q
  | p :: P, acc, hp, hl, q => by
    rw [extp_eq, List.flatMap_cons, List.length_append] at hl
    rw [extp_eq, List.flatMap_cons, List.map_append] at q
    have e1 : (ex1 p n).length = (n + 1).toNat := by simp [ex1]
    show gN 3 (.d (recD p)) _ _ _
    rw [x_gn]
    refine w_yes (ifT rfl ?_)
    rw [x_irange]
    refine w_ac (w_op ⟨.int n, rfl, w_c (w_add (w_an ?_))⟩)
    refine ⟨⟨by omega, by omega⟩, ?_⟩
    show goLc _ _ _ [a, b, some (.int n), some (.d (recD p)), none] _ _ _ _
    have hp6 := hp p List.mem_cons_self
    have key : ∀ (l : List Nat) (ac : List PyData), ac.length + l.length + (P.flatMap fun p => ex1 p n).length ≤ 100000 → F (ac ++ (l.map fun (s : Nat) => recD (p ++ [(s : Int)])) ++ (P.flatMap fun p => ex1 p n).map recD) ⟨D, []⟩ →
        goLc (gN 4) bYes (mOp oAdd (mVar 3) (mTup (aCons (mVar 4) aNil))) [a, b, some (.int n), some (.d (recD p)), none] (goLc2 (gN 3) bYes (iRange (aCons (mOp oAdd (mVar 2) (mC (.int 1))) aNil)) (gN 4) bYes (mOp oAdd (mVar 3) (mTup (aCons (mVar 4) aNil))) [4] [a, b, some (.int n), none, none] F ((P.map recD).map T.d)) (l.map fun (s : Nat) => T.int (s : Int)) ac ⟨D, []⟩ := by
      intro l
      induction l with
      | nil =>
        intro ac hl q
        show goLc2 _ _ _ _ _ _ _ _ _ _ ac _
        refine lc2_go hn h256 P ac (fun p hp' => hp p (List.mem_cons_of_mem _ hp')) (by rw [extp_eq]; rw [List.length_nil] at hl; omega) ?_
        rw [extp_eq]
        simpa using q
      | cons s l ih =>
        intro ac hl q
        show gN 4 (.int (s : Int)) _ _ _
        rw [x_gn]
        refine w_yes (ifT rfl ?_)
        refine w_op ⟨.d (recD p), rfl, w_tup (w_ac ⟨.int (s : Int), rfl, w_an ⟨sz1, w_catT (sz64' (by simp; omega)) ?_⟩⟩)⟩
        rw [List.length_cons] at hl
        refine ⟨sz64 (by omega), ?_⟩
        rw [recD_snoc]
        refine ih _ (by rw [List.length_append, List.length_singleton]; omega) ?_
        rw [List.map_cons] at q
        simpa using q
    have := key (List.range (n + 1).toNat) acc (by rw [List.length_range]; omega) (by rw [ex1_D] at q; simpa using q)
    exact this
theorem po_six {N : List Int} (nn : ∀ n ∈ N, 0 ≤ n) (h6 : N.length ≤ 6) (i : Nat) : ∀ p ∈ prts (N.take i), p.length ≤ 6 := fun p hp => by
  have := (((prts_ok fun n hn => nn n (List.mem_of_mem_take hn)).mem p).mp hp).1
  rw [List.length_take] at this
  omega
theorem sp_parts {K : Bk6} {N : List Int} {D : List Cell} {Q : T → List Cell → Prop} (g : GB K) (gf : GF K N) (q : Q (.lst ((prts N).map recD)) D) : d_parts_of [.d (recD N)] D Q := by
  have nn := gn_nn gf.gn
  have h6 : N.length ≤ 6 := by have := gf.gn.len; have := g.six; omega
  refine ⟨rfl, w_seq (w_set ?_)⟩
  rw [x_lst]
  refine w_ac (w_tup (w_an ⟨Nat.zero_le _, w_an ⟨sz1, ?_⟩⟩))
  show b_parts_of_2 _ [some (.d (recD N)), some (.lst ((prts (N.take 0)).map recD)), none, none, none] _
  refine w_seq (w_for ?_)
  rw [x_iseq]
  refine ⟨.d (recD N), rfl, ?_⟩
  show goFor _ _ _ ((N.map PyData.int).map T.d) _ _
  refine for_all (fun i τ M => ∃ v c d, M = ⟨D, []⟩ ∧ τ = [some (.d (recD N)), some (.lst ((prts (N.take i)).map recD)), v, c, d]) ⟨none, none, none, rfl, rfl⟩ ?_ ?_
  · rintro i τ M t R ht ⟨v, c, d, rfl, rfl⟩ k
    obtain ⟨n, hn, rfl, hi⟩ := int_at ht
    rw [x_gn]
    have n0 := nn n (List.mem_of_getElem? hn)
    have a0 := (prd_nn nn i).1
    have a2 := prd_take nn (i + 1)
    have po := prts_ok fun n hn => nn n (List.mem_of_mem_take (i := i) hn)
    have el := ext_len po n0
    rw [take_snoc hn, prts_snoc] at k
    rw [take_snoc hn, prd_snoc] at a2
    rw [prd_snoc] at el
    have few := gf.few
    have : n + 1 ≤ prd (N.take i) * (n + 1) := by
      have := Int.mul_le_mul_of_nonneg_right a0 (show 0 ≤ n + 1 by omega)
      omega
    refine w_set ?_
    show mLc2 _ _ _ _ _ _ _ _ _ [some (.d (recD N)), some (.lst ((prts (N.take i)).map recD)), some (.int n), c, d] _ _
    unfold mLc2
    rw [x_iseq]
    refine ⟨_, rfl, ?_⟩
    show goLc2 _ _ _ _ _ _ _ [some (.d (recD N)), some (.lst ((prts (N.take i)).map recD)), some (.int n), none, none] _ (((prts (N.take i)).map recD).map T.d) _ _
    refine lc2_go n0 (by omega) _ [] (po_six nn h6 i) (by rw [List.length_nil]; omega) ?_
    exact k _ _ ⟨_, _, _, rfl, rfl⟩
  · rintro τ M ⟨v, c, d, rfl, rfl⟩
    rw [List.length_map, List.length_map, List.take_length]
    show b_parts_of_1 _ [some (.d (recD N)), some (.lst ((prts N).map recD)), v, c, d] _
    refine w_ret ?_
    exact ⟨_, rfl, rfl, q⟩
theorem ex1_go {p : List Int} {n : Int} {D : List Cell} {a b c d : Option T} {F : List PyData → Mem → Prop} (hp : p.length ≤ 6) (h256 : n ≤ 256) (q : F ((ex1 p n).map recD) ⟨D, []⟩) :
    goLc (gN 5) bYes (mOp oAdd (mVar 4) (mTup (aCons (mVar 5) aNil))) [a, b, c, d, some (.d (recD p)), none] F ((List.range (n + 1).toNat).map fun (s : Nat) => T.int (s : Int)) [] ⟨D, []⟩ := by
  refine lc_pure (ts := List.range (n + 1).toNat) (fun (s : Nat) => recD (p ++ [(s : Int)])) (sz64' (by rw [List.length_range]; omega)) (fun s acc R hs ha hr => ?_) ?_
  · show gN 5 (.int (s : Int)) _ _ _
    rw [x_gn]
    refine w_op ⟨.d (recD p), rfl, w_tup (w_ac ⟨.int (s : Int), rfl, w_an ⟨sz1, w_catT (sz64' (by simp; omega)) ?_⟩⟩)⟩
    refine ⟨ha, ?_⟩
    rw [recD_snoc]
    exact hr
  · rw [ex1_D] at q
    exact q
theorem sp_law_parts {K : Bk6} {N : List Int} {D : List Cell} {Q : T → List Cell → Prop} (g : GB K) (gf : GF K N) (q : Q (.lst ((prts N).map recD)) D) : d__law_parts [.d (recD N)] D Q := by
  have nn := gn_nn gf.gn
  have h6 : N.length ≤ 6 := by have := gf.gn.len; have := g.six; omega
  refine ⟨rfl, w_seq (w_set ?_)⟩
  rw [x_lst]
  refine w_ac (w_tup (w_an ⟨Nat.zero_le _, w_an ⟨sz1, ?_⟩⟩))
  show b__law_parts_5 _ [some (.d (recD N)), some (.lst ((prts (N.take 0)).map recD)), none, none, none, none] _
  refine w_seq (w_for ?_)
  rw [x_iseq]
  refine ⟨.d (recD N), rfl, ?_⟩
  show goFor _ _ _ ((N.map PyData.int).map T.d) _ _
  refine for_all (fun i τ M => ∃ v b c d, M = ⟨D, []⟩ ∧ τ = [some (.d (recD N)), some (.lst ((prts (N.take i)).map recD)), v, b, c, d]) ⟨none, none, none, none, rfl, rfl⟩ ?_ ?_
  · rintro i τ M t R ht ⟨v, b, c, d, rfl, rfl⟩ k
    obtain ⟨n, hn, rfl, hi⟩ := int_at ht
    rw [x_gn]
    have n0 := nn n (List.mem_of_getElem? hn)
    have a0 := (prd_nn nn i).1
    have a2 := prd_take nn (i + 1)
    have po := prts_ok fun n hn => nn n (List.mem_of_mem_take (i := i) hn)
    have el := ext_len po n0
    rw [take_snoc hn, prts_snoc] at k
    rw [take_snoc hn, prd_snoc] at a2
    rw [prd_snoc] at el
    have few := gf.few
    have : n + 1 ≤ prd (N.take i) * (n + 1) := by
      have := Int.mul_le_mul_of_nonneg_right a0 (show 0 ≤ n + 1 by omega)
      omega
    have p6 := po_six nn h6 i
    generalize prts (N.take i) = P at k el p6
    refine w_seq (w_set ?_)
    rw [x_lst]
    refine w_an ⟨Nat.zero_le _, ?_⟩
    show b__law_parts_2 _ [some (.d (recD N)), some (.lst (P.map recD)), some (.int n), some (.lst []), c, d] _
    refine w_seq (w_for ?_)
    rw [x_iseq]
    refine ⟨_, rfl, ?_⟩
    show goFor _ _ _ ((P.map recD).map T.d) _ _
    refine for_all (fun j τ M => ∃ c d, M = ⟨D, []⟩ ∧ τ = [some (.d (recD N)), some (.lst (P.map recD)), some (.int n), some (.lst ((extp (P.take j) n).map recD)), c, d]) ⟨_, _, rfl, rfl⟩ ?_ ?_
    · rintro j τ M t R ht ⟨c, d, rfl, rfl⟩ k
      obtain ⟨p, hp, rfl, hj⟩ := rec_at ht
      rw [x_gn]
      have e : extp (P.take (j + 1)) n = extp (P.take j) n ++ ex1 p n := by
        rw [take_snoc hp, extp_eq, extp_eq, List.flatMap_append]
        simp
      rw [e] at k
      have z1 : (ex1 p n).length = (n + 1).toNat := by simp [ex1]
      have z2 : (extp (P.take j) n).length ≤ (extp P n).length := by
        rw [flat_len, flat_len, List.length_take]
        exact Nat.mul_le_mul_right _ (by omega)
      refine w_set (w_op ⟨_, rfl, ?_⟩)
      refine w_lc ?_
      rw [x_irange]
      refine w_ac (w_op (w_call (w_ac ⟨.int n, rfl, w_an (w_int (w_c (w_add (w_an ?_))))⟩)))
      refine ⟨⟨by omega, by omega⟩, ?_⟩
      refine ex1_go (p6 p (List.mem_of_getElem? hp)) (by omega) ?_
      refine w_catL (sz64' (by rw [List.length_map, List.length_map]; omega)) ?_
      rw [List.map_append] at k
      exact k _ _ ⟨_, _, rfl, rfl⟩
    · rintro τ M ⟨c, d, rfl, rfl⟩
      rw [List.length_map, List.length_map, List.take_length]
      show b__law_parts_1 _ [some (.d (recD N)), some (.lst (P.map recD)), some (.int n), some (.lst ((extp P n).map recD)), c, d] _
      refine w_set ⟨_, rfl, ?_⟩
      exact k _ _ ⟨_, _, _, _, rfl, rfl⟩
  · rintro τ M ⟨v, b, c, d, rfl, rfl⟩
    rw [List.length_map, List.length_map, List.take_length]
    show b__law_parts_4 _ [some (.d (recD N)), some (.lst ((prts N).map recD)), v, b, c, d] _
    refine w_ret ?_
    exact ⟨_, rfl, rfl, q⟩
theorem set_cut {N : List Int} {p : Nat} {x : Int} (h : p < N.length) : (N.map PyData.int).take p ++ [.int x] ++ (N.map PyData.int).drop (p + 1) = (N.set p x).map .int := by
  rw [List.map_set, List.set_eq_take_append_cons_drop, if_pos (by simpa using h)]
  simp
theorem at_rec {N : List Int} {i : Nat} (h : i < N.length) : atI (N.map PyData.int) (i : Int) = some (.int (num N i)) := by
  refine atI_nat ?_
  rw [List.getElem?_map, List.getElem?_eq_getElem h, num_at h]
  rfl
/-- part[:place] + (part[place] - 1,) + part[place + 1:], with part in slot a and place in slot b -/
theorem w_fewer {q : List Int} {p a b : Nat} {τ : En} {M : Mem} {Q : Kt} (h6 : q.length ≤ 6) (hp : p < q.length) (ha : τ[a]? = some (some (.d (recD q)))) (hb : τ[b]? = some (some (.int (p : Int)))) (k : Q (.d (recD (fw q p))) M) :
    mOp oAdd (mOp oAdd (mSl (mVar a) oNone (oPart (mVar b))) (mTup (aCons (mOp oSub (mOp oIx (mVar a) (mVar b)) (mC (.int 1))) aNil))) (mSl (mVar a) (oPart (mOp oAdd (mVar b) (mC (.int 1)))) oNone) τ M Q := by
  have c1 : cutT (q.map PyData.int) none (some (p : Int)) = (q.map PyData.int).take p := cut_to (by simp; omega)
  have c2 : cutT (q.map PyData.int) (some ((p : Int) + 1)) none = (q.map PyData.int).drop (p + 1) := by
    have := cut_from (l := q.map PyData.int) (p := p + 1) (by simp; omega)
    rw [← this]
    rfl
  refine w_op (w_op (w_slT hb ⟨_, ha, ?_⟩))
  show oSl (.d (.tuple (q.map .int))) none (some (p : Int)) _ _
  rw [x_sltup, c1]
  refine w_tup (w_ac (w_op (w_op ⟨_, ha, _, hb, ?_⟩)))
  show oIx (.d (.tuple (q.map .int))) (.d (.int (p : Int))) _ _
  refine ⟨_, at_rec hp, w_c (w_sub (w_an ⟨sz1, w_catT ?_ ?_⟩))⟩
  · exact sz64' (by rw [List.length_take, List.length_map]; show min p q.length + 1 ≤ _; omega)
  simp only [x_sl, x_onone, x_opart]
  refine ⟨_, ha, w_op ⟨_, hb, w_c (w_add ?_)⟩⟩
  show oSl (.d (.tuple (q.map .int))) (some ((p : Int) + 1)) none _ _
  rw [x_sltup, c2]
  refine w_catT (sz64' (by rw [List.length_append, List.length_take, List.length_map, List.length_drop, List.length_map]; show min p q.length + 1 + (q.length - (p + 1)) ≤ _; omega)) ?_
  rw [set_cut hp]
  exact k
theorem sp_fewer {q : List Int} {p : Nat} {D : List Cell} {Q : T → List Cell → Prop} (h6 : q.length ≤ 6) (hp : p < q.length) (k : Q (.d (recD (fw q p))) D) : d_one_fewer [.d (recD q), .int (p : Int)] D Q := by
  refine ⟨rfl, w_ret (w_fewer h6 hp rfl rfl ?_)⟩
  exact ⟨rfl, k⟩
end Ll
set_option Elab.async false
set_option linter.all false
set_option maxRecDepth 100000
set_option maxHeartbeats 1000000
namespace Ll
open PySem PySem.Spec PySem.W L2 L3 Sh Pl Pq Wm Lw
def recK (N : List Int) : NestedKey := .tup (N.map .num)
theorem datas_num (N : List Int) : NestedKey.datas (N.map .num) = N.map .int := by
  induction N with
  | nil => rfl
  | cons n N ih =>
    rw [List.map_cons, List.map_cons, NestedKey.datas, ih]
    rfl
theorem recK_ok (N : List Int) : okKey 8 (recK N) = true := by
  unfold recK
  rw [okKey]
  induction N with
  | nil => rfl
  | cons n N ih =>
    rw [List.map_cons, okKeys, ih]
    rfl
theorem rec_key (N : List Int) : keyT (.d (recD N)) (recK N) := ⟨N.map .num, rfl, by rw [datas_num]; rfl, recK_ok N⟩
theorem recK_inj {N P : List Int} (h : recK N = recK P) : N = P := by
  unfold recK at h
  injection h with h
  exact (List.map_inj_right (fun x y z => by injection z)).mp h
def dk (f : List Int → Int) (P : List (List Int)) : List (NestedKey × T) := P.map fun q => (recK q, .int (f q))
theorem look_in {f : List Int → Int} {q : List Int} : ∀ {P : List (List Int)}, q ∈ P → lookN (dk f P) (recK q) = some (.int (f q))
  | p :: P, h => by
    by_cases z : p = q
    · subst z
      simp [lookN, dk]
    · have z2 : ¬ recK p = recK q := fun e => z (recK_inj e)
      have ih := look_in (f := f) (P := P) ((List.mem_cons.mp h).resolve_left fun e => z e.symm)
      unfold lookN dk at ih ⊢
      rw [List.map_cons, List.find?_cons]
      simp only [z2, decide_false]
      exact ih
theorem look_out {f : List Int → Int} {q : List Int} : ∀ {P : List (List Int)}, q ∉ P → lookN (dk f P) (recK q) = none
  | [], _ => rfl
  | p :: P, h => by
    have z2 : ¬ recK p = recK q := fun e => h (by rw [recK_inj e]; exact List.mem_cons_self)
    have ih := look_out (f := f) (P := P) fun e => h (List.mem_cons_of_mem _ e)
    unfold lookN dk at ih ⊢
    rw [List.map_cons, List.find?_cons]
    simp only [z2, decide_false]
    exact ih
theorem put_out {f : List Int → Int} {q : List Int} {P : List (List Int)} (h : q ∉ P) : putN (dk f P) (recK q) (.int (f q)) = dk f (P ++ [q]) := by
  unfold L3.putN
  rw [look_out h, if_neg (by simp)]
  unfold dk
  rw [List.map_append]
  rfl
theorem lc_there0 {K : Bk6} {N : List Int} {τ : En} {M : Mem} {F : List PyData → Mem → Prop} (h6 : K.length ≤ 6) (hl : N.length = K.length) (hτ : τ.length = 3) (q : F ((thr K N).map ix) M) :
    goLc (gTu 2 (gsCons (gN 1) (gsCons (gN 2) gsNil))) (mTest (mOp oGt (mVar 2) (mC (.int 0)))) (mVar 1) τ F (enumT (N.map .int)) [] M := by
  obtain ⟨a, b, c, rfl⟩ : ∃ a b c, τ = [a, b, c] := by
    match τ, hτ with
    | [a, b, c], _ => exact ⟨a, b, c, rfl⟩
  unfold enumT
  refine lc_pf (ts := List.range (N.map PyData.int).length) (fun i => decide (0 < num N i)) (fun i => ix i) (sz64' (by simp; omega)) (fun x acc R hx ha hr => ?_) ?_
  · have hx' : x < N.length := by simpa using hx
    rw [num_getD hx']
    simp
    by_cases hz : 0 < num N x
    · rw [if_pos (decide_eq_true hz)] at hr
      exact .inr ⟨hz, ha, hr⟩
    · rw [if_neg (by simpa using hz)] at hr
      exact .inl ⟨by omega, hr⟩
  · simp
    have e : (List.range N.length).filter (fun i => decide (0 < num N i)) = thr K N := by rw [hl]; rfl
    rw [e]
    exact q
theorem sp_places0 {K : Bk6} {N : List Int} {D : List Cell} {Q : T → List Cell → Prop} (h6 : K.length ≤ 6) (hl : N.length = K.length) (q : Q (.lst ((thr K N).map ix)) D) : d_places_there [.d (recD N)] D Q := by
  refine ⟨rfl, ?_⟩
  simp only [x_ret, x_lc, x_ienum, x_acons, x_anil, x_var]
  simp [recD, wipeT]
  exact lc_there0 h6 hl rfl q
theorem sp_there0 {K : Bk6} {N : List Int} {D : List Cell} {Q : T → List Cell → Prop} (h6 : K.length ≤ 6) (hl : N.length = K.length) (q : Q (.lst ((thr K N).map ix)) D) : d__law_there [.d (recD N)] D Q := by
  refine ⟨rfl, ?_⟩
  simp only [x_ret, x_lc, x_ienum, x_acons, x_anil, x_var]
  simp [recD, wipeT]
  exact lc_there0 h6 hl rfl q
theorem g2_0 {α : Type} (D : List α) (x y : α) : (D ++ [x, y])[D.length]? = some x := by simp
theorem g2_1 {α : Type} (D : List α) (x y : α) : (D ++ [x, y])[D.length + 1]? = some y := by simp
theorem s2_0 {α : Type} (D : List α) (x y z : α) : (D ++ [x, y]).set D.length z = D ++ [z, y] := by simp
theorem s2_1 {α : Type} (D : List α) (x y z : α) : (D ++ [x, y]).set (D.length + 1) z = D ++ [x, z] := by simp
def eD (p : Int × Int) : PyData := .tuple [.int p.1, .int p.2]
theorem min_prs {l : List (Int × Int)} {M : Mem} {Q : Kt} (h : l ≠ []) (q : Q (.d (eD (bpl l))) M) : fMinD [.lst (l.map eD)] M Q := by
  cases l with
  | nil => exact (h rfl).elim
  | cons x l =>
    have e : (x :: l).map eD = (x :: l).map (Datum.toD : Int × Int → PyData) := rfl
    refine ⟨⟨?_, ?_⟩, ?_⟩
    · have := alikeAll_datum (x :: l)
      exact this
    · have := depthAll_map (x :: l)
      refine Nat.le_trans this ?_
      decide
    · have e2 : minD (eD x) (l.map eD) = eD (minOf x l) := minD_map x l
      have : Q (.d (minD (eD x) (l.map eD))) M := by
        rw [e2]
        exact q
      exact this
/-- the environment of last_places -/
abbrev Le (K : Bk6) (N : List Int) (n : Nat) (a b c : Option T) : En := [some (.d (bkD K)), some (.d (recD N)), some (.lst ((prts N).map recD)), some (.mr n), some (.mr (n + 1)), a, b, c]
def LD (D : List Cell) (K : Bk6) (N : List Int) (i : Nat) : List Cell := D ++ [.dnk (dk (le K) ((prts N).take (i + 1))), .dnk (dk (lst K) (((prts N).drop 1).take i))]
theorem few_len {K : Bk6} {N : List Int} (gf : GF K N) : (prts N).length ≤ 256 := by
  have := (prts_ok (gn_nn gf.gn)).len
  have := gf.few
  omega
theorem last_1 {K : Bk6} {N q : List Int} {D : List Cell} {i : Nat} {E : Es} {b c : Option T} (g : GB K) (gf : GF K N) (hq : ((prts N).drop 1)[i]? = some q) (k : ∀ a b c, E.nx (Le K N D.length a b c) ⟨LD D K N (i + 1), []⟩) :
    b_last_places_1 E (Le K N D.length (some (.d (recD q))) b c) ⟨LD D K N i, []⟩ := by
  have nn := gn_nn gf.gn
  have hl := gf.gn.len
  have h6 := g.six
  have po := prts_ok nn
  rw [List.getElem?_drop, Nat.add_comm] at hq
  have hm := List.mem_of_getElem? hq
  obtain ⟨ql, qn⟩ := (po.mem q).mp hm
  have fl := few_len gf
  have hi : i + 1 < (prts N).length := (List.getElem?_eq_some_iff.mp hq).1
  have nq : ∀ n ∈ q, 0 ≤ n := fun n hn => by
    obtain ⟨j, hj, e⟩ := List.getElem_of_mem hn
    have := (qn j (by omega)).1
    rw [num_at hj, e] at this
    exact this
  have tq : 0 < tl q := by
    rcases Nat.eq_zero_or_pos (tl q) with z | z
    · have nd := prts_nd nn
      have h0 := po.hd
      have e : q = List.replicate N.length 0 := by
        refine List.ext_getElem (by simp [ql]) fun j h1 h2 => ?_
        have t0 : thr K q = [] := thr_nil (by omega) nq z
        have : ¬ 0 < num q j := fun y => by
          have : j ∈ thr K q := thr_mem.mpr ⟨by omega, y⟩
          rw [t0] at this
          cases this
        have := (qn j (by omega)).1
        rw [List.getElem_replicate, ← num_at h1]
        omega
      rw [← e] at h0
      have := (List.getElem?_inj (i := i + 1) (j := 0) hi nd).mp (hq.trans h0.symm)
      omega
    · exact z
  have pne : prs K q ≠ [] := by
    unfold prs
    intro z
    exact thr_ne (by omega) tq nq (List.map_eq_nil_iff.mp z)
  refine w_seq (w_set (w_lc ?_))
  rw [x_iseq]
  refine w_call (w_ac ⟨.d (recD q), rfl, w_an ⟨by simp, sp_places0 (by omega) (by omega) ?_⟩⟩)
  show goLc _ _ _ (Le K N D.length (some (.d (recD q))) b none) _ (((thr K q).map ix).map T.d) [] ⟨LD D K N i, []⟩
  rw [List.map_map]
  refine lc_pure (ts := thr K q) (fun p => eD (sfin K p (le K (fw q p)), (p : Int))) (sz64' (by have := (List.length_filter_le (fun i => decide (0 < num q i)) (List.range K.length)); rw [List.length_range] at this; unfold thr; omega)) (fun p acc R hp ha hr => ?_) ?_
  · obtain ⟨hp1, hp2⟩ := thr_mem.mp hp
    show gN 7 (.int (p : Int)) _ _ _
    rw [x_gn]
    have hc : ∀ R : T → Mem → Prop, R (.d (.int (le K (fw q p)))) ⟨LD D K N i, []⟩ → oNGet (.mr D.length) (.d (recD (fw q p))) ⟨LD D K N i, []⟩ R := fun R h =>
      ⟨D.length, recK (fw q p), _, _, rfl, rec_key _, g2_0 D _ _, look_in (fw_ahead nn hq (by omega) hp2), h⟩
    refine w_tup (w_ac (w_call (w_ac ⟨.d (bkD K), rfl, w_ac (w_tup (w_ac ⟨.int (p : Int), rfl, w_an ⟨sz1, w_ac (w_op ⟨.mr D.length, rfl, w_call (w_ac ⟨.d (recD q), rfl, w_ac ⟨.int (p : Int), rfl, w_an ⟨by simp, sp_fewer (by omega) (by omega) (hc _ (w_an ⟨by simp, ?_⟩))⟩⟩⟩)⟩)⟩⟩))⟩)))
    refine sp_row_end (r := [p]) g ⟨by simp, by simp, fun i hi => by rw [List.mem_singleton.mp hi]; exact hp1⟩ ?_
    exact w_ac ⟨.int (p : Int), rfl, w_an ⟨two_ok, ha, hr⟩⟩
  · show b_last_places_0 _ (Le K N D.length (some (.d (recD q))) (some (.lst _)) c) _
    have e : (thr K q).map (fun p => eD (sfin K p (le K (fw q p)), (p : Int))) = (prs K q).map eD := by
      unfold prs
      rw [List.map_map]
      rfl
    rw [e]
    refine Wm.w_asg (w_call (w_ac ⟨_, rfl, w_an (min_prs pne ?_)⟩))
    rw [← lel_eq (by omega) nq]
    show gTu 2 _ (.d (.tuple [.int (le K q), .int (lst K q)])) _ _ _
    have nq0 : q ∉ (prts N).take (i + 1) := fun h => by
      obtain ⟨j, hj, e⟩ := List.mem_take_iff_getElem.mp h
      have := (List.getElem?_inj (i := j) (j := i + 1) (by omega) (prts_nd nn)).mp (by rw [hq, ← e]; exact List.getElem?_eq_getElem _)
      omega
    have nq1 : q ∉ ((prts N).drop 1).take i := fun h => by
      obtain ⟨j, hj, e⟩ := List.mem_take_iff_getElem.mp h
      rw [List.getElem_drop] at e
      rw [List.length_drop] at hj
      have := (List.getElem?_inj (i := 1 + j) (j := i + 1) (by omega) (prts_nd nn)).mp (by rw [hq, ← e]; exact List.getElem?_eq_getElem _)
      omega
    refine ⟨rfl, ?_⟩
    refine ⟨_, rfl, _, rfl, D.length, recK q, _, rfl, rec_key q, g2_0 D _ _, rfl, sz64 (by unfold dk; rw [List.length_map, List.length_take]; omega), ?_⟩
    rw [put_out nq0]
    dsimp only
    unfold LD
    rw [s2_0]
    refine ⟨_, rfl, _, rfl, D.length + 1, recK q, _, rfl, rec_key q, g2_1 D _ _, rfl, sz64 (by unfold dk; rw [List.length_map, List.length_take]; omega), ?_⟩
    rw [put_out nq1]
    dsimp only
    rw [s2_1]
    have k := k (some (.d (recD q))) (some (.lst ((prs K q).map eD))) c
    unfold LD at k
    have e2 : ((prts N).drop 1)[i]? = some q := by rw [List.getElem?_drop, Nat.add_comm]; exact hq
    rw [take_snoc hq, take_snoc e2] at k
    exact ⟨rfl, k⟩
theorem at_rec0 {P : List (List Int)} {z : List Int} (h : P[0]? = some z) : atI (P.map recD) 0 = some (recD z) := by
  have : atI (P.map recD) ((0 : Nat) : Int) = some (recD z) := atI_nat (by rw [List.getElem?_map, h]; rfl)
  exact this
theorem app_two {α : Type} (D : List α) (x y : α) : D ++ [x] ++ [y] = D ++ [x, y] := by simp
theorem set_last {α : Type} (D : List α) (x y : α) : (D ++ [x]).set D.length y = D ++ [y] := by simp
theorem get_last {α : Type} (D : List α) (x : α) : (D ++ [x])[D.length]? = some x := by simp
theorem zero_le' {K : Bk6} {N : List Int} (gn : GN K N) : le K (List.replicate N.length 0) = 0 := by
  refine le_nil ?_
  unfold tl
  have : ∀ n : Nat, (List.replicate n (0 : Int)).sum = 0 := fun n => by
    induction n with
    | zero => rfl
    | succ n ih => rw [List.replicate_succ, List.sum_cons, ih]; rfl
  rw [this]
  rfl
/-- what last_places makes -/
def LDe (D : List Cell) (K : Bk6) (N : List Int) : List Cell := D ++ [.dnk (dk (le K) (prts N)), .dnk (dk (lst K) ((prts N).drop 1))]
theorem sp_last_places {K : Bk6} {N : List Int} {D : List Cell} {Q : T → List Cell → Prop} (g : GB K) (gf : GF K N) (q : Q (.mr (D.length + 1)) (LDe D K N)) : d_last_places [.d (bkD K), .d (recD N)] D Q := by
  have nn := gn_nn gf.gn
  have po := prts_ok nn
  have fl := few_len gf
  refine ⟨rfl, w_seq (w_set (w_call (w_ac ⟨.d (recD N), rfl, w_an ⟨by simp, sp_parts g gf ?_⟩⟩)))⟩
  show b_last_places_5 _ [some (.d (bkD K)), some (.d (recD N)), some (.lst ((prts N).map recD)), none, none, none, none, none] ⟨D, []⟩
  refine w_seq (w_set ?_)
  unfold mNOne
  refine w_op ⟨_, rfl, w_c ?_⟩
  show oIx (.d (.list ((prts N).map recD))) (.d (.int 0)) _ _
  refine ⟨_, at_rec0 po.hd, w_c ⟨recK (List.replicate N.length 0), rec_key _, rfl, get_last D _, ?_⟩⟩
  dsimp only
  rw [set_last]
  show b_last_places_4 _ [some (.d (bkD K)), some (.d (recD N)), some (.lst ((prts N).map recD)), some (.mr D.length), none, none, none, none] ⟨D ++ [.dnk [(recK (List.replicate N.length 0), .int 0)]], []⟩
  refine w_seq (w_set (w_nnew ?_))
  dsimp only
  rw [app_two, List.length_append]
  have e0 : dk (le K) ((prts N).take (0 + 1)) = [(recK (List.replicate N.length 0), .int 0)] := by
    rw [take_snoc po.hd, List.take_zero]
    show [(recK (List.replicate N.length 0), T.int (le K (List.replicate N.length 0)))] = _
    rw [zero_le' gf.gn]
  suffices key : b_last_places_3 { nx := fun x M => Q .non M.D, rt := fun t M => noL t = true ∧ Q t M.D } (Le K N D.length none none none) ⟨LD D K N 0, []⟩ by
    unfold LD at key
    rw [e0] at key
    exact key
  refine w_seq (w_for ?_)
  rw [x_iseq]
  simp only [x_sl, x_onone, x_opart]
  refine ⟨_, rfl, w_c ?_⟩
  show oSl (.d (.list ((prts N).map recD))) (some 1) none _ _
  have c2 : cutT ((prts N).map recD) (some 1) none = ((prts N).drop 1).map recD := by
    have h1 : 1 ≤ ((prts N).map recD).length := by
      have := po.hd
      cases h : prts N with
      | nil => rw [h] at this; cases this
      | cons a l => simp
    have := cut_from (l := (prts N).map recD) (p := 1) h1
    rw [List.map_drop, ← this]
    rfl
  rw [show ∀ ns M Q, oSl (.d (.list ns)) (some 1) none M Q = Q (.lst (cutT ns (some 1) none)) M from fun _ _ _ => rfl, c2]
  show goFor _ _ _ (((((prts N).drop 1).map recD)).map T.d) _ _
  refine for_all (fun i τ M => ∃ a b c, M = ⟨LD D K N i, []⟩ ∧ τ = Le K N D.length a b c) ⟨_, _, _, rfl, rfl⟩ ?_ ?_
  · rintro i τ M t R ht ⟨a, b, c, rfl, rfl⟩ k
    obtain ⟨p, hp, rfl, hj⟩ := rec_at ht
    rw [x_gn]
    exact last_1 g gf hp fun a b c => k _ _ ⟨a, b, c, rfl, rfl⟩
  · rintro τ M ⟨a, b, c, rfl, rfl⟩
    rw [List.length_map, List.length_map, List.length_drop]
    have e : LD D K N ((prts N).length - 1) = LDe D K N := by
      unfold LD LDe
      rw [List.take_of_length_le (by omega), List.take_of_length_le (by rw [List.length_drop]; omega)]
    rw [e]
    show b_last_places_2 _ (Le K N D.length a b c) _
    refine w_ret ?_
    exact ⟨_, rfl, rfl, q⟩
abbrev Re (K : Bk6) (N : List Int) (n : Nat) (q : List Int) : En := [some (.d (bkD K)), some (.d (recD N)), some (.mr (n + 1)), some (.lr 0), some (.d (recD q))]
theorem w_meth {f : T → FA} {o : Me} {r : Ma} {τ : En} {M : Mem} {Q : Kt} (h : o τ M fun x M1 => isL x M1 ∧ r τ M1 fun ts M2 => f x ts M2 Q) : mMeth f o r τ M Q := h
abbrev rtst : Mb := mTest (mOp (oNIn false) (mVar 4) (mVar 2))
theorem zero_tl {q : List Int} (nn : ∀ n ∈ q, 0 ≤ n) (h : tl q = 0) : q = List.replicate q.length 0 := by
  refine List.ext_getElem (by simp) fun j h1 h2 => ?_
  have := mem_le_sum nn _ (List.getElem_mem h1)
  have := nn _ (List.getElem_mem h1)
  rw [List.getElem_replicate]
  unfold tl at h
  omega
theorem in_drop {K : Bk6} {N q : List Int} (gn : GN K N) (hq : q ∈ prts N) : q ∈ (prts N).drop 1 ↔ 0 < tl q := by
  have nn := gn_nn gn
  have po := prts_ok nn
  have nd := prts_nd nn
  have h0 := po.hd
  obtain ⟨ql, qn⟩ := (po.mem q).mp hq
  have nq : ∀ n ∈ q, 0 ≤ n := fun n hn => by
    obtain ⟨j, hj, e⟩ := List.getElem_of_mem hn
    have := (qn j (by omega)).1
    rw [num_at hj, e] at this
    exact this
  cases hP : prts N with
  | nil => rw [hP] at hq; cases hq
  | cons a P =>
    rw [hP] at h0 nd hq
    cases h0
    obtain ⟨n1, n2⟩ := List.nodup_cons.mp nd
    show q ∈ P ↔ _
    have z0 : tl (List.replicate N.length (0 : Int)) = 0 := by
      have : ∀ n : Nat, (List.replicate n (0 : Int)).sum = 0 := fun n => by
        induction n with
        | zero => rfl
        | succ n ih => rw [List.replicate_succ, List.sum_cons, ih]; rfl
      unfold tl
      rw [this]
      rfl
    constructor
    · intro h
      rcases Nat.eq_zero_or_pos (tl q) with z | z
      · have := zero_tl nq z
        rw [ql] at this
        rw [this] at h
        exact (n1 h).elim
      · exact z
    · intro h
      rcases List.mem_cons.mp hq with z | z
      · rw [z, z0] at h; omega
      · exact z
theorem row_go {K : Bk6} {N : List Int} {D : List Cell} {E : Es} (g : GB K) (gf : GF K N) (qq : ∀ q, E.nx (Re K N D.length q) ⟨LDe D K N, [some ((lrow K N).reverse.map ix)]⟩) :
    ∀ (n : Nat) (q : List Int) (acc : List Nat), tl q = n → q ∈ prts N → acc ++ (bk K n q).reverse = (lrow K N).reverse →
      goWh rtst b_least_row_1 E (n + 1) (Re K N D.length q) ⟨LDe D K N, [some (acc.map ix)]⟩
  | n, q, acc, hn, hq, e => by
    have nn := gn_nn gf.gn
    have po := prts_ok nn
    have hl := gf.gn.len
    have h6 := g.six
    obtain ⟨ql, qn⟩ := (po.mem q).mp hq
    have nq : ∀ n ∈ q, 0 ≤ n := fun n hn => by
      obtain ⟨j, hj, e⟩ := List.getElem_of_mem hn
      have := (qn j (by omega)).1
      rw [num_at hj, e] at this
      exact this
    unfold goWh
    refine w_test (w_op ⟨_, rfl, _, rfl, D.length + 1, recK q, _, rfl, rec_key q, g2_1 D _ _, ?_⟩)
    have idr := in_drop gf.gn hq
    match n, hn, e with
    | 0, hn, e =>
      have : q ∉ (prts N).drop 1 := fun h => by have := idr.mp h; omega
      rw [look_out this]
      refine ⟨_, rfl, ifF (by simp) ?_⟩
      have : acc = (lrow K N).reverse := by
        rw [← e]
        simp [bk]
      rw [this]
      exact qq q
    | n + 1, hn, e =>
      have hin : q ∈ (prts N).drop 1 := idr.mpr (by omega)
      rw [look_in hin]
      refine ⟨_, rfl, ifT rfl ?_⟩
      obtain ⟨p, hp, e1, e2⟩ := le_last (K := K) (q := q) (by omega) nq (by omega)
      obtain ⟨hp1, hp2⟩ := thr_mem.mp hp
      have hq2 := thr_pos (by omega) nq hp
      have e3 : (lst K q).toNat = p := by omega
      have e4 : acc ++ [p] ++ (bk K n (fw q p)).reverse = (lrow K N).reverse := by
        rw [← e]
        show _ = acc ++ (bk K n (fw q (lst K q).toNat) ++ [(lst K q).toNat]).reverse
        rw [e3]
        simp
      have al : acc.length + 1 ≤ 100 := by
        have h1 := congrArg List.length e4
        have h2 := (lrow_ok gf.gn).2.2.2
        have h3 := gf.hd
        simp at h1
        unfold tl at h2
        omega
      have get : ∀ {L : List (Option (List PyData))} {R : Kt}, R (.int (p : Int)) ⟨LDe D K N, L⟩ → mOp oNGet (mVar 2) (mVar 4) (Re K N D.length q) ⟨LDe D K N, L⟩ R := fun h =>
        w_op ⟨_, rfl, _, rfl, D.length + 1, recK q, _, _, rfl, rec_key q, g2_1 D _ _, look_in hin, by rw [e1]; exact h⟩
      have key := row_go g gf qq n (fw q p) (acc ++ [p]) (by omega) (fw_mem nn hq (by omega) hp2) e4
      rw [List.map_append] at key
      suffices fin : ∀ E : Es, E.nx (Re K N D.length (fw q p)) ⟨LDe D K N, [some (acc.map ix ++ [ix p])]⟩ → b_least_row_1 E (Re K N D.length q) ⟨LDe D K N, [some (acc.map ix)]⟩ from fin _ key
      intro E h
      have hz : (acc.map ix).length < sizeLine := sz64 (by rw [List.length_map]; omega)
      refine w_seq (w_drop ?_)
      refine w_meth ⟨.lr 0, rfl, ⟨_, rfl⟩, w_ac (get (w_an ?_))⟩
      refine w_appL (i := 0) (ds := acc.map ix) (L := [some (acc.map ix)]) rfl hz ?_
      show b_least_row_0 _ (Re K N D.length q) ⟨LDe D K N, [some (acc.map ix ++ [ix p])]⟩
      refine w_set (w_call (w_ac ⟨.d (recD q), rfl, w_ac (get (w_an ?_))⟩))
      refine ⟨by simp, ?_⟩
      refine sp_fewer (by omega) (by omega) ?_
      exact h
end Ll
set_option Elab.async false
set_option linter.all false
set_option maxRecDepth 100000
set_option maxHeartbeats 1000000
namespace Ll
open PySem PySem.Spec PySem.W L2 L3 Sh Pl Pq Wm Lw
theorem w_neL {l : List Int} {i : Nat} {D : List Cell} {L : List (Option (List PyData))} {Q : Kt} (h : L[i]? = some (some (l.map .int))) (q : Q (.bl (!decide (l = []))) ⟨D, L⟩) : oEq true (.lr i) (.d (.list [])) ⟨D, L⟩ Q := by
  have e : now (.lr i) ⟨D, L⟩ = some (.list (l.map .int)) := by
    unfold now
    simp only [h]
  show (match now (.lr i) ⟨D, L⟩, now (.d (.list [])) ⟨D, L⟩ with
    | some a, some b => (SeqAt.shaped a = true ∧ SeqAt.shaped b = true) ∧ Q (.bl (if true then !PyData.eqv a b else PyData.eqv a b)) ⟨D, L⟩
    | _, _ => False)
  rw [e]
  refine ⟨⟨Sh.shaped_ints l, rfl⟩, ?_⟩
  rw [eqv_nil]
  cases l with
  | nil => exact q
  | cons a l => exact q
theorem w_minL {l : List Int} {i : Nat} {D : List Cell} {L : List (Option (List PyData))} {Q : Kt} (h : L[i]? = some (some (l.map .int))) (ne : l ≠ []) (q : Q (.int (mn l)) ⟨D, L⟩) : fMin [.lr i] ⟨D, L⟩ Q := by
  have e : nowI (.lr i) ⟨D, L⟩ = some l := by
    unfold nowI now
    simp only [h]
    exact intsOf_map l
  show (match nowI (.lr i) ⟨D, L⟩ with
    | some ns => 0 < ns.length ∧ ∀ m, m ∈ ns → (∀ y, y ∈ ns → m ≤ y) → Q (.int m) ⟨D, L⟩
    | none => False)
  rw [e]
  exact ⟨List.length_pos_iff.mpr ne, fun m h1 h2 => by rw [mn_uniq h1 h2]; exact q⟩
/-- the ends of a part's rows, by their last field -/
def ens (K : Bk6) (q : List Int) : List Int := (thr K q).map fun p => sfin K p (le K (fw q p))
theorem ens_le {K : Bk6} {q : List Int} (ql : q.length = K.length) (nn : ∀ n ∈ q, 0 ≤ n) : (if ens K q = [] then 0 else mn (ens K q)) = le K q := by
  by_cases z : ens K q = []
  · rw [if_pos z]
    have : thr K q = [] := List.map_eq_nil_iff.mp z
    unfold le
    rw [lel_eq ql nn]
    unfold prs
    rw [this]
    rfl
  · rw [if_neg z]
    have ne : prs K q ≠ [] := by
      intro y
      refine z ?_
      unfold prs at y
      unfold ens
      rw [List.map_eq_nil_iff.mp y]
      rfl
    symm
    unfold le
    rw [lel_eq ql nn]
    have e : ens K q = (prs K q).map (·.1) := by
      unfold ens prs
      rw [List.map_map]
      rfl
    refine mn_uniq ?_ fun y hy => ?_
    · rw [e]
      exact List.mem_map_of_mem (bpl_mem ne)
    · rw [e] at hy
      obtain ⟨x, hx, rfl⟩ := List.mem_map.mp hy
      exact bpl_le hx
abbrev Ae (K : Bk6) (N : List Int) (n : Nat) (a b c d e : Option T) : En := [some (.d (bkD K)), some (.d (recD N)), some (.mr n), a, b, c, d, e]
def AD (D : List Cell) (K : Bk6) (N : List Int) (i : Nat) : List Cell := D ++ [.dnk (dk (le K) ((prts N).take i))]
theorem d1_g {α : Type} (D : List α) (x : α) : (D ++ [x])[D.length]? = some x := by simp
theorem d1_s {α : Type} (D : List α) (x y : α) : (D ++ [x]).set D.length y = D ++ [y] := by simp
theorem least_1 {K : Bk6} {N q : List Int} {D : List Cell} {L : List (Option (List PyData))} {i p : Nat} {E : Es} {acc : List Int} {d e : Option T} (g : GB K) (gf : GF K N) (hq : (prts N)[i]? = some q) (hp : p ∈ thr K q) (ha : acc.length ≤ 6)
    (k : ∀ d e, E.nx (Ae K N D.length (some (.d (recD q))) (some (.lr L.length)) (some (.int (p : Int))) d e) ⟨AD D K N i, L ++ [some ((acc ++ [sfin K p (le K (fw q p))]).map .int)]⟩) :
    b__law_least_1 E (Ae K N D.length (some (.d (recD q))) (some (.lr L.length)) (some (.int (p : Int))) d e) ⟨AD D K N i, L ++ [some (acc.map .int)]⟩ := by
  have nn := gn_nn gf.gn
  have hl := gf.gn.len
  have h6 := g.six
  have po := prts_ok nn
  have hm := List.mem_of_getElem? hq
  obtain ⟨ql, qn⟩ := (po.mem q).mp hm
  obtain ⟨hp1, hp2⟩ := thr_mem.mp hp
  have gk := (kat_ok g hp1).1
  refine w_seq (Wm.w_asg (w_op ⟨.d (bkD K), rfl, .int (p : Int), rfl, ?_⟩))
  refine ⟨_, at_book g hp1, ?_⟩
  refine g_kd ?_
  show b__law_least_0 _ (Ae K N D.length (some (.d (recD q))) (some (.lr L.length)) (some (.int (p : Int))) (some (.int (kat K p).1)) (some (.int (kat K p).2))) ⟨AD D K N i, L ++ [some (acc.map .int)]⟩
  refine w_drop (w_meth ⟨.lr L.length, rfl, ⟨_, d1_g L _⟩, w_ac (w_op (w_call (w_ac (w_op ⟨.mr D.length, rfl, ?_⟩))))⟩)
  refine w_fewer (by omega) (by omega) rfl rfl ?_
  refine ⟨D.length, recK (fw q p), _, _, rfl, rec_key _, d1_g D _, look_in (fw_ahead nn hq (by omega) hp2), ?_⟩
  refine w_ac ⟨.int (kat K p).2, rfl, w_an ⟨by simp, ?_⟩⟩
  have := gk.2.pos
  refine sp_up (by omega) (by omega) ⟨.int (kat K p).1, rfl, w_add (w_an ?_)⟩
  refine w_appL (d1_g L _) (sz64 (by rw [List.length_map]; omega)) ?_
  rw [d1_s]
  have k := k (some (.int (kat K p).1)) (some (.int (kat K p).2))
  rw [List.map_append] at k
  exact k
theorem least_4 {K : Bk6} {N q : List Int} {D : List Cell} {L : List (Option (List PyData))} {i : Nat} {E : Es} {b c d e : Option T} (g : GB K) (gf : GF K N) (hq : (prts N)[i]? = some q)
    (k : ∀ b c d e L, E.nx (Ae K N D.length (some (.d (recD q))) b c d e) ⟨AD D K N (i + 1), L⟩) :
    b__law_least_4 E (Ae K N D.length (some (.d (recD q))) b c d e) ⟨AD D K N i, L⟩ := by
  have nn := gn_nn gf.gn
  have hl := gf.gn.len
  have h6 := g.six
  have po := prts_ok nn
  have hm := List.mem_of_getElem? hq
  have fl := few_len gf
  have hi : i < (prts N).length := (List.getElem?_eq_some_iff.mp hq).1
  obtain ⟨ql, qn⟩ := (po.mem q).mp hm
  have nq : ∀ n ∈ q, 0 ≤ n := fun n hn => by
    obtain ⟨j, hj, e⟩ := List.getElem_of_mem hn
    have := (qn j (by omega)).1
    rw [num_at hj, e] at this
    exact this
  have tl6 : (thr K q).length ≤ 6 := by
    have := (List.length_filter_le (fun i => decide (0 < num q i)) (List.range K.length))
    rw [List.length_range] at this
    unfold thr
    omega
  refine w_seq (w_set ?_)
  rw [x_newL, x_anil, x_dat0]
  refine ⟨Nat.zero_le _, ?_⟩
  suffices key : b__law_least_3 E (Ae K N D.length (some (.d (recD q))) (some (.lr L.length)) c d e) ⟨AD D K N i, L ++ [some []]⟩ from key
  refine w_seq (w_for ?_)
  rw [x_iseq]
  refine w_call (w_ac ⟨.d (recD q), rfl, w_an ⟨by simp, sp_there0 (by omega) (by omega) ?_⟩⟩)
  show goFor _ _ _ (((thr K q).map ix).map T.d) _ _
  refine for_all (fun j τ M => ∃ c d e, M = ⟨AD D K N i, L ++ [some ((((thr K q).take j).map fun p => sfin K p (le K (fw q p))).map .int)]⟩ ∧ τ = Ae K N D.length (some (.d (recD q))) (some (.lr L.length)) c d e) ⟨_, _, _, rfl, rfl⟩ ?_ ?_
  · rintro j τ M t R ht ⟨c, d, e, rfl, rfl⟩ k
    obtain ⟨p, hp, rfl, hj⟩ := row_at ht
    rw [x_gn]
    have hpm := List.mem_of_getElem? hp
    refine least_1 g gf hq hpm (by rw [List.length_map, List.length_take]; omega) fun d e => ?_
    rw [take_snoc hp, List.map_append] at k
    exact k _ _ ⟨_, _, _, rfl, rfl⟩
  · rintro τ M ⟨c, d, e, rfl, rfl⟩
    rw [List.length_map, List.length_map, List.take_length]
    show b__law_least_2 _ (Ae K N D.length (some (.d (recD q))) (some (.lr L.length)) c d e) ⟨AD D K N i, L ++ [some ((ens K q).map .int)]⟩
    have nq0 : q ∉ (prts N).take i := fun h => by
      obtain ⟨j, hj, e⟩ := List.mem_take_iff_getElem.mp h
      have := (List.getElem?_inj (i := j) (j := i) (by omega) (prts_nd nn)).mp (by rw [hq, ← e]; exact List.getElem?_eq_getElem _)
      omega
    have fin : mNPut (mVar 2) (mVar 3) (mC (.int (le K q))) E (Ae K N D.length (some (.d (recD q))) (some (.lr L.length)) c d e) ⟨AD D K N i, L ++ [some ((ens K q).map .int)]⟩ := by
      refine Wm.w_nput (w_c ?_)
      refine ⟨_, rfl, _, rfl, D.length, recK q, _, rfl, rec_key q, d1_g D _, rfl, sz64 (by unfold dk; rw [List.length_map, List.length_take]; omega), ?_⟩
      rw [put_out nq0]
      dsimp only
      unfold AD
      rw [d1_s]
      have k := k (some (.lr L.length)) c d e (L ++ [some ((ens K q).map .int)])
      unfold AD at k
      rw [take_snoc hq] at k
      exact k
    have fin2 := fin
    refine Wm.w_nput ?_
    rw [x_ite]
    refine w_test (w_op ⟨_, rfl, ?_⟩)
    dsimp only
    rw [x_lst]
    refine w_an ⟨Nat.zero_le _, w_neL (d1_g L _) ⟨_, rfl, ?_⟩⟩
    have el := ens_le (K := K) (q := q) (by omega) nq
    by_cases z : ens K q = []
    · rw [if_pos z] at el
      refine ifF (by simp [z]) ?_
      rw [el]
      exact fin2
    · rw [if_neg z] at el
      refine ifT (by simp [z]) ?_
      refine w_call (w_ac ⟨_, rfl, w_an (w_minL (d1_g L _) z ?_)⟩)
      rw [el]
      exact fin2
theorem sp_law_least {K : Bk6} {N : List Int} {D : List Cell} {Q : T → List Cell → Prop} (g : GB K) (gf : GF K N) (q : Q (.int (lw K N)) D) : d__law_least [.d (bkD K), .d (recD N)] D Q := by
  have nn := gn_nn gf.gn
  have at_ := als_al g (gf.gn.gr g)
  refine ⟨rfl, w_seq (w_set (w_nnew ?_))⟩
  dsimp only
  suffices key : b__law_least_6 { nx := fun _ M => M.D.take D.length = D ∧ Q .non D, rt := fun t M => (∃ x, t = .d x) ∧ M.D.take D.length = D ∧ Q t D } (Ae K N D.length none none none none none) ⟨AD D K N 0, []⟩ from key
  refine w_seq (w_for ?_)
  rw [x_iseq]
  refine w_call (w_ac ⟨.d (recD N), rfl, w_an ⟨by simp, sp_law_parts g gf ?_⟩⟩)
  show goFor _ _ _ (((prts N).map recD).map T.d) _ _
  refine for_all (fun i τ M => ∃ a b c d e L, M = ⟨AD D K N i, L⟩ ∧ τ = Ae K N D.length a b c d e) ⟨_, _, _, _, _, _, rfl, rfl⟩ ?_ ?_
  · rintro i τ M t R ht ⟨a, b, c, d, e, L, rfl, rfl⟩ k
    obtain ⟨q, hq, rfl, hj⟩ := rec_at ht
    rw [x_gn]
    exact least_4 g gf hq fun b c d e L => k _ _ ⟨_, _, _, _, _, _, rfl, rfl⟩
  · rintro τ M ⟨a, b, c, d, e, L, rfl, rfl⟩
    rw [List.length_map, List.length_map]
    show b__law_least_5 _ (Ae K N D.length a b c d e) _
    refine w_ret (w_call (w_ac (w_op ⟨.mr D.length, rfl, w_call (w_ac ⟨.d (recD N), rfl, w_an ?_⟩)⟩)))
    unfold recD
    rw [x_tupt]
    refine ⟨D.length, recK N, _, .int (le K N), rfl, rec_key N, d1_g D _, ?_, ?_⟩
    · rw [List.take_length]
      exact look_in (self_mem nn)
    refine w_ac (w_call (w_ac ⟨.d (bkD K), rfl, w_ac ⟨.d (recD N), rfl, w_an ⟨by simp, sp_top g gf.gn (w_an ⟨by simp, ?_⟩)⟩⟩⟩))
    have := at_.pos
    refine sp_up (by omega) (by omega) ?_
    refine ⟨⟨_, rfl⟩, ?_, q⟩
    show (AD D K N _).take D.length = D
    unfold AD
    simp
end Ll
set_option Elab.async false
set_option linter.all false
set_option maxRecDepth 100000
set_option maxHeartbeats 1000000
namespace Ll
open PySem PySem.Spec PySem.W L2 L3 Sh Pl Pq Wm Lw
theorem prd_app (N M : List Int) : prd (N ++ M) = prd N * prd M := by
  have go : ∀ (M : List Int) (a : Int), M.foldl (fun a n => a * (n + 1)) a = a * M.foldl (fun a n => a * (n + 1)) 1 := by
    intro M
    induction M with
    | nil => intro a; simp
    | cons m M ih =>
      intro a
      rw [List.foldl_cons, List.foldl_cons, ih, ih (1 * (m + 1)), Int.one_mul, Int.mul_assoc]
  unfold prd
  rw [List.foldl_append, go M]
theorem prd_cons (n : Int) (N : List Int) : prd (n :: N) = (n + 1) * prd N := by
  have := prd_app [n] N
  rw [List.singleton_append] at this
  rw [this]
  unfold prd
  simp
theorem pow_ge (n : Nat) : n + 1 ≤ 2 ^ n := by
  induction n with
  | zero => decide
  | succ n ih => rw [Nat.pow_succ]; omega
theorem prd_two : ∀ {N : List Int}, (∀ n ∈ N, 0 ≤ n) → prd N ≤ ((2 ^ N.sum.toNat : Nat) : Int)
  | [], _ => by decide
  | n :: N, h => by
    have h0 := h n List.mem_cons_self
    have hN : ∀ m ∈ N, 0 ≤ m := fun m hm => h m (List.mem_cons_of_mem _ hm)
    have ih := prd_two hN
    have h1 : (0 : Int) ≤ N.sum := (sum_pos hN).1
    rw [prd_cons, List.sum_cons, Int.toNat_add h0 h1, Nat.pow_add, Int.natCast_mul]
    have h2 := pow_ge n.toNat
    have h3 := prd_pos hN
    exact Int.mul_le_mul (by omega) ih (by omega) (by omega)
theorem gf_few {K : Bk6} {N : List Int} (gn : GN K N) (h : N.sum ≤ 8) : GF K N := by
  have nn := gn_nn gn
  refine ⟨gn, by omega, ?_⟩
  have h1 := prd_two nn
  have h2 : 2 ^ N.sum.toNat ≤ 2 ^ 8 := Nat.pow_le_pow_right (by omega) (by omega)
  omega
theorem lw_ok {K : Bk6} {N : List Int} (g : GB K) (gf : GF K N) : 0 ≤ lw K N ∧ lw K N ≤ 100000000000000000000000000006500 := by
  rw [← lrow_whole gf.gn]
  exact whole_le g (lrow_gr gf.gn gf.hd)
theorem w_shw {x : PyData} {M : Mem} {Q : Kt} (h : OkShow x) (q : Q (.d (.str x.shown)) M) : fRepr [.d x] M Q := ⟨h, q⟩
theorem two_okB {K : Bk6} {N : List Int} (g : GB K) (gn : GN K N) : OkShow (.list [bkD K, recD N]) :=
  (sw_list ((sw_cons ((sw_bk g).mono (Nat.le_refl _) (Nat.le_refl 2)) (sw_one ((rec_sw g gn).mono (Nat.le_refl _) (by omega : 1 ≤ 2)))))).ok (by omega) (by omega)
/-- the numbers of a tuple as it stands in a text -/
def cs : List Int → Ma
  | [] => aNil
  | n :: N => aCons (mC (.int n)) (cs N)
end Ll
set_option Elab.async false
set_option linter.all false
set_option maxRecDepth 100000
set_option maxHeartbeats 2000000
namespace Itp
open PySem PySem.Spec
open Sem (wp)
open AutoSeq1 (wpAny_loadPart')
theorem mro : mroOf (.type "itertools.permutations") = pure [.type "itertools.permutations", .type "object"] := by rw [mroOf_type]; kernel_rfl
/-- what stands in the object: the pool, where it is, the numbers -/
def fld (t : Addr) (m : Int) (n : Nat) (last : Value) (s : List Nat × List Nat) : List Value := [.ref t, .int m 0, .int n 0, last] ++ (s.1 ++ s.2).map fun (i : Nat) => .int (i : Int) 0
def cyc (n : Nat) : List Nat := (List.range n).map fun i => n - i
end Itp
set_option Elab.async false
set_option linter.all false
set_option maxRecDepth 100000
set_option maxHeartbeats 2000000
namespace Itp
open PySem PySem.Spec
open Sem (wp)
open AutoSeq1 (wpAny_loadPart')
end Itp
set_option Elab.async false
set_option linter.all false
set_option maxRecDepth 100000
set_option maxHeartbeats 2000000
namespace Itp
open PySem PySem.Spec
open Sem (wp)
open AutoSeq1 (wpAny_loadPart')
section
variable {prog : Program} {w : World} {A : Around} {E : Value → Shared → Prop} {s : Shared}
/-- the next order of the places -/
def perNext (n : Nat) : Nat → List Nat → List Nat → Option (List Nat × List Nat)
  | 0, _, _ => none
  | i + 1, ix, cy =>
    if (cy.getD i 0 - 1 == 0) = true then perNext n i (ix.take i ++ ix.drop (i + 1) ++ [ix.getD i 0]) (cy.set i (n - i))
    else some ((ix.set i (ix.getD (n - (cy.getD i 0 - 1)) 0)).set (n - (cy.getD i 0 - 1)) (ix.getD i 0), cy.set i (cy.getD i 0 - 1))
end
end Itp
set_option Elab.async false
set_option linter.all false
set_option maxRecDepth 100000
set_option maxHeartbeats 2000000
namespace Itp
open PySem PySem.Spec
open Sem (wp)
def prun (n : Nat) : Nat → List Nat × List Nat → List (List Nat × List Nat)
  | 0, _ => []
  | f + 1, st => st :: match perNext n n st.1 st.2 with
    | some st2 => prun n f st2
    | none => []
def psts (n : Nat) : List (List Nat × List Nat) := prun n 721 (List.range n, cyc n)
end Itp
set_option Elab.async false
set_option linter.all false
set_option maxRecDepth 100000
set_option maxHeartbeats 2000000
namespace L3
open PySem PySem.Spec L2
/-- all orders of the items -/
def permT (xs : List PyData) : List T := (Itp.psts xs.length).map fun s => T.d (.tuple (s.1.map fun j => xs.getD j .none))
section
open PyProof.Rows HT
variable {X : Cx} {pn : List (Addr × Obj)} {sg : L2.St} {hp : Hp} {sh : Shared} {tg : Expr}
end
end L3
set_option Elab.async false
set_option linter.all false
set_option maxRecDepth 100000
set_option maxHeartbeats 2000000
namespace L3
open PySem PySem.Spec L2
def iPerm (r : Ma) : Mi := fun τ M Q => r τ M fun ts M1 => match ts with
  | [t] => (match seqOf t with
    | some xs => xs.length ≤ 6 ∧ Q (permT xs) M1
    | none => False)
  | _ => False
def iPermR (m : Me) : Mi := fun τ M Q => m τ M fun t M1 => match t with
  | .d (.int n) => (0 ≤ n ∧ n ≤ 6) ∧ Q (permT (rgD n)) M1
  | _ => False
section
open PyProof.Rows HT
variable {X : Cx} {tg e a : Expr} {mr : Ma} {ma : Me} {p p2 pos pos2 : Pos}
end
@[simp] theorem x_iperm {a : Ma} {τ : En} {M : Mem} {R : List T → Mem → Prop} : iPerm a τ M R = a τ M fun ts M1 => match ts with
  | [t] => (match seqOf t with
    | some xs => xs.length ≤ 6 ∧ R (permT xs) M1
    | none => False)
  | _ => False := rfl
@[simp] theorem x_ipermR {m : Me} {τ : En} {M : Mem} {R : List T → Mem → Prop} : iPermR m τ M R = m τ M fun t M1 => match t with
  | .d (.int n) => (0 ≤ n ∧ n ≤ 6) ∧ R (permT (rgD n)) M1
  | _ => False := rfl
end L3
set_option Elab.async false
set_option linter.all false
set_option maxRecDepth 100000
set_option maxHeartbeats 2000000
namespace L3
open PySem PySem.Spec L2
section
open PyProof.Rows HT
variable {X : Cx} {e : Expr} {mr : Ma} {p pos kpos cpos : Pos} {j : Nat}
end
end L3
set_option Elab.async false
set_option linter.all false
set_option maxRecDepth 100000
namespace L3
open PySem PySem.Spec L2
section
variable {X : Cx} {a b : Expr} {ma mb : Me} {pos : Pos}
end
end L3
set_option Elab.async false
set_option linter.all false
set_option maxRecDepth 100000
set_option maxHeartbeats 1000000
namespace SrtV
open PySem PySem.Spec PyProof.Rows TS
/-- the number of a tuple: its ints moved up by b -/
def num (b : Int) (l : List Int) : Int := code (2 * b + 1) (l.map fun x => x + b)
def Ok (b : Int) (l : List Int) : Prop := Bd (2 * b + 1) (l.map fun x => x + b)
section
variable {P : Program} {w : World} {A : Around} {E : Value → Shared → Prop} {s : Shared} {Q : Bool → Shared → Prop}
end
def Tups (h : Heap) (d : Nat) (b : Int) (vs : List Value) : Prop := ∀ v ∈ vs, ∃ l, TupInts h v l ∧ l.length = d ∧ Ok b l
theorem Tups.keep {h h' : Heap} {d : Nat} {b : Int} {vs : List Value} (x : Tups h d b vs) (k : ∀ a o, h.get? a = some o → o.cls = .type "tuple" → h'.get? a = some o) : Tups h' d b vs := fun v hv => by
  obtain ⟨l, t, r⟩ := x v hv
  exact ⟨l, t.keeps k, r⟩
section
variable {P : Program} {w : World} {A : Around} {E : Value → Shared → Prop} {s : Shared}
end
section
open PyProof.Rows
variable {P : Program} {w : World} {A : Around} {E : Value → Shared → Prop} {s : Shared}
end
end SrtV
namespace L3
open PySem PySem.Spec L2 PyProof.Rows
end L3
set_option Elab.async false
set_option linter.all false
set_option maxRecDepth 100000
namespace L3
open PySem PySem.Spec L2
section
variable {X : Cx}
end
end L3
set_option Elab.async false
set_option linter.all false
set_option maxRecDepth 100000
set_option maxHeartbeats 2000000
namespace SrtS
open PySem PyProof.Rows Srt SrtO
section
variable {prog : Program} {w : World} {A : Around} {E : Value → Shared → Prop} {s : Shared}
end
end SrtS
namespace L3
open PySem PySem.Spec L2 PyProof.Rows
end L3
set_option Elab.async false
set_option linter.all false
set_option maxRecDepth 100000
set_option maxHeartbeats 2000000
namespace L2
open PySem PySem.Spec PyProof.Rows PySem.Calls
abbrev veMro : List Value := [.type "ValueError", .type "Exception", .type "BaseException", .type "object"]
/-- self of C, then one value -/
def spSx (C : Addr) (fld : Str) : Sp := fun vs H Q _ => ∃ a y, vs = [.ref a, y] ∧ H a = some (exo a C none) ∧ ∀ dx, H dx = none → dx ≠ a → Q .non (upd (upd H dx (exd dx [(fld, y)])) a (exo a C (some dx)))
/-- what the written part says of the class and of its __init__ -/
structure SxF (P : Program) (K : PySem.W.Frag) (mg : Str → Option Value) (C cc cda : Addr) (fld : Str) : Prop where
  oex : OexC K C
  cod : ∃ ccl cdd vs ccs file tf, K.lookup cda = some ⟨ccl, cdd, .fields vs, ccs⟩ ∧ vs[2]? = some (.str file tf) ∧ ((P.main.file : Str) == file) = true
  cel : ∃ cl cld csl, K.lookup cc = some ⟨cl, cld, .cell (some (.ref C)), csl⟩
  mro : PySem.W.mroIn K C (.ref C) = some true
  any : PySem.W.nsIn K cStatics "thirdparty.any" = some none
  sup : PySem.W.ks_superIn K C C "__init__" = some (some (.builtin "ValueError.__init__"))
  sub : PySem.W.subIn K (.ref C) (.type "ValueError") = some true
  exi : PySem.W.excInitIn K C veMro "ValueError.__new__" = true
  fld : PySem.W.findIn K (.ref C) fld = some none
  sg : mg "super" = none
  top : (P.main.scope.names.lookup ("super" : Str)).isSome = false
abbrev sxCall (text : Str) (j0 : Nat) (p0 p1 p2 p3 q0 : Pos) : Expr := .Call (.Attribute (.Call (.Name "super" p0) [] [] p1) "__init__" p2) [.Constant (.str text) j0 q0] [] p3
theorem fn_sx {CX : CXT} {P : Program} {w : World} {K : PySem.W.Frag} {mg : Str → Option Value} {base : Heap} {k : Nat} {f C cc cda : Addr} {fld self arg text : Str} {name qual : Str} {params : Arguments} {scope : Scope} {dV kV doc pm ct oc : Value} {an od : Option Addr}
    {osl : Array (Option Value)} {j0 : Nat} {p0 p1 p2 p3 p4 p5 p6 p7 p8 q0 : Pos} {ar : Arg}
    (lk : K.lookup f = some ⟨oc, od, .func (PySem.W.ksFn name qual params [.Expr (.Call (.Attribute (.Call (.Name "super" p0) [] [] p1) "__init__" p2) [.Constant (.str text) j0 q0] [] p3) p4, .Assign [.Attribute (.Name self p5) fld p6] (.Name arg p7) p8] scope dV kV doc pm an (.ref cda) ct cc), osl⟩)
    (hcd : PySem.W.codeIn K (.ref cda) qual = true) (S : SxF P K mg C cc cda fld)
    (hp : (params.posonlyargs ++ params.args).head? = some ar) (ha : ar.arg = self) (hne : arg ≠ self)
    (hks : scope.names.lookup ("super" : Str) = some .globalImplicit) (hkc : scope.names.lookup ("__class__" : Str) = some .free) (hkS : scope.names.lookup self = some .local) (hkA : scope.names.lookup arg = some .local)
    (hcell : ∀ x ∈ scope.names, x.2 ≠ .cell) (hk : scope.kind = .function) (hco : scope.isCoroutine = false) (hgen : scope.isGenerator = false) 
    (hI : ∀ L, interactive (PySem.W.ksEnv qual scope L f (.ref cda) cc) = false)
    (hE : ∀ L, ∃ pl, eval (sxCall text j0 p0 p1 p2 p3 q0) (PySem.W.ksEnv qual scope L f (.ref cda) cc) = (do
      let ov ← attributeBase (.Call (.Name "super" p0) [] [] p1) "__init__" (PySem.W.ksEnv qual scope L f (.ref cda) cc) (eval (.Call (.Name "super" p0) [] [] p1) (PySem.W.ksEnv qual scope L f (.ref cda) cc))
      standAt p2.atName
      let (fx, first) ← holding [ov] (getMethod ov "__init__" pl)
      callWith p3 fx first (backTo p3 (starEach [.Constant (.str text) j0 q0] (PySem.W.ksEnv qual scope L f (.ref cda) cc))) []))
    (hs1 : ∀ L, swapsWith (sxCall text j0 p0 p1 p2 p3 q0) none p4.line (PySem.W.ksEnv qual scope L f (.ref cda) cc) = pure false)
    (hs2 : ∀ L, swapsWith (.Name arg p7) (some (.Attribute (.Name self p5) fld p6)) p8.line (PySem.W.ksEnv qual scope L f (.ref cda) cc) = pure false)
    (hdS : (self == ("__debug__" : Str)) = false) (hdA : (arg == ("__debug__" : Str)) = false) :
    FnOk P w K mg base CX (k + 1) f (PySem.W.ksFn name qual params [.Expr (.Call (.Attribute (.Call (.Name "super" p0) [] [] p1) "__init__" p2) [.Constant (.str text) j0 q0] [] p3) p4, .Assign [.Attribute (.Name self p5) fld p6] (.Name arg p7) p8] scope dV kV doc pm an (.ref cda) ct cc) [self, arg] (spSx C fld) := by
  refine ⟨fun vs H Q E ⟨a, y, e, _⟩ => by rw [e]; rfl, fun A outer s H args us vs Q E hr e0 hb r hsp => ?_⟩
  obtain ⟨a, y, rfl, ea, hq⟩ := hsp
  cases r with
  | @cons _ u0 _ ur ra r =>
  cases r with
  | @cons _ u _ ur ry r =>
  cases r
  obtain rfl : u0 = Value.ref a := ra
  have KX : K.In s.heap := e0.mod.kin.keeps fun b o e => (e0.bs b o e).1
  have lim : s.heap.NoLimit := e0.mod.nolimit.keeps fun b o e => (e0.bs b o e).1
  obtain ⟨t1, hoa⟩ := exo_at e0.hok ea
  obtain ⟨ccl, cdd, vs, ccs, file, tf, hcode, hvs, hfile⟩ := S.cod
  obtain ⟨cl, cld, csl, hcel⟩ := S.cel
  obtain ⟨nm, q, NN, bs, bm, sn, sub, ab, col, dd, k0, k1, k2, k3, k5, hC, hbm⟩ := S.oex.cls
  have hcl : PySem.W.clsIn K C = some { name := nm, bases := bs, mro := .ref C :: bm, ns := NN, qualname := q, hasDict := true, slotNames := sn, subclasses := sub, abstract := ab, collection := col, hasDel := false } := by unfold PySem.W.clsIn; rw [hC] <;> rfl
  refine PySem.ks_codeAny_call_defAt (binds := [self, arg].zip [.ref a, u]) hr.depth (KX _ _ lk) rfl lim (PySem.W.codeRec_of KX hcd) rfl hb hcell (fun x hx => ?_) (fun h₁ hns hk₁ => ?_) hco hgen hk
  · simp only [List.zip_cons_cons, List.zip_nil_right, List.mem_cons, List.not_mem_nil, or_false] at hx
    rcases hx with rfl | rfl
    · exact hkS
    · exact hkA
  have gk : ∀ b o, b ≠ a → s.heap.get? b = some o → (PySem.W.hideAll s.heap [a]).get? b = some o := fun b o n e => PySem.W.hideAll_get _ e (by simpa using n)
  have F : Fr (PySem.W.hideAll s.heap [a]) s.heap.objs.size h₁ (fun x => ([self, arg].zip [.ref a, u]).reverse.lookup x) := ⟨hns, fun b o e => hk₁ b o (PySem.W.of_hideAll _ e), Nat.le_of_eq (PySem.W.hideAll_size _ _)⟩
  have N : News (PySem.W.hideAll s.heap [a]) s.heap.objs.size h₁ [(a, PySem.W.excObj C t1 none .none)] := fun p hp => by
    obtain rfl := List.mem_singleton.mp hp
    exact ⟨hk₁ _ _ hoa, Nat.ne_of_lt (Heap.lt_size hoa), PySem.W.hideAll_none _ (by simp)⟩
  have ba : ∀ b o, base.get? b = some o → (PySem.W.hideAll s.heap [a]).get? b = some o := fun b o e => gk b o (fun z => by
    have z2 := (e0.bs b o e).2
    rw [z, ea] at z2
    cases z2) (e0.bs b o e).1
  have X₀ : K.In (PySem.W.hideAll s.heap [a]) := e0.mod.kin.keeps ba
  have mS : ([self, arg].zip [Value.ref a, u]).reverse.lookup self = some (.ref a) := by
    have e1 : (self == arg) = false := by simpa using fun z => hne z.symm
    simp [List.lookup, e1]
  have mA : ([self, arg].zip [Value.ref a, u]).reverse.lookup arg = some u := by simp [List.lookup]
  obtain ⟨mb, hmb, hbt⟩ := e0.mod.blt
  have hob : ∃ oD, s.heap.get? C = some oD ∧ oD.data = .cls { name := nm, bases := bs, mro := .ref C :: bm, ns := NN, qualname := q, hasDict := true, slotNames := sn, subclasses := sub, abstract := ab, collection := col, hasDel := false } := ⟨_, KX _ _ hC, rfl⟩
  obtain ⟨oD, hD1, hD2⟩ := hob
  have aC : a ≠ C := fun z => by
    rw [z] at hoa
    rw [hoa] at hD1
    cases hD1
    cases hD2
  have I1 : PySem.W.InstAt h₁ a (PySem.W.excObj C t1 none .none) C none := PySem.W.InstAt.of_exc0 N (by simp)
  obtain ⟨pl, hpl⟩ := hE s.heap.objs.size
  refine PySem.ks_wpAt_execs_cons (PySem.ks_wpAt_Expr_any (PySem.ks_wpAt_MethodCall (pl := pl) ?_ hpl) (hI _) (hs1 _))
  refine PySem.ks_wpAt_super_base (of := _) (fd := _) (ar := ar) (vs := vs) (file := file) (tf := tf) hks hkc (by decide) rfl (hk₁ _ _ (KX _ _ lk)) rfl hp rfl (hk₁ _ _ (KX _ _ hcode)) rfl hvs hfile S.top ?_
  refine PySem.W.ks_loadName_global hk hks (loadGlobal_builtin (mg := mg) (mb := mb) ((e0.mod.glob.keeps ba).keeps F.keep) S.sg ((hmb.keeps ba).keeps F.keep) ((hbt _ (by decide)).trans (show bootBuiltins "super" = some (.type "super") by first | rfl | decide +kernel | kernel_rfl)) ⟨rfl, ?_⟩)
  refine wpAny_loadName_free hk hkc rfl ⟨_, hk₁ _ _ (KX _ _ hcel), rfl⟩ ?_
  refine wpAny_loadName_local hk (by rw [ha]; exact hkS) hns (by rw [ha]; exact mS) ?_
  refine PySem.ks_wpAny_isType_cls (hk₁ _ _ hD1) hD2 ⟨rfl, ?_⟩
  refine PySem.ks_wpAny_call_super (hk₁ _ _ hD1) hD2 (hk₁ _ _ hoa) rfl (fun c z => by cases z) (PySem.W.looks_mroIn (KX.keeps hk₁) S.mro) (fun h2 e2 kk2 => ?_)
  obtain ⟨F2, N2, l2⟩ := PySem.W.ks_newsPush (s := { s with heap := h₁, toks := s.toks + 2 }) F N rfl e2 kk2
  refine PySem.W.kxs_method PySem.W.kxs_ValueError F2 X₀ N2 (List.mem_cons_self ..) (PySem.W.InstAt.of_exc0 N2 (List.mem_cons_of_mem _ (List.mem_cons_self ..))) S.any S.sup S.sub (by decide) (fun qm h3 F3 N3 l3 => ?_)
  refine PySem.W.kxs_callWith1 N3 (List.mem_cons_self ..) ?_
  refine spliced_more (wpAny_Constant_str (spliced_none ⟨PySem.W.kxs_at N3 (List.mem_cons_self ..), ?_⟩))
  have nso : a < h₁.objs.size := l2 _ (List.mem_cons_self ..)
  have nqm : a < qm := l3 _ (List.mem_cons_of_mem _ (List.mem_cons_self ..))
  refine PySem.W.kxs_call F3 X₀ N3 PySem.F.excBase_ValueError S.exi (List.mem_cons_self ..) (.tail (Nat.ne_of_gt nqm) (.tail (Nat.ne_of_gt nso) (.head fun p hp => absurd hp (by simp)))) (by rw [sizeLine_eq]; simp) (fun t2 h4 F4 N4 l4 => ?_)
  refine PySem.ks_wpAt_execs_cons (PySem.ks_wpAt_Assign_Attr ?_ (hs2 _))
  refine wpAt_of_wpAny (wpAny_Name (wpAny_loadName_local hk hkA F4.ns mA ?_) hdA)
  refine wpAny_Name (wpAny_loadName_local hk hkS F4.ns mS ?_) hdS
  have ho4 : h4.get? a = some (PySem.W.excObj C t2 none .none) := (N4 (a, PySem.W.excObj C t2 none .none) (by simp)).1
  refine PySem.W.set_plain (X₀.keeps F4.keep) (ox := PySem.W.excObj C t2 none .none) (od := none) ⟨ho4, rfl, rfl, trivial⟩ S.oex.sa ?_
  refine PySem.HandSPX.exc_osa (X₀.keeps F4.keep) ho4 hcl (show PySem.HandSPX.refsVE (.ref C :: bm) = true from hbm) rfl S.fld (fun h5 tk' dx kk5 dn dne hx hn => ?_)
  refine wpAt_of_wpAny (wpAny_execs_nil ?_)
  have szL : s.heap.objs.size ≤ dx := Nat.le_trans (Nat.le_of_lt F4.ns.lt) dn
  have k : ∀ b o, b ≠ a → s.heap.get? b = some o → h5.get? b = some o := fun b o n e => kk5 b o n (F4.keep b o (gk b o n e))
  have hnd : H dx = none := e0.hok.fresh szL
  have nd : ∀ {b : Addr} {o : Obj}, s.heap.get? b = some o → b ≠ dx := fun {b o} q => Nat.ne_of_lt (Nat.lt_of_lt_of_le (Heap.lt_size q) szL)
  have na : ∀ {b : Addr}, H b = none → b ≠ a := fun {b} n z => by
    rw [z, ea] at n
    cases n
  have Un1 : Un (frs outer) [] H (upd (upd H dx (exd dx [(fld, y)])) a (exo a C (some dx))) s.heap h5 := {
    keep := fun b o q n _ _ => k b o (na n) q
    slot := fun b o q n _ _ => ⟨o.slots, k b o (na n) q⟩
    free := fun b o q n _ => by rw [upd_ne (na n), upd_ne (nd q)]; exact n
    there := fun b o q _ => by
      by_cases hb : b = a
      · exact ⟨_, by rw [hb]; exact hx⟩
      · exact ⟨o, k b o hb q⟩
    tups := fun b xs q => by rw [upd_ne (at_ne ea q exo_tup), upd_ne (ne_of_none q hnd)]; exact q
    frzs := fun b o v q => by rw [upd_ne (at_ne ea q exo_frz), upd_ne (ne_of_none q hnd)]; exact q
    tbls := fun b ps q => ⟨#[], by rw [upd_ne (at_ne ea q exo_tbl), upd_ne (ne_of_none q hnd), q]; simp⟩ }
  have hok5 : HOk P w (upd (upd H dx (exd dx [(fld, y)])) a (exo a C (some dx))) h5 := fun b o q => by
    by_cases hb : b = a
    · subst hb
      rw [upd_same] at q
      cases q
      exact exo_ok hx
    · rw [upd_ne hb] at q
      by_cases hd : b = dx
      · subst hd
        rw [upd_same] at q
        cases q
        exact exd_ok hn (relO_put (fs := []) ry fun g => True.intro)
      · rw [upd_ne hd] at q
        exact (e0.hok b o q).stay (fun c v hc z => k c v (by
            rcases hc with hc | hc
            · rw [hc]
              exact hb
            · exact at_ne ea hc exo_own) z)
          (fun c hc => by rw [upd_ne (at_ne ea hc exo_own), upd_ne (ne_of_none hc hnd)]; exact hc) (fun c xs hc => by rw [upd_ne (at_ne ea hc exo_tup), upd_ne (ne_of_none hc hnd)]; exact hc)
  exact ⟨.non, _, rfl, e0.bare, Un1, hok5, rfl, hq dx hnd dne⟩
end L2
namespace L3
open PySem PySem.Spec L2
/-- the class c's own __init__(self, x) says super().__init__(text); self.f = x -/
def Kx1 (P : Program) (K : PySem.W.Frag) (mg : Str → Option Value) (c f : Str) : Prop :=
  ∃ C fI fd ps, mg c = some (.ref C) ∧ ExF K C ∧ OexC K C ∧ PySem.W.findIn K (.ref C) "__init__" = some (some (.ref fI)) ∧ PySem.W.typeIn K (.ref fI) = some (.type "function") ∧ Binds K fd ps [] ∧
    ∀ (w : World) (base : Heap), FnOk P w K mg base (fun _ _ _ _ _ _ => False) 1 fI fd ps (spSx C f)
/-- raise c(m) -/
def mRaise1 (c f : Str) (m : Me) (Wt : Wxs) : Ms := fun _ τ M => m τ M fun t M1 => ∃ x, t = .d x ∧ Wt { cls := c, arg := some (f, x) } τ M1
theorem w_raise1 {c f : Str} {m : Me} {Wt : Wxs} {E : Es} {τ : En} {M : Mem} (h : m τ M fun t M1 => ∃ x, t = .d x ∧ Wt { cls := c, arg := some (f, x) } τ M1) : mRaise1 c f m Wt E τ M := h
section
variable {X : Cx} {e : Expr} {m : Me} {x f : Str} {p pos pos2 : Pos} {k : Nat}
theorem msx_raise1 (hc : X.calm = true) (T : Kx1 X.prog X.K X.mg x f) (rm : Room k X.A) (hk : 2 ≤ k) (hg : Gl X x) (he : ME X e m) (hdb : (x == ("__debug__" : Str)) = false := by decide)
    (h1 : starEach [e] X.env = (false, eval e X.env) :: starEach [] X.env := by rfl) (hpl : (backTo pos (starEach [] X.env)).any (·.1) = false := by rfl) :
    MSX X (.Raise (some (.Call (.Name x p) [e] [] pos)) none pos2) (mRaise1 x f m) := fun W tk => by
  obtain ⟨C, fI, fd, ps, gC, F, O, iC, tI, hb, FO⟩ := T
  refine PS.of (ps_raise hc tk (pmk_oex (CX := fun _ _ _ _ _ _ => False) (ds := []) (dvs := []) O iC tI (FO X.w X.base) (rm.mono hk) hb .nil (fun _ _ _ _ _ _ _ z => z.elim) hg gC (pa_cons he pa_nil h1) hdb h1 hpl)) fun D σ H ⟨E, Wt, τ, M, B, h, w, sl, g, gs⟩ => ?_
  refine ⟨τ, M, B, _, h, w, sl, fun v t M1 B1 H1 ⟨y, et, hw⟩ w1 e1 r1 => ⟨by simp, fun a ha => ⟨a, v, rfl, upd_same, fun dx hdx ne => ⟨rfl, dx, _, upd_same, by rw [upd_ne ne, upd_same], ?_, ?_⟩⟩⟩⟩
  · rw [upd_ne ne] at hdx
    exact hdx
  · rw [upd_ne ne] at hdx
    have eH : upd (del (upd (upd (upd H1 a (exo a C none)) dx (exd dx [(f, v)])) a (exo a C (some dx))) a) dx (.xd [(f, v)]) = upd H1 dx (.xd [(f, v)]) := by
      funext b
      by_cases hb : b = dx
      · rw [hb, upd_same, upd_same]
      · rw [upd_ne hb, upd_ne hb]
        by_cases h2 : b = a
        · rw [h2, del_same, ha]
        · rw [del_ne h2, upd_ne h2, upd_ne hb, upd_ne h2]
    rw [eH]
    obtain ⟨w2, e2⟩ := w1.alloc hdx (.xd [(f, v)])
    subst et
    exact gs { cls := x, arg := some (f, y) } (.ref C) (some dx) τ M1 _ σ _ hw w2 (e1.trans e2) (sl.mono (e1.trans e2)) ⟨gC, dx, v, rfl, upd_same, Rt.mono e2 r1⟩
end
end L3
namespace L3
open PySem PySem.Spec L2 PyProof.Rows PySem.Calls
/-- the text of such an __init__ -/
structure SxT (f cda cc : Addr) (slf arg fld text qual : Str) (params : Arguments) (scope : Scope) (j0 : Nat) (p0 p1 p2 p3 p4 p5 p6 p7 p8 q0 : Pos) : Prop where
  par : ∃ ar, (params.posonlyargs ++ params.args).head? = some ar ∧ ar.arg = slf
  ne : arg ≠ slf
  ks : scope.names.lookup ("super" : Str) = some .globalImplicit
  kc : scope.names.lookup ("__class__" : Str) = some .free
  kS : scope.names.lookup slf = some .local
  kA : scope.names.lookup arg = some .local
  cell : ∀ x ∈ scope.names, x.2 ≠ .cell
  kind : scope.kind = .function
  co : scope.isCoroutine = false
  gen : scope.isGenerator = false
  dS : (slf == ("__debug__" : Str)) = false
  dA : (arg == ("__debug__" : Str)) = false
  hI : ∀ L, interactive (PySem.W.ksEnv qual scope L f (.ref cda) cc) = false
  hE : ∀ L, ∃ pl, eval (sxCall text j0 p0 p1 p2 p3 q0) (PySem.W.ksEnv qual scope L f (.ref cda) cc) = (do
      let ov ← attributeBase (.Call (.Name "super" p0) [] [] p1) "__init__" (PySem.W.ksEnv qual scope L f (.ref cda) cc) (eval (.Call (.Name "super" p0) [] [] p1) (PySem.W.ksEnv qual scope L f (.ref cda) cc))
      standAt p2.atName
      let (fx, first) ← holding [ov] (getMethod ov "__init__" pl)
      callWith p3 fx first (backTo p3 (starEach [.Constant (.str text) j0 q0] (PySem.W.ksEnv qual scope L f (.ref cda) cc))) [])
  hs1 : ∀ L, swapsWith (sxCall text j0 p0 p1 p2 p3 q0) none p4.line (PySem.W.ksEnv qual scope L f (.ref cda) cc) = pure false
  hs2 : ∀ L, swapsWith (.Name arg p7) (some (.Attribute (.Name slf p5) fld p6)) p8.line (PySem.W.ksEnv qual scope L f (.ref cda) cc) = pure false
abbrev sxFn (self arg fld text name qual : Str) (params : Arguments) (scope : Scope) (j0 : Nat) (p0 p1 p2 p3 p4 p5 p6 p7 p8 q0 : Pos) (dV kV doc pm : Value) (an : Option Addr) (cda : Addr) (ct : Value) (cc : Addr) : FuncData :=
  PySem.W.ksFn name qual params [.Expr (.Call (.Attribute (.Call (.Name "super" p0) [] [] p1) "__init__" p2) [.Constant (.str text) j0 q0] [] p3) p4, .Assign [.Attribute (.Name self p5) fld p6] (.Name arg p7) p8] scope dV kV doc pm an (.ref cda) ct cc
theorem kx1_of {P : Program} {K : PySem.W.Frag} {mg : Str → Option Value} {c : Str} {C fI cc cda : Addr} {fld self arg text name qual : Str} {params : Arguments} {scope : Scope} {j0 : Nat} {p0 p1 p2 p3 p4 p5 p6 p7 p8 q0 : Pos} {dV kV doc pm ct oc : Value} {an od : Option Addr} {osl : Array (Option Value)}
    {nm q : Str} {NN : Addr} {bs bm : List Value} {sn : List Str} {sub : List Value} {ab : Bool} {col : Option Bool} {dd : Option Addr} {k0 k1 k2 k3 k5 : Option Value}
    {ccl : Value} {cdd : Option Addr} {vs : Array Value} {ccs : Array (Option Value)} {file : Str} {tf : Tok} {cl : Value} {cld : Option Addr} {csl : Array (Option Value)}
    (gC : mg c = some (.ref C)) (E : ExF K C) (iC : PySem.W.findIn K (.ref C) "__init__" = some (some (.ref fI))) (tI : PySem.W.typeIn K (.ref fI) = some (.type "function"))
    (lC : K.lookup C = some (excClassObj nm q C NN bs bm true sn sub ab col dd k0 k1 k2 k3 k5 "ValueError.__new__")) (vb : PySem.HandSPX.refsVE bm = true)
    (sa : PySem.W.findIn K (.ref C) "__setattr__" = some (some (.builtin "object.__setattr__")))
    (lI : K.lookup fI = some ⟨oc, od, .func (sxFn self arg fld text name qual params scope j0 p0 p1 p2 p3 p4 p5 p6 p7 p8 q0 dV kV doc pm an cda ct cc), osl⟩)
    (hcd : PySem.W.codeIn K (.ref cda) qual = true) (lD : K.lookup cda = some ⟨ccl, cdd, .fields vs, ccs⟩) (hvs : vs[2]? = some (.str file tf)) (hfile : ((P.main.file : Str) == file) = true)
    (lc : K.lookup cc = some ⟨cl, cld, .cell (some (.ref C)), csl⟩) (mro : PySem.W.mroIn K C (.ref C) = some true) (any : PySem.W.nsIn K cStatics "thirdparty.any" = some none)
    (sup : PySem.W.ks_superIn K C C "__init__" = some (some (.builtin "ValueError.__init__"))) (sub' : PySem.W.subIn K (.ref C) (.type "ValueError") = some true) (exi : PySem.W.excInitIn K C veMro "ValueError.__new__" = true)
    (fl : PySem.W.findIn K (.ref C) fld = some none) (sg : mg "super" = none) (top : (P.main.scope.names.lookup ("super" : Str)).isSome = false)
    (T : SxT fI cda cc self arg fld text qual params scope j0 p0 p1 p2 p3 p4 p5 p6 p7 p8 q0)
    (hb : Binds K (sxFn self arg fld text name qual params scope j0 p0 p1 p2 p3 p4 p5 p6 p7 p8 q0 dV kV doc pm an cda ct cc) [self, arg] []) : Kx1 P K mg c fld := by
  obtain ⟨ar, ha1, ha2⟩ := T.par
  have O : OexC K C := ⟨⟨nm, q, NN, bs, bm, sn, sub, ab, col, dd, k0, k1, k2, k3, k5, lC, vb⟩, sa, E.su, E.ty, E.kp⟩
  exact ⟨C, fI, _, [self, arg], gC, E, O, iC, tI, hb, fun w base => fn_sx lI hcd ⟨O, ⟨ccl, cdd, vs, ccs, file, tf, lD, hvs, hfile⟩, ⟨cl, cld, csl, lc⟩, mro, any, sup, sub', exi, fl, sg, top⟩ ha1 ha2 T.ne T.ks T.kc T.kS T.kA T.cell T.kind T.co T.gen T.hI T.hE T.hs1 T.hs2 T.dS T.dA⟩
end L3
set_option Elab.async false
set_option linter.all false
set_option maxRecDepth 100000
set_option maxHeartbeats 2000000
namespace L3
open PySem PySem.Spec L2
end L3
set_option Elab.async false
set_option linter.all false
set_option maxRecDepth 100000
set_option maxHeartbeats 2000000
namespace L3
open PySem PySem.Spec L2
open PyProof.Rows (AllBare)
/-- an exception that has come to the frame of its try, the heap as it is now -/
structure Ld (X : Cx) (pins : List (Addr × Obj)) (a : Addr) (cls : Value) (d : Option Addr) (B : Heap) (s0 : Shared) (σ : St) (H : Hp) (s : Shared) : Prop where
  ok : X.Ok
  inv : Inv X pins σ H s0
  nb : ∀ b o, s0.heap.get? b = some o → b ∉ frs X.stack → B.get? b = some o
  up : s0.heap.UpToSlots s.heap
  fl : HandSPX.FlyingZ B (X.env :: X.outer) a (Zc cls d) s.heap
  na : H a = none
  os : s.os = s0.os
  bare : AllBare s.gens
section
variable {X : Cx} {pins : List (Addr × Obj)} {a : Addr} {cls : Value} {d : Option Addr} {B : Heap} {s0 s : Shared} {σ : St} {H : Hp}
theorem Ld.now (l : Ld X pins a cls d B s0 σ H s) : Inv X pins σ H s := l.inv.landed l.nb l.fl.1 l.up l.os l.bare
theorem Ld.on {h' : Heap} (l : Ld X pins a cls d B s0 σ H s) (f : HandSPX.FlyingZ B (X.env :: X.outer) a (Zc cls d) h') (u : s.heap.UpToSlots h') : Ld X pins a cls d B s0 σ H { s with heap := h' } :=
  ⟨l.ok, l.inv, l.nb, l.up.trans u, f, l.na, l.os, l.bare⟩
theorem Ld.in_ (l : Ld X pins a cls d B s0 σ H s) (hf : X.env.frame = some X.env.locals) : ∃ oe : Obj, s.heap.get? a = some oe ∧ Zc cls d oe ∧ (∃ vs, oe.data = .fields vs) ∧ Inv (X.suite a ((a, oe) :: (X.pn ++ pins))) [] σ H s := by
  obtain ⟨oe, vs, h1, h2, h3⟩ := l.fl.there
  have out : a ∉ frs (X.env :: X.outer) := fun z => by
    obtain ⟨_, o2, g1, g2⟩ := l.fl.2.2.1.mem z
    rw [h1] at g1
    injection g1 with g1
    exact g2 vs (g1 ▸ h3)
  refine ⟨oe, h1, h2, ⟨vs, h3⟩, l.now.suite h1 h3 l.na (fun z => out ?_) fun z => out ?_⟩
  · rw [z]
    exact List.mem_filterMap.mpr ⟨_, .head _, hf⟩
  · obtain ⟨e, i, j⟩ := List.mem_filterMap.mp z
    exact List.mem_filterMap.mpr ⟨e, .tail _ i, j⟩
/-- clauses with names, and what they wish together -/
inductive HsN (X : Cx) : List ExceptHandler → (Ends → WX) → Prop
  | nil : HsN X [] fun _ _ _ _ _ => False
  | cons {x n : Str} {c : Value} {i : Nat} {ts : Addr → Value → Option Addr → TS} {b : Stmt} {su : List Stmt} {p1 p2 : Pos} {hds : List ExceptHandler} {u : Ends → WX}
      (hi : X.N[i]? = some n) (hl : X.env.kindOf n = some .local) (hc : Names X x c)
      (hs : ∀ (a : Addr) (oe : Obj) (cls : Value) (d : Option Addr) (pn : List (Addr × Obj)), Zc cls d oe → (∃ vs, oe.data = .fields vs) → PSs (X.suite a ((a, oe) :: pn)) (b :: su) (ts a cls d))
      (r : HsN X hds u) : HsN X (.ExceptHandler (some (.Name x p1)) (some n) (b :: su) p2 :: hds) fun D => wAs X.K c i ts (u D) D
theorem HsN.run {D : Ends} (hf : X.env.frame = some X.env.locals) (hN : X.N.Nodup) {hds : List ExceptHandler} {u : Ends → WX} (k : HsN X hds u) (l : Ld X pins a cls d B s0 σ H s) :
    u D cls d σ H → wpAny (model X.prog X.w) X.A (handleBy (.ref a) X.env hds) (SP X pins D) X.xe s := by
  induction k with
  | nil => exact fun z => z.elim
  | @cons x n c i ts b su p1 p2 hds u hi hl hc hs r ih =>
    rintro ⟨t, ht, yes, no⟩
    obtain ⟨oe, h1, h2, _, S⟩ := l.in_ hf
    refine wpAny_handleBy_cons (codeAny_handlers_test ?_) (fun z => nomatch z)
    have ty : PySem.W.Looks (model X.prog X.w) s.heap (typeOf (.ref a)) cls := fun _ _ _ _ g q => wpAny_typeOf_ref (g a oe h1) (h2.1.symm ▸ q)
    have mt := PySem.W.exm_one (M := model X.prog X.w) l.now.kIn ty ht
    have nm : ∀ {Q F : Value → Shared → Prop}, Q c s → wpAny (model X.prog X.w) (X.A.mark (some (.ref a))) (eval (.Name x p1) X.env) Q F s := fun {Q F} q => by
      rcases hc with ⟨g, nd, g1 | ⟨g1, g2, g3⟩⟩
      · exact ld_glob (X := X.suite a ((a, oe) :: (X.pn ++ pins))) S g g1 q nd
      · exact ld_blt (X := X.suite a ((a, oe) :: (X.pn ++ pins))) S g g1 g2 q g3 nd
    refine nm (mt.here ?_)
    cases t with
    | false => exact ih (no rfl)
    | true =>
      refine codeAny_handlers_suite_as (HandSPX.lands_againZ l.fl fun h' f' u' => ?_)
      have l2 := l.on f' u'
      obtain ⟨oe2, _, z2, dt2, S2⟩ := l2.in_ hf
      refine store_ok (X := X.suite a ((a, oe2) :: (X.pn ++ pins))) (v := .ref a) S2 hN hi (.inl hl) rfl (fun s5 S5 => ?_) (.inr hl)
      have go := (hs a oe2 cls d (X.pn ++ pins) z2 dt2).run [] s5 _ H _ S5 (yes rfl a l.na)
      refine wpAny_mono go (fun f s6 hsp => ?_) fun _ _ z => z.elim
      have leave : ∀ {τ : St} {G : Hp} {Q : Shared → Prop}, Inv (X.suite a ((a, oe2) :: (X.pn ++ pins))) [] τ G s6 → (∀ s7, Inv X pins (τ.set i none) G s7 → Q s7) →
          wpAny (model X.prog X.w) X.A (do bindName X.env n .none; unbindBehindTheSuite X.env n p2) (fun _ s7 => Q s7) X.xe s6 := fun {τ G Q} iv q => gone_ok (iv.unsuite l.ok) hN hi hl q
      cases f with
      | ret v =>
        obtain ⟨w, τ, G, iv, rv, q⟩ := hsp
        exact leave iv fun s7 j => ⟨w, _, G, j, rv, q⟩
      | next =>
        obtain ⟨τ, G, iv, q⟩ := hsp
        exact leave iv fun s7 j => ⟨_, G, j, q⟩
      | brk =>
        obtain ⟨τ, G, iv, q⟩ := hsp
        exact leave iv fun s7 j => ⟨_, G, j, q⟩
      | cont =>
        obtain ⟨τ, G, iv, q⟩ := hsp
        exact leave iv fun s7 j => ⟨_, G, j, q⟩
end
section
variable {X : Cx} {x1 x2 n1 n2 : Str} {c1 c2 : List Str} {i1 i2 : Nat} {body u1 u2 : List Stmt} {b1 b2 : Stmt} {p1 p2 q1 q2 pos : Pos} {mb : MsX} {m1 m2 : Addr → Value → Option Addr → Exn → Ms}
end
end L3
namespace L3
open PySem PySem.Spec L2
end L3
set_option Elab.async false
set_option linter.all false
set_option maxRecDepth 100000
set_option maxHeartbeats 2000000
namespace L3
open PySem PySem.Spec L2
abbrev Ents := List (NestedKey × Addr × V)
section
variable {X : Cx}
end
section
variable {P : Program} {w : World} {K : PySem.W.Frag} {tg : Expr} {d : Addr} {o : Obj} {es : Ents} {ds : Array DictEntry} {ep : Nat}
end
end L3
set_option Elab.async false
set_option linter.all false
set_option maxRecDepth 100000
set_option maxHeartbeats 2000000
namespace Itc
open PySem PySem.Spec
open Sem (wp)
open AutoSeq1 (wpAny_loadPart')
end Itc
set_option Elab.async false
set_option linter.all false
set_option maxRecDepth 100000
set_option maxHeartbeats 2000000
namespace Itc
open PySem PySem.Spec
open Sem (wp)
open AutoSeq1 (wpAny_loadPart')
end Itc
set_option Elab.async false
set_option linter.all false
set_option maxRecDepth 100000
set_option maxHeartbeats 2000000
namespace Itc
open PySem PySem.Spec
open Sem (wp)
open AutoSeq1 (wpAny_loadPart')
section
variable {prog : Program} {w : World} {A : Around} {E : Value → Shared → Prop} {s : Shared}
end
end Itc
set_option Elab.async false
set_option linter.all false
set_option maxRecDepth 100000
set_option maxHeartbeats 2000000
namespace Itc
open PySem PySem.Spec
open Sem (wp)
open AutoSeq1 (wpAny_loadPart')
section
variable {prog : Program} {w : World} {A : Around} {E : Value → Shared → Prop} {s : Shared}
end
end Itc
set_option Elab.async false
set_option linter.all false
set_option maxRecDepth 100000
set_option maxHeartbeats 2000000
namespace L3
open PySem PySem.Spec L2
section
open PyProof.Rows HT
variable {X : Cx} {pn : List (Addr × Obj)} {sg : L2.St} {hp : Hp} {sh : Shared} {tg : Expr}
end
end L3
set_option Elab.async false
set_option linter.all false
set_option maxRecDepth 100000
set_option maxHeartbeats 2000000
namespace L3
open PySem PySem.Spec L2
section
open PyProof.Rows HT
variable {X : Cx} {tg e e2 : Expr} {mr : Ma} {p pos : Pos}
end
end L3
set_option Elab.async false
set_option linter.all false
set_option maxRecDepth 100000
set_option maxHeartbeats 2000000
namespace L3
open PySem PySem.Spec L2 PySem.W PyProof.Rows
section
variable {X : Cx} {e : Expr} {mr : Ma} {p pos kpos cpos : Pos} {j k : Nat}
end
end L3
set_option Elab.async false
set_option linter.all false
set_option maxRecDepth 100000
set_option maxHeartbeats 2000000
namespace L3
open PySem PySem.Spec L2
section
open PyProof.Rows HT
variable {X : Cx} {e : Expr} {te : L2.St → Hp → (Int → Int → Hp → Prop) → Prop}
end
end L3
set_option Elab.async false
set_option linter.all false
set_option maxRecDepth 100000
set_option maxHeartbeats 2000000
namespace L3
open PySem PySem.Spec L2
section
open PyProof.Rows
variable {prog : Program} {w : World} {A : Around} {E : Value → Shared → Prop} {s : Shared} {l : Addr}
end
section
variable {X : Cx} {e : Expr} {es : List Expr} {mr : Ma} {p pos : Pos}
end
end L3
set_option Elab.async false
set_option linter.all false
set_option maxRecDepth 100000
set_option maxHeartbeats 2000000
namespace L3
open PySem PySem.Spec L2 PySem.W
section
variable {X : Cx} {e : Expr} {body : List Stmt} {elts : List Expr} {kk : Nat} {tpos apos cpos pos : Pos} {os : List Nat} {g : Mg} {b : Ms} {s : Nat}
end
end L3
set_option Elab.async false
set_option linter.all false
set_option maxRecDepth 100000
set_option maxHeartbeats 2000000
namespace L3
open PySem PySem.Spec L2 PySem.W
def lookK (kvs : List (PyData × T)) (k : NestedKey) : Option T := (kvs.find? fun kv => decide (nk kv.1 = some k)).map (·.2)
def putK (kvs : List (PyData × T)) (d : PyData) (k : NestedKey) (t : T) : List (PyData × T) :=
  if (lookK kvs k).isSome then kvs.map fun kv => if nk kv.1 = some k then (kv.1, t) else kv else kvs ++ [(d, t)]
abbrev KdT (K : PySem.W.Frag) (B : Bk) (es : List (NestedKey × Addr × V)) (kvs : List (PyData × T)) : Prop := Paired (fun (p : NestedKey × Addr × V) (q : PyData × T) => nk q.1 = some p.1 ∧ okKey 8 p.1 = true ∧ Rp K B.G (.ref p.2.1) q.1 ∧ Rt K { B with l := [] } p.2.2 q.2) es kvs
theorem nk_iff {d : PyData} {p k : NestedKey} (f : nk d = some p) : nk d = some k ↔ p = k := by
  rw [f]
  exact ⟨fun h => Option.some.inj h, fun h => by rw [h]⟩
theorem KdT.look {K : PySem.W.Frag} {B : Bk} {es : List (NestedKey × Addr × V)} {kvs : List (PyData × T)} (r : KdT K B es kvs) (k : NestedKey) : (lookE es k).isSome = (lookK kvs k).isSome ∧ ∀ t, lookK kvs k = some t → ∃ v, lookE es k = some v ∧ Rt K { B with l := [] } v t := by
  unfold KdT at r
  induction r with
  | nil => exact ⟨rfl, fun t e => (nomatch e)⟩
  | @cons p q ps qs f _ ih =>
    by_cases z : p.1 = k
    · have e1 : lookE (p :: ps) k = some p.2.2 := by simp [lookE, List.find?_cons, z]
      have e2 : lookK (q :: qs) k = some q.2 := by simp [lookK, List.find?_cons, (nk_iff f.1).mpr z]
      rw [e1, e2]
      exact ⟨rfl, fun t e => by cases e; exact ⟨_, rfl, f.2.2.2⟩⟩
    · have z2 : ¬ nk q.1 = some k := fun y => z ((nk_iff f.1).mp y)
      have e1 : lookE (p :: ps) k = lookE ps k := by simp [lookE, List.find?_cons, z]
      have e2 : lookK (q :: qs) k = lookK qs k := by simp [lookK, List.find?_cons, z2]
      rw [e1, e2]
      exact ih
theorem KdT.repl {K : PySem.W.Frag} {B : Bk} {es : List (NestedKey × Addr × V)} {kvs : List (PyData × T)} (r : KdT K B es kvs) (k : NestedKey) {v : V} {t : T} (rv : Rt K { B with l := [] } v t) :
    KdT K B (es.map fun e => if e.1 = k then (e.1, e.2.1, v) else e) (kvs.map fun kv => if nk kv.1 = some k then (kv.1, t) else kv) := by
  unfold KdT at r
  induction r with
  | nil => exact .nil
  | @cons p q ps qs f _ ih =>
    refine .cons ?_ ih
    by_cases z : p.1 = k
    · have e1 : (fun e : NestedKey × Addr × V => if e.1 = k then (e.1, e.2.1, v) else e) p = (p.1, p.2.1, v) := if_pos z
      have e2 : (fun kv : PyData × T => if nk kv.1 = some k then (kv.1, t) else kv) q = (q.1, t) := if_pos ((nk_iff f.1).mpr z)
      rw [e1, e2]
      exact ⟨f.1, f.2.1, f.2.2.1, rv⟩
    · have e1 : (fun e : NestedKey × Addr × V => if e.1 = k then (e.1, e.2.1, v) else e) p = p := if_neg z
      have e2 : (fun kv : PyData × T => if nk kv.1 = some k then (kv.1, t) else kv) q = q := if_neg fun y => z ((nk_iff f.1).mp y)
      rw [e1, e2]
      exact f
theorem KdT.put {K : PySem.W.Frag} {B : Bk} {es : List (NestedKey × Addr × V)} {kvs : List (PyData × T)} (r : KdT K B es kvs) {d : PyData} {k : NestedKey} {b : Addr} (hd : nk d = some k) (hk : okKey 8 k = true) (hb : Rp K B.G (.ref b) d) {v : V} {t : T} (rv : Rt K { B with l := [] } v t) :
    KdT K B (putE es k b v) (putK kvs d k t) := by
  unfold putE putK
  rw [(r.look k).1]
  split
  · exact r.repl k rv
  · exact Paired.snoc r ⟨hd, hk, hb, rv⟩
theorem KdT.at {K : PySem.W.Frag} {B : Bk} {M : Mem} {H : Hp} {es : List (NestedKey × Addr × V)} {kvs : List (PyData × T)} (w : Wd K B M H) (r : KdT K B es kvs) : ∀ e ∈ es, KeyAt K H e.2.1 e.1 := by
  unfold KdT at r
  induction r with
  | nil => intro e he; cases he
  | @cons p q ps qs f _ ih =>
    intro e he
    rcases List.mem_cons.mp he with z | he
    · subst z
      exact ⟨f.2.1, _, f.1, w.rp f.2.2.1⟩
    · exact ih e he
/-- a tree that is a tuple, and the key that it is -/
def keyK (y : T) (d : PyData) (k : NestedKey) : Prop := (∃ ds, d = .tuple ds) ∧ y = .d d ∧ nk d = some k ∧ okKey 8 k = true
theorem keyK_at {K : PySem.W.Frag} {B : Bk} {y : V} {t : T} {d : PyData} {k : NestedKey} (r : Rt K B y t) (h : keyK t d k) : ∃ b, y = .ref b ∧ nk d = some k ∧ okKey 8 k = true ∧ Rp K B.G (.ref b) d := by
  obtain ⟨⟨ds, rfl⟩, rfl, hn, hk⟩ := h
  have r' : Rp K B.G y (.tuple ds) := r
  cases r' with
  | tup e q => exact ⟨_, rfl, hn, hk, .tup e q⟩
def mKGet2 (d y z : Me) : Me := fun τ M Q => d τ M fun x M1 => (∃ i kvs, x = .mr i ∧ M1.D[i]? = some (.dnd kvs)) ∧ y τ M1 fun y M2 => z τ M2 fun z M3 => ∃ i dk k kvs, x = .mr i ∧ keyK y dk k ∧ M3.D[i]? = some (.dnd kvs) ∧ noL z = true ∧ Q ((lookK kvs k).getD z) M3
def mKPut (d k v : Me) : Ms := fun E τ M => v τ M fun t M1 => d τ M1 fun x M2 => k τ M2 fun y M3 => ∃ i dk k kvs, x = .mr i ∧ keyK y dk k ∧ M3.D[i]? = some (.dnd kvs) ∧ noL t = true ∧ kvs.length < sizeLine ∧ E.nx τ { M3 with D := M3.D.set i (.dnd (putK kvs dk k t)) }
def mKNew : Me := fun _ M Q => Q (.mr M.D.length) { M with D := M.D ++ [.dnd []] }
section
variable {X : Cx} {o i e f value : Expr} {mo mi mv mz : Me} {pos pos' apos cpos : Pos} {kk : Nat}
theorem dk_wd {K : PySem.W.Frag} {B : Bk} {M : Mem} {H : Hp} (w : Wd K B M H) {x : V} {n : Nat} {kvs : List (PyData × T)} (r : Rt K B x (.mr n)) (hD : M.D[n]? = some (.dnd kvs)) : ∃ a es, x = .ref a ∧ B.r[n]? = some a ∧ DnAt K H a es ∧ KdT K B es kvs := by
  obtain ⟨a, rfl, ha⟩ := r
  obtain ⟨_, es, e, q⟩ := w.dc _ _ _ ha hD
  exact ⟨a, es, rfl, ha, ⟨e, KdT.at w q⟩, q⟩
theorem me_knew : ME X (.Dict [] [] pos) mKNew := ⟨fun pins s σ H Q' iv ⟨τ, M, B, Q, h, w, sl, k⟩ => by
  have hp := iv.hok.fresh (Nat.le_refl s.heap.objs.size)
  obtain ⟨w2, e2⟩ := w.newD hp (o := .ext (DNok s.heap.objs.size [])) (c := .dnd []) fun H' eH => ⟨[], eH, .nil⟩
  exact wpAny_Dict_empty ⟨.ref s.heap.objs.size, _, iv.laid (a := s.heap.objs.size) (t' := s.toks) (fun _ _ q => Heap.get?_push_of_some _ q) (Nat.le_refl _) (dno_ok (dn_new X.w iv.big)), rfl, k _ _ _ _ _ h w2 e2 ⟨_, rfl, by rw [← w.rlen]; exact get_snoc⟩⟩⟩
theorem ms_kput (rm : Room kk X.A) (ho : ME X o mo) (hi : ME X i mi) (hv : ME X value mv) (hs : swapsWith value (some (.Subscript o i pos')) pos.line X.env = pure false := by rfl) :
    MS X (.Assign [.Subscript o i pos'] value pos) (mKPut mo mi mv) := by
  refine ⟨fun pins s σ H D iv ⟨E, τ, M, B, h, w, sl, g⟩ => ?_⟩
  let P1 := fun (x : V) (H1 : Hp) => ∃ t M1 B1, (mo τ M1 fun x M2 => mi τ M2 fun y M3 => ∃ i dk k kvs, x = .mr i ∧ keyK y dk k ∧ M3.D[i]? = some (.dnd kvs) ∧ noL t = true ∧ kvs.length < sizeLine ∧ E.nx τ { M3 with D := M3.D.set i (.dnd (putK kvs dk k t)) }) ∧ Wd X.K B1 M1 H1 ∧ Ext B H B1 H1 ∧ Rt X.K B1 x t
  refine wpAny_Assign_Subscript (thn (hv.run pins s σ H P1 iv ⟨τ, M, B, _, h, w, sl, fun v t M1 B1 H1 h1 w1 e1 r1 => ⟨t, M1, B1, h1, w1, e1, r1⟩⟩) fun vu s1 ⟨v, H1, I1, rv, t, M1, B1, h1, w1, e1, r1⟩ => ?_) hs
  let P2 := fun (x : V) (H2 : Hp) => ∃ tx M2 B2, (mi τ M2 fun y M3 => ∃ i dk k kvs, tx = .mr i ∧ keyK y dk k ∧ M3.D[i]? = some (.dnd kvs) ∧ noL t = true ∧ kvs.length < sizeLine ∧ E.nx τ { M3 with D := M3.D.set i (.dnd (putK kvs dk k t)) }) ∧ Wd X.K B2 M2 H2 ∧ Ext B1 H1 B2 H2 ∧ Rt X.K B2 x tx
  refine thn (ho.run pins s1 σ H1 P2 I1 ⟨τ, M1, B1, _, h1, w1, sl.mono e1, fun v t M2 B2 H2 h2 w2 e2 r2 => ⟨t, M2, B2, h2, w2, e2, r2⟩⟩) fun u s2 ⟨x, H2, I2, rx, tx, M2, B2, h2, w2, e2, r2⟩ => ?_
  let P3 := fun (y : V) (H3 : Hp) => ∃ ty M3 B3, (∃ i dk k kvs, tx = .mr i ∧ keyK ty dk k ∧ M3.D[i]? = some (.dnd kvs) ∧ noL t = true ∧ kvs.length < sizeLine ∧ E.nx τ { M3 with D := M3.D.set i (.dnd (putK kvs dk k t)) }) ∧ Wd X.K B3 M3 H3 ∧ Ext B2 H2 B3 H3 ∧ Rt X.K B3 y ty
  refine thn (hi.run pins s2 σ H2 P3 I2 ⟨τ, M2, B2, _, h2, w2, (sl.mono e1).mono e2, fun v t M3 B3 H3 h3 w3 e3 r3 => ⟨t, M3, B3, h3, w3, e3, r3⟩⟩) fun iu s3 ⟨y, H3, I3, ry, ty, M3, B3, ⟨n, dk, k, kvs, ex, hk, hD, hno, hlen, hQ⟩, w3, e3, r3⟩ => ?_
  subst ex
  obtain ⟨a, es, rfl, ha, hd, hn⟩ := dk_wd w3 (Rt.mono e3 r2) hD
  obtain ⟨b, rfl, hnk, hk8, hb⟩ := keyK_at r3 hk
  obtain rfl : u = Value.ref a := rx
  obtain rfl : iu = Value.ref b := ry
  have rt := Rt.deck hno (Rt.mono e3 (Rt.mono e2 r1))
  refine dn_set (by have := rm.un; omega) I3 hd ⟨hk8, _, hnk, w3.rp hb⟩ (by rw [Paired.length hn]; exact hlen) rv fun s4 I4 => ?_
  obtain ⟨w4, e4⟩ := w3.setD ha hD (o := .ext (DNok a (putE es k b v))) (c := .dnd (putK kvs dk k t)) fun H' eH => ⟨_, eH, hn.put hnk hk8 hb rt⟩
  have e14 := e1.trans (e2.trans (e3.trans e4))
  exact ⟨σ, _, I4, g.nx _ _ _ _ _ hQ w4 e14 (sl.mono e14)⟩
theorem me_kget2 (rm : Room kk X.A) (ho : ME X o mo) (he : ME X e mi) (hf : ME X f mz) (m : M2 X o "get" apos e f cpos) : ME X (.Call (.Attribute o "get" apos) [e, f] [] cpos) (mKGet2 mo mi mz) := by
  refine ⟨fun pins s σ H Q' iv ⟨τ, M, B, Q, h, w, sl, kc⟩ => ?_⟩
  let P1 := fun (x : V) (H1 : Hp) => ∃ tx M1 B1, ((∃ i kvs, tx = .mr i ∧ M1.D[i]? = some (.dnd kvs)) ∧ mi τ M1 fun y M2 => mz τ M2 fun z M3 => ∃ i dk k kvs, tx = .mr i ∧ keyK y dk k ∧ M3.D[i]? = some (.dnd kvs) ∧ noL z = true ∧ Q ((lookK kvs k).getD z) M3) ∧ Wd X.K B1 M1 H1 ∧ Ext B H B1 H1 ∧ Rt X.K B1 x tx
  refine wpAny_Call_method m.base m.few m.line PySem.F.plainAttrs_dict PySem.F.slot_dict_get PySem.F.type_dict_get (thn (ho.run pins s σ H P1 iv ⟨τ, M, B, _, h, w, sl, fun v t M1 B1 H1 h1 w1 e1 r1 => ⟨t, M1, B1, h1, w1, e1, r1⟩⟩) fun u s1 ⟨x, H1, I1, rx, tx, M1, B1, ⟨⟨n, kvs0, ex, hD0⟩, h1⟩, w1, e1, r1⟩ => ?_)
  subst ex
  obtain ⟨a, es0, rfl, ha0, hd0, hn0⟩ := dk_wd w1 r1 hD0
  obtain rfl : u = Value.ref a := rx
  refine ⟨dn_ty I1 hd0, fun b hb => ?_, ?_⟩
  · cases hb
    obtain ⟨_, _, _, xs, _, ob, _, _, g1, g2, _⟩ := dn_dict I1 hd0
    exact ⟨ob, g1, g2.2.1⟩
  rw [m.trees]
  let P2 := fun (y : V) (H2 : Hp) => ∃ ty M2 B2, (mz τ M2 fun z M3 => ∃ i dk k kvs, T.mr n = .mr i ∧ keyK ty dk k ∧ M3.D[i]? = some (.dnd kvs) ∧ noL z = true ∧ Q ((lookK kvs k).getD z) M3) ∧ Wd X.K B2 M2 H2 ∧ Ext B1 H1 B2 H2 ∧ Rt X.K B2 y ty
  refine Calls.callWith_builtin rfl (Calls.evalArgs_plain (Calls.spliced_cons (thn (he.run pins s1 σ H1 P2 I1 ⟨τ, M1, B1, _, h1, w1, sl.mono e1, fun v t M2 B2 H2 h2 w2 e2 r2 => ⟨t, M2, B2, h2, w2, e2, r2⟩⟩) fun iu s2 ⟨y, H2, I2, ry, ty, M2, B2, h2, w2, e2, r2⟩ => ?_)))
  let P3 := fun (z : V) (H3 : Hp) => ∃ tz M3 B3, (∃ i dk k kvs, T.mr n = .mr i ∧ keyK ty dk k ∧ M3.D[i]? = some (.dnd kvs) ∧ noL tz = true ∧ Q ((lookK kvs k).getD tz) M3) ∧ Wd X.K B3 M3 H3 ∧ Ext B2 H2 B3 H3 ∧ Rt X.K B3 z tz
  refine Calls.spliced_cons (thn (hf.run pins s2 σ H2 P3 I2 ⟨τ, M2, B2, _, h2, w2, (sl.mono e1).mono e2, fun v t M3 B3 H3 h3 w3 e3 r3 => ⟨t, M3, B3, h3, w3, e3, r3⟩⟩) fun zu s3 ⟨z, H3, I3, rz, tz, M3, B3, ⟨n2, dk, k, kvs, en, hk, hD, hno, hQ⟩, w3, e3, r3⟩ => Calls.spliced_nil ?_)
  cases en
  obtain ⟨a2, es, ea, ha, hd, hn⟩ := dk_wd w3 (Rt.mono e3 (Rt.mono e2 r1)) hD
  cases ea
  obtain ⟨b, rfl, hnk, hk8, hb⟩ := keyK_at (Rt.mono e3 r2) hk
  obtain rfl : iu = Value.ref b := ry
  refine dn_get2 (by have := rm.un; omega) I3 hd ⟨hk8, _, hnk, w3.rp hb⟩ rz fun w' s4 I4 rw' => ⟨_, H3, I4, rw', ?_⟩
  refine kc _ ((lookK kvs k).getD tz) M3 B3 H3 hQ w3 (e1.trans (e2.trans e3)) ?_
  have lk := hn.look k
  cases hl : lookK kvs k with
  | none =>
    rw [hl] at lk
    have : lookE es k = none := by
      cases q : lookE es k with
      | none => rfl
      | some y => rw [q] at lk; cases lk.1
    rw [this]
    exact r3
  | some t =>
    obtain ⟨v, hv, rv⟩ := lk.2 t hl
    rw [hv]
    exact rv.undeck
end
end L3
set_option Elab.async false
set_option linter.all false
set_option maxRecDepth 100000
set_option maxHeartbeats 2000000
namespace L3
open PySem PySem.Spec L2 PySem.W
section
variable {P : Program} {w : World} {K : PySem.W.Frag} {elts : List Expr} {kk : Nat} {tpos : Pos} {d : Addr} {o : Obj} {es : Ents} {ds : Array DictEntry} {ep : Nat}
end
section
variable {X : Cx} {e : Expr} {body : List Stmt} {elts : List Expr} {kk : Nat} {tpos apos cpos pos : Pos} {os : List Nat} {g : Mg} {b : Ms} {s : Nat}
end
end L3
set_option Elab.async false
set_option linter.all false
set_option maxRecDepth 100000
set_option maxHeartbeats 2000000
namespace L3
open PySem PySem.Spec L2 PySem.W
section
variable {X : Cx} {o e f : Expr} {mo mi mz : Me} {apos cpos pos : Pos}
end
end L3
set_option Elab.async false
set_option linter.all false
set_option maxRecDepth 100000
set_option maxHeartbeats 2000000
namespace L3
open PySem PySem.Spec L2 PySem.W
section
variable {X : Cx} {elt e : Expr} {elts : List Expr} {kk : Nat} {tpos apos cpos pos : Pos} {ifs : List Expr} {scope : Scope} {own : List (Str × Nat)} {os : List Nat} {g : Mg} {mc : Mb} {m : Me} {s : Nat}
end
end L3
set_option Elab.async false
set_option linter.all false
set_option maxRecDepth 100000
set_option maxHeartbeats 1000000
namespace L3
open PySem PySem.Spec L2 PySem.W
end L3
set_option Elab.async false
set_option linter.all false
set_option maxRecDepth 100000
set_option maxHeartbeats 2000000
namespace L3
open PySem PySem.Spec L2 PySem.W PyProof.Rows
section
variable {X : Cx}
end
end L3
set_option Elab.async false
set_option linter.all false
set_option maxRecDepth 100000
set_option maxHeartbeats 2000000
namespace L3
open PySem PySem.Spec L2 PySem.W
end L3
set_option Elab.async false
set_option linter.all false
set_option maxRecDepth 100000
set_option maxHeartbeats 2000000
namespace L3
open PySem PySem.Spec L2 PySem.W
section
variable {K : Type} [DecidableEq K] {prog : Program} {w : World} {A : Around} {E : Value → Shared → Prop} {s : Shared} {knd : HeapKind prog w K}
end
end L3
set_option Elab.async false
set_option linter.all false
set_option maxRecDepth 100000
namespace L3
open PySem PySem.Spec L2 Sh
end L3
set_option Elab.async false
set_option linter.all false
set_option maxRecDepth 100000
set_option maxHeartbeats 4000000
namespace L3
open PySem PySem.Spec L2 PySem.W PyProof.Rows
section
variable {P : Program} {w : World} {A : Around} {E : Value → Shared → Prop} {s : Shared}
end
end L3
set_option Elab.async false
set_option linter.all false
set_option maxRecDepth 100000
namespace L3
open PySem PySem.Spec L2 PySem.W
section
variable {P : Program} {w : World} {K : PySem.W.Frag} {mg : Str → Option Value} {base : Heap} {k : Nat} {f : Addr} {fd : FuncData} {ps : List Str} {m : FX}
end
end L3
set_option Elab.async false
set_option linter.all false
set_option maxRecDepth 100000
namespace L3
open PySem PySem.Spec L2 PySem.W
section
variable {X : Cx}
end
end L3
set_option Elab.async false
set_option linter.all false
set_option maxRecDepth 100000
set_option maxHeartbeats 2000000
namespace SrtV
open PySem PySem.Spec PyProof.Rows TS Srt SrtO
section
variable {P : Program} {w : World} {A : Around} {E : Value → Shared → Prop} {s : Shared}
end
end SrtV
namespace L3
open PySem PySem.Spec L2 PyProof.Rows
end L3
set_option Elab.async false
set_option linter.all false
set_option maxRecDepth 100000
set_option maxHeartbeats 2000000
namespace L3
open PySem PySem.Spec L2 PySem.W
section
open PyProof.Rows HT
variable {X : Cx} {e : Expr} {te : TE} {p pos tpos p1 p2 : Pos} {elts : List Expr} {kk : Nat}
end
end L3
set_option Elab.async false
set_option linter.all false
set_option maxRecDepth 100000
set_option maxHeartbeats 2000000
namespace L3
open PySem PySem.Spec L2 PyProof.Rows
section
variable {X : Cx} {pins : List (Addr × Obj)} {σ : L2.St} {H : Hp} {s : Shared} {a : Addr} {oe : Obj} {vs : Array Value} {cls : Value} {d : Option Addr}
theorem exh_ok {P : Program} {w : World} {h : Heap} (e : h.get? a = some oe) (z : Zc cls d oe) (hd : oe.data = .fields vs) : ObjOk P w H h a (exh a cls d) :=
  ⟨⟨oe, vs, e, z, hd⟩, ⟨oe, e⟩, fun _ _ ⟨o, v, q, r⟩ k => ⟨o, v, k o q, r⟩⟩
theorem track_ok (I : Inv X ((a, oe) :: pins) σ H s) (hz : Zc cls d oe) (hd : oe.data = .fields vs) (h0 : X.s_0.heap.get? a = none) (hp : ∀ p ∈ X.pn ++ pins, p.1 ≠ a) : Inv X pins σ (upd H a (exh a cls d)) s := by
  obtain ⟨ha, hn, hL, hF, _⟩ := I.pin (a, oe) (List.mem_append_right _ List.mem_cons_self)
  refine ⟨I.ok, I.os, I.bare, ⟨I.base.keep, I.base.slot, fun b o q n hx => ?_, I.base.there, fun b xs q => ?_, fun b o u q => ?_, fun b ps q => ?_⟩, I.loc, I.cell, ?_, fun x c e => ?_, fun p h => ?_, ?_, I.len⟩
  · rw [upd_ne (fun z => by rw [z, h0] at q; cases q)]
    exact I.base.free b o q n hx
  · have := I.base.tups b xs q
    rw [upd_ne (ne_of_none this hn)]
    exact this
  · have := I.base.frzs b o u q
    rw [upd_ne (ne_of_none this hn)]
    exact this
  · obtain ⟨more, this⟩ := I.base.tbls b ps q
    exact ⟨more, by rw [upd_ne (ne_of_none this hn)]; exact this⟩
  · rw [upd_ne (Ne.symm hL)]
    exact I.free
  · rw [upd_ne (fun z => ?_)]
    · exact I.freeC x c e
    · obtain ⟨v, o, ho, hc⟩ := I.cell x c e
      rw [z, ha] at ho
      cases ho
      rw [hd] at hc
      cases hc
  · have hm : p ∈ X.pn ++ (a, oe) :: pins := by
      rcases List.mem_append.mp h with q | q
      · exact List.mem_append_left _ q
      · exact List.mem_append_right _ (List.mem_cons_of_mem _ q)
    obtain ⟨h1, h2, h3⟩ := I.pin p hm
    exact ⟨h1, by rw [upd_ne (hp p h)]; exact h2, h3⟩
  · exact I.hok.laidN (fun _ _ q => q) hn (exh_ok ha hz hd)
end
def wRet (K : PySem.W.Frag) (c : Value) (Wout : WX) (D : Ends) : WX := fun cls d σ H =>
  ∃ b, PySem.W.exmOne K cls c = some b ∧ (b = true → ∀ a, H a = none → D.rt (.ref a) (upd H a (exh a cls d))) ∧ (b = false → Wout cls d σ H)
section
variable {X : Cx} {x n : Str} {c : Value} {i : Nat} {body : List Stmt} {np np2 rp pos pos' : Pos} {tb : WX → TS} {Wout : WX}
theorem ps_try_ret (hx : X.ex = []) (hs : X.stack = X.env :: X.outer) (hf : X.env.frame = some X.env.locals) (hN : X.N.Nodup) (hi : X.N[i]? = some n) (hln : X.env.kindOf n = some .local) (hc : Names X x c) (tk : Takes X Wout)
    (hb : ∀ (W : WX) (pn : List (Addr × Obj)) (xe : Value → Shared → Prop), Takes (X.tr pn xe) W → PassesOwn (model X.prog X.w) X.A X.env xe → PSs (X.tr pn xe) body (tb W))
    (hsu : ∀ (a : Addr) (oe : Obj) (pn : List (Addr × Obj)), PE (X.suite a ((a, oe) :: pn)) (.Name n np2) (tVar i)) :
    PS X (.Try body [.ExceptHandler (some (.Name x np)) (some n) [.Return (some (.Name n np2)) rp] pos'] [] [] pos) (fun D σ H => tb (wRet X.K c Wout D) D σ H) := by
  refine ⟨fun pins s σ H D I h => ?_⟩
  have ok := I.ok
  have hfr : X.A.frames = some (X.env :: X.outer) := by rw [ok.frames, hs]
  have hloc : Loc X.env.scope n := .inl hln
  refine wpAny_Try_except ?_
  refine wpAny_mono ((hb (wRet X.K c Wout D) (X.pn ++ pins) (fun e s₁ => wpAny (model X.prog X.w) X.A (noteFrame e X.env) (fun _ s₂ => wpAny (model X.prog X.w) X.A (setFlight e none) (fun _ s₃ =>
    wpAny (model X.prog X.w) X.A (handleBy e X.env [.ExceptHandler (some (.Name x np)) (some n) [.Return (some (.Name n np2)) rp] pos']) (SP X pins D) X.xe s₃) X.xe s₂) X.xe s₁) (fun u s' xx => ?_) PassesOwn.looking).run [] s σ H D (I.toTry _) h) (fun f s1 hsp => ?_) (fun e s1 he => he)
  · obtain ⟨a, B, sI, pins', σ', H', cls, d, rfl, J', nb, up, sky, na, os, ag, b, hb1, hyes, hno⟩ := xx
    have J : Inv X pins σ' H' sI := J'.ofTry ok
    have sky' : Sky B (X.env :: X.outer) a (Zc cls d) X.env.locals s'.heap := by rw [← hs]; exact sky
    show wpAny (model X.prog X.w) X.A (noteFrame (.ref a) X.env) _ _ _
    refine Sky.land Zc.steady hfr hf sky' fun h3 fl3 up3 => ?_
    have J3 : Inv X pins σ' H' { s' with heap := h3 } := J.landed nb fl3.1 (up.trans up3) os ag
    obtain ⟨oe3, vs3, he3, hz3, hd3⟩ := fl3.there
    have notFr : ∀ {h : Heap} {o : Obj} {vs : Array Value}, h.FunFrames B (X.env :: X.outer) → h.get? a = some o → o.data = .fields vs → a ∉ frs (X.env :: X.outer) := fun {h o vs} ff e dd hm => by
      obtain ⟨_, o', e', hnf⟩ := ff.mem hm
      rw [e] at e'; cases e'
      exact hnf _ dd
    have nfr := notFr fl3.2.2.1 he3 hd3
    have nL : a ≠ X.env.locals := fun z => nfr (List.mem_filterMap.mpr ⟨X.env, List.mem_cons_self, by rw [hf, z]⟩)
    have nF : a ∉ X.fs := fun hm => by
      obtain ⟨e, he, q⟩ := List.mem_filterMap.mp hm
      exact nfr (List.mem_filterMap.mpr ⟨e, List.mem_cons_of_mem _ he, q⟩)
    have hnew : sI.heap.get? a = none := by
      cases q : sI.heap.get? a with
      | none => rfl
      | some o =>
        have := nb a o q (by rw [hs]; exact nfr)
        rw [fl3.2.1] at this
        cases this
    have h0 : X.s_0.heap.get? a = none := by
      cases q : X.s_0.heap.get? a with
      | none => rfl
      | some o =>
        obtain ⟨o', e⟩ := J.base.there a o q (by rw [hx]; exact List.not_mem_nil)
        rw [hnew] at e
        cases e
    have hpn : ∀ p ∈ X.pn ++ pins, p.1 ≠ a := fun p hp z => by
      obtain ⟨e, _⟩ := J.pin p hp
      rw [z, hnew] at e
      cases e
    have S3 := J3.suite he3 hd3 na nL nF
    refine wpAny_handleBy_cons (codeAny_handlers_test ?_) (by intro q; cases q)
    have LT : PySem.W.Looks (model X.prog X.w) h3 (typeOf (.ref a)) cls := fun A Q E s k q => wpAny_typeOf_ref (k _ _ he3) (by rw [hz3.1]; exact q)
    have LM := PySem.W.exm_one (M := model X.prog X.w) (J3.kIn) LT hb1
    have test : ∀ {Q : Value → Shared → Prop} {E : Value → Shared → Prop}, Q c { s' with heap := h3 } → wpAny (model X.prog X.w) (X.A.mark (some (.ref a))) (eval (.Name x np) X.env) Q E { s' with heap := h3 } := fun {Q E} q => by
      obtain ⟨hg, hdbg, hm | ⟨hm, hv, hnn⟩⟩ := hc
      · exact ld_glob (X := X.suite a ((a, oe3) :: (X.pn ++ pins))) S3 hg hm q hdbg
      · exact ld_blt (X := X.suite a ((a, oe3) :: (X.pn ++ pins))) S3 hg hm hv q hnn hdbg
    refine test (LM.here ?_)
    cases b with
    | true =>
      refine codeAny_handlers_suite_as ?_
      refine HandSPX.lands_againZ fl3 fun h4 fl4 up4 => ?_
      have J4 : Inv X pins σ' H' { s' with heap := h4 } := J.landed nb fl4.1 ((up.trans up3).trans up4) os ag
      obtain ⟨oe4, vs4, he4, hz4, hd4⟩ := fl4.there
      have S4 := J4.suite he4 hd4 na nL nF
      refine store_ok (X := X.suite a ((a, oe4) :: (X.pn ++ pins))) (v := .ref a) S4 hN hi hloc rfl (fun s5 S5 => ?_) (.inr hln)
      have hlt : i < σ'.length := by
        rw [J.len]
        rcases Nat.lt_or_ge i X.N.length with q | q
        · exact q
        · rw [List.getElem?_eq_none q] at hi; cases hi
      refine wpAny_mono ((pss_one (ps_ret (hsu a oe4 (X.pn ++ pins)))).run [] s5 _ H' { nx := fun _ _ => False, bk := fun _ _ => False, ct := fun _ _ => False, rt := fun v H6 => v = .ref a ∧ H6 = H' } S5 ⟨.ref a, List.getElem?_set_self hlt, rfl, rfl⟩) (fun f s6 hsp => ?_) (fun _ _ z => False.elim z)
      cases f with
      | next =>
        obtain ⟨σ6, H6, S6, q6⟩ := hsp
        exact q6.elim
      | brk =>
        obtain ⟨σ6, H6, S6, q6⟩ := hsp
        exact q6.elim
      | cont =>
        obtain ⟨σ6, H6, S6, q6⟩ := hsp
        exact q6.elim
      | ret u =>
        obtain ⟨v6, σ6, H6, S6, r6, rfl, rfl⟩ := hsp
        have K6 : Inv X ((a, oe4) :: pins) σ6 H6 s6 := ⟨ok, S6.os, S6.bare, S6.base, S6.loc, S6.cell, S6.free, S6.freeC, fun p hp => S6.pin p (by
          show p ∈ ((a, oe4) :: (X.pn ++ pins)) ++ []
          rw [List.append_nil]
          rcases List.mem_append.mp hp with q | q
          · exact List.mem_cons_of_mem _ (List.mem_append_left _ q)
          · rcases List.mem_cons.mp q with q | q
            · rw [q]; exact List.mem_cons_self
            · exact List.mem_cons_of_mem _ (List.mem_append_right _ q)), S6.hok, S6.len⟩
        exact gone_ok K6 hN hi hln fun s7 J7 => ⟨.ref a, _, _, track_ok J7 hz4 hd4 h0 hpn, r6, hyes rfl a na⟩
    | false =>
      show wpAny _ X.A (handleBy (.ref a) X.env []) _ _ _
      refine wpAny_handleBy_nil ?_
      obtain ⟨k1, k2, k3, oe, vs, T, oT, ts', he, hz, hd, h1, hr⟩ := id fl3
      unfold PySem.passOn
      refine wpAny_bind (wpAny_field he hd h1 ?_)
      rw [if_neg (show ¬ ((Value.ref T == Value.none) = true) from by simp)]
      have fin : wpAny (model X.prog X.w) X.A (setFlight (.ref a) X.env.frame) (fun _ s4 => wpAny (model X.prog X.w) X.A (throw (.ref a) : Sem Flow) (SP X pins D) X.xe s4) X.xe { s' with heap := h3 } := by
        rw [hf]
        refine HandSPX.setFlight_upZ fl3 fun h4 hh4 up4 => wpAny_throw (tk _ _ ?_)
        exact ⟨a, B, sI, pins, σ', H', cls, d, rfl, J, nb, (up.trans up3).trans up4, .inr (.inr (by rw [hs]; exact hh4)), na, os, ag, hno rfl⟩
      first
        | exact wpAny_bind (wpAny_pure (wpAny_bind fin))
        | exact wpAny_bind fin
  · cases f with
    | next =>
      obtain ⟨σ', H', J', q⟩ := hsp
      exact wpAny_execs_nil ⟨σ', H', J'.ofTry ok, q⟩
    | brk =>
      obtain ⟨σ', H', J', q⟩ := hsp
      exact ⟨σ', H', J'.ofTry ok, q⟩
    | cont =>
      obtain ⟨σ', H', J', q⟩ := hsp
      exact ⟨σ', H', J'.ofTry ok, q⟩
    | ret u =>
      obtain ⟨v, σ', H', J', r, q⟩ := hsp
      exact ⟨v, σ', H', J'.ofTry ok, r, q⟩
end
end L3
set_option Elab.async false
set_option linter.all false
set_option maxRecDepth 100000
set_option maxHeartbeats 2000000
namespace L3
open PySem PySem.Spec L2
def goLcR (n : Nat) (ds : List T) (g : Mg) (c : Mb) (m : Me) (τ0 : En) (Q : List PyData → Mem → Prop) : List T → List PyData → Mem → Prop
  | [], acc, M => Q acc M
  | t :: ts, acc, M => g t τ0 M fun τ1 M1 => c τ1 M1 fun k M2 => if k = true then m τ1 M2 fun y M3 => (match y with
      | .d z => acc.length < sizeLine ∧ M3.D[n]? = some (.lst ds) ∧ goLcR n ds g c m τ0 Q ts (acc ++ [z]) M3
      | _ => False) else M2.D[n]? = some (.lst ds) ∧ goLcR n ds g c m τ0 Q ts acc M2
def mLcR (o : Me) (g : Mg) (c : Mb) (m : Me) (vs : List Nat) : Me := fun τ M Q => o τ M fun t M1 => ∃ n ds, t = .mr n ∧ M1.D[n]? = some (.lst ds) ∧ goLcR n ds g c m (wipeT τ vs) (fun acc M2 => Q (.lst acc) M2) ds [] M1
def rIr (K : PySem.W.Frag) (m : Me) : TI := fun σ H R => ∃ τ M B Q, m τ M Q ∧ Wd K B M H ∧ Sl K B σ τ ∧ ∀ t M' B' H', Q t M' → Wd K B' M' H' → Ext B H B' H' → ∃ n ds, t = .mr n ∧ M'.D[n]? = some (.lst ds) ∧ ∀ a, B'.r[n]? = some a → R (Itl K a) H'
theorem mi_deckR {X : Cx} {e tg : Expr} {m : Me} (he : ME X e m) : PI X tg e (rIr X.K m) := by
  refine ⟨fun pn sh sg hp R iv ⟨τ, M, B, Q, h, w, s, k⟩ => ?_⟩
  let P := fun (x : V) (H1 : Hp) => ∃ t M1 B1, Q t M1 ∧ Wd X.K B1 M1 H1 ∧ Ext B hp B1 H1 ∧ Rt X.K B1 x t
  refine thn (he.run pn sh sg hp P iv ⟨τ, M, B, _, h, w, s, fun v t M1 B1 H1 h1 w1 e1 r1 => ⟨t, M1, B1, h1, w1, e1, r1⟩⟩) fun v s1 ⟨x, H1, i1, rx, t, M1, B1, h1, w1, e1, r1⟩ => ?_
  obtain ⟨n, ds, rfl, hL, k2⟩ := k t M1 B1 H1 h1 w1 e1
  obtain ⟨a', rfl, ha'⟩ := r1
  cases rx
  obtain ⟨_, xs, e, _⟩ := w1.dc _ _ _ ha' hL
  exact pie_l i1 (.of e) (k2 a' ha')
theorem paired_rt {F : V → T → Prop} {xs : List V} {ts : List T} (h : Paired F xs ts) {i : Nat} (hi : i < ts.length) : ∃ u, xs[i]? = some u ∧ F u ts[i] := by
  induction h generalizing i with
  | nil => cases hi
  | cons f _ ih =>
    cases i with
    | zero => exact ⟨_, rfl, f⟩
    | succ i => exact ih (by simpa using hi)
theorem lc_genR {K : PySem.W.Frag} {o m : Me} {g : Mg} {os : List Nat} {mc : Mb} {vs0 : List Nat} {σ : L2.St} {H : Hp} {Q' : VK} (sub : ∀ j ∈ os, j ∈ vs0) (h : rE K (mLcR o g mc m vs0) σ H Q') :
    tLc (rIr K o) (rG K os g) (rB K mc) (rE K m) vs0 σ H Q' := by
  obtain ⟨τ, M, B, Q, h, w, sl, k⟩ := h
  refine ⟨τ, M, B, _, h, w, sl, fun t M1 B1 H1 h1 w1 e1 => ?_⟩
  obtain ⟨n, ds, rfl, hL, h1⟩ := h1
  refine ⟨n, ds, rfl, hL, fun a ha D hD => ?_⟩
  obtain ⟨dG, dr, dl⟩ := w1.fresh hD
  have sw := (sl.mono e1).wipe vs0
  refine lc_it (walk_own ds.length) (fun i H2 => ∃ acc vs M2 B2, M2.D[n]? = some (.lst ds) ∧ goLcR n ds g mc m (wipeT τ vs0) (fun acc M2 => Q (.lst acc) M2) (ds.drop i) acc M2 ∧ Wd K B2 M2 H2 ∧ Ext B1 H1 B2 H2 ∧ H2 D = some (.lst vs) ∧ RpA K B2.G vs acc ∧ B2.G D = none ∧ D ∉ B2.r ∧ D ∉ B2.l) ?_ ?_ ?_ ?_
  · exact ⟨[], [], M1, B1, hL, h1, w1.side hD _, .side hD _, upd_same, .nil, dG, dr, dl⟩
  · rintro i H2 _ ⟨acc, vs, M2, B2, hL2, _, w2, e2, _⟩
    obtain ⟨_, us, eu, qu⟩ := w2.dc n a _ (get_prefix e2.r ha) hL2
    exact ⟨us, eu, Paired.length qu⟩
  · rintro i x H2 H3 hlt ⟨acc, vs, M2, B2, hL2, h2, w2, e2, d2, r2, g2, n2, l2⟩ y
    obtain ⟨hh, y⟩ := y
    rw [hh]
    obtain ⟨_, us, eu, qu⟩ := w2.dc n a _ (get_prefix e2.r ha) hL2
    obtain ⟨u, y1, y2⟩ := paired_rt qu hlt
    have y3 := y us (.of eu)
    rw [y1] at y3
    cases y3
    have e3 : Ext B2 H2 B2 H2 := .refl _ _
    rw [drop_at hlt, goLcR] at h2
    have keepD : ∀ {B4 : Bk} {H4 : Hp}, Ext B2 H2 B4 H4 → H4 D = some (.lst vs) ∧ B4.G D = none ∧ D ∉ B4.r ∧ D ∉ B4.l := fun {B4 H4} e4 => by
      refine ⟨e4.fr D _ d2 n2 l2, ?_, fun z => ?_, fun z => ?_⟩
      · cases q : B4.G D with
        | none => rfl
        | some o =>
          rcases e4.gf D o q with z | z | z
          · rw [g2] at z; cases z
          · rw [d2] at z; cases z
          · exact absurd z l2
      · rcases e4.rn D z with q | q
        · exact n2 q
        · rw [d2] at q; cases q
      · rcases e4.ln D z with q | q
        · exact l2 q
        · rw [d2] at q; cases q
    refine ⟨ds[i], wipeT τ vs0, M2, B2, _, h2, w2, sw.mono e2, Rt.mono' (B := { B2 with l := [] }) (B' := B2) (fun _ _ e => e) (List.prefix_refl _) (List.nil_prefix) y2, fun τ4 M4 B4 σ4 H4 h4 w4 e4 s4 a4 => ⟨a4.wipe sub, ?_⟩⟩
    refine ⟨τ4, M4, B4, _, h4, w4, s4, fun k5 M5 B5 H5 h5 w5 e5 => ?_⟩
    have e25 := e3.trans (e4.trans e5)
    cases k5 with
    | false =>
      obtain ⟨q1, q2, q3, q4⟩ := keepD e25
      exact ⟨acc, vs, M5, B5, h5.1, h5.2, w5, e2.trans e25, q1, RpA.mono e25.g r2, q2, q3, q4⟩
    | true =>
      refine ⟨τ4, M5, B5, _, h5, w5, s4.mono e5, fun v t M6 B6 H6 h6 w6 e6 r6 => ?_⟩
      split at h6
      · have e26 := e25.trans e6
        obtain ⟨q1, q2, q3, q4⟩ := keepD e26
        refine ⟨vs, q1, by rw [RpA.length r2]; exact h6.1, acc ++ [_], vs ++ [v], M6, B6, h6.2.1, h6.2.2, ?_, ?_, upd_same, RpA.append (RpA.mono e26.g r2) (.cons r6 .nil), q2, q3, q4⟩
        · -- the world does not know D
          refine ⟨fun a u z => ?_, w6.rlen, w6.llen, w6.nd, fun j a c z1 z2 => ?_, fun j a ds z1 z2 => ?_, fun a ha => ?_⟩
          · rw [upd_ne (ne_of_none z q2)]
            exact w6.le a u z
          · obtain ⟨p1, p2⟩ := w6.dc j a c z1 z2
            exact ⟨p1, CellAt.mono (fun _ _ e => e) (List.prefix_refl _) (upd_ne fun z => q3 (by rw [← z]; exact mem_of_get z1)) p2⟩
          · obtain ⟨p1, xs, p2, p3⟩ := w6.lc j a ds z1 z2
            exact ⟨p1, xs, (upd_ne fun z => q4 (by rw [← z]; exact mem_of_get z1)).trans p2, p3⟩
          · rw [upd_ne fun z => ?_]
            · exact w6.tr a ha
            · rw [z] at ha
              exact (List.mem_append.mp ha).elim q3 q4
        · have x6 := e2.trans e26
          refine ⟨x6.g, x6.r, x6.l, fun a u z n1 n2 => ?_, fun a z => ?_, x6.rn, x6.ln, x6.gf⟩
          · rw [upd_ne (ne_of_none z hD)]
            exact x6.fr a u z n1 n2
          · by_cases q : a = D
            · rw [q]
              exact hD
            · rw [upd_ne q] at z
              exact x6.tr a z
      · exact h6.elim
  · rintro H2 ⟨acc, vs, M2, B2, hL2, h2, w2, e2, d2, r2, g2, n2, l2⟩
    rw [List.drop_length] at h2
    rcases Ext.adoptG (o := .lst vs) (e1.tr D hD) (e1.trans e2) with x | x
    · exact k _ _ M2 _ H2 h2 (w2.adoptG g2 n2 l2 d2) x (.lst upd_same (RpA.mono (upd_keep g2) r2))
    · exact absurd g2 x
section
variable {X : Cx} {e tg : Expr} {m o : Me} {elt : Expr} {ifs : List Expr} {scope : Scope} {own : List (Str × Nat)} {g : Mg} {os : List Nat} {mc : Mb} {pos : Pos}
theorem me_lcR (hc : X.calm = true) (hN : X.N.Nodup) (hi : ME X e o) (ok : BlkOk X.N X.env.scope scope own)
    (hg : ∀ (s : Shared) (H : Hp) (C : Addr) (cl : List (Str × Addr)) (fp : List Addr), MG (X.blk s H scope (compEnvC scope cl C X.env) fp) tg os g) (ht : ∀ (s : Shared) (H : Hp) (C : Addr) (cl : List (Str × Addr)) (fp : List Addr), MTs (X.blk s H scope (compEnvC scope cl C X.env) fp) ifs mc)
    (he : ∀ (s : Shared) (H : Hp) (C : Addr) (cl : List (Str × Addr)) (fp : List Addr), ME (X.blk s H scope (compEnvC scope cl C X.env) fp) elt m) (sub : ∀ j ∈ os, j ∈ own.map (·.2)) (hs : ∀ x, foldedSetIterable e X.env x = pure x := by intro _; rfl) :
    ME X (.ListComp elt [⟨tg, e, ifs, 0⟩] scope pos) (mLcR o g mc m (own.map (·.2))) := PE.of (pe_lc (te := rE X.K m) (tt := rB X.K mc) (g := rG X.K os g) hc hN (mi_deckR hi) ok hg ht he hs) fun _ _ _ h => lc_genR sub h
end
def mTryRet (cs : List Str) (f : Str) (body : MsX) : Ms := fun E τ M => body (fun e τ' M' => e.cls ∈ cs ∧ E.rt (.mr M'.D.length) { M' with D := M'.D ++ [.exc f e] }) E τ M
section
variable {X : Cx} {x n : Str} {cs : List Str} {f : Str} {i : Nat} {body : List Stmt} {np np2 rp pos pos' : Pos} {mb : MsX}
theorem ms_tryRet (hx : X.ex = []) (hs : X.stack = X.env :: X.outer) (hf : X.env.frame = some X.env.locals) (hN : X.N.Nodup) (hi : X.N[i]? = some n) (hln : X.env.kindOf n = some .local) (hg : Gl X x) (hdb : (x == ("__debug__" : Str)) = false) (hh : Hits X.K X.mg x cs) (hk : ∀ c ∈ cs, KxF X.K X.mg c f)
    (hb : ∀ (pn : List (Addr × Obj)) (xe : Value → Shared → Prop), PassesOwn (model X.prog X.w) X.A X.env xe → MSsX (X.tr pn xe) body mb)
    (hsu : ∀ (a : Addr) (oe : Obj) (pn : List (Addr × Obj)), PE (X.suite a ((a, oe) :: pn)) (.Name n np2) (tVar i)) :
    MS X (.Try body [.ExceptHandler (some (.Name x np)) (some n) [.Return (some (.Name n np2)) rp] pos'] [] [] pos) (mTryRet cs f mb) := by
  obtain ⟨C, gC, hits⟩ := hh
  refine PS.of (ps_try_ret (tb := fun W => rSX X.K X.mg W mb) (Wout := fun _ _ _ _ => False) hx hs hf hN hi hln ⟨hg, hdb, .inl gC⟩ takes0 (fun W pn xe tk po => hb pn xe po W tk) hsu) fun D σ H ⟨E, τ, M, B, h, w, sl, g⟩ => ?_
  refine ⟨E, _, τ, M, B, h, w, sl, g, fun e cls d τ' M' B' σ' H' hw w' e' s' rx => ?_⟩
  refine ⟨true, hits e.cls hw.1 cls rx.1, fun _ a ha => ?_, fun z => Bool.noConfusion z⟩
  obtain ⟨D0, gD, F, hno⟩ := hk e.cls hw.1
  have := rx.1
  rw [gD] at this
  cases this
  obtain ⟨w2, e2⟩ := w'.newD ha (o := exh a (.ref D0) d) (c := .exc f e) fun H' eH => ⟨D0, d, eH, rx.2, F, hno⟩
  exact g.rt _ _ _ _ _ hw.2 w2 (e'.trans e2) ⟨a, rfl, by rw [← w'.rlen]; exact get_snoc⟩
end
def tXr (K : PySem.W.Frag) (f : Str) (te : TE) : TE := fun σ H Q => te σ H fun x H1 => ∃ (a C : Addr) (d : Option Addr) (dd : Addr) (fs : List (Str × V)) (v : V), x = .ref a ∧ H1 a = some (exh a (.ref C) d) ∧ XfC K C ∧ PySem.W.findIn K (.ref C) f = some none ∧ d = some dd ∧ H1 dd = some (.xd fs) ∧ fs.lookup f = some v ∧ Q v H1
section
open PyProof.Rows
theorem pe_xr {X : Cx} {e : Expr} {te : TE} {pos : Pos} {n : Str} (he : PE X e te) (hb : attributeBase e n X.env (eval e X.env) = eval e X.env := by rfl) : PE X (.Attribute e n pos) (tXr X.K n te) := by
  refine ⟨fun pins s σ H Q I h => ?_⟩
  refine attr_of hb (thn (he.run pins s σ H _ I h) fun u s1 hh => ?_)
  obtain ⟨x, H1, I1, rx, a, C, d, dd, fs, v, ex, hx, T, hno, ed, ea, l, q⟩ := hh
  subst ex
  obtain rfl : u = Value.ref a := rx
  subst ed
  obtain ⟨⟨oe, vs, ha, hz, hd⟩, _⟩ := (I1.hok a _ hx : ObjOk X.prog X.w H1 s1.heap a (exh a (.ref C) (some dd)))
  have hx : ObjOk X.prog X.w H1 s1.heap dd (.xd fs) := I1.hok dd _ ea
  obtain ⟨mA, hns, hr⟩ := hx
  obtain ⟨od, ho, hl⟩ := lookIn_ns hns
  obtain ⟨u, hu, ru⟩ := RelO.some_of (v := v) (o := mA n) (by rw [← l]; exact hr n)
  have J : PySem.W.InstAt s1.heap a oe C (some od) := ⟨ha, hz.1, by unfold PySem.W.notCls; rw [hd] <;> rfl, by rw [hz.2]; exact ho⟩
  exact HandSPX.exc_get I1.kIn J T.ga T.gg T.exC (PySem.W.findObj_own T.hdC hno rfl (by rw [hl, hu])) (handed_of ru) ⟨v, H1, I1.tok _, ru, q⟩
end
/-- x.f, x at i told by the deck -/
def mFldR (f : Str) (i : Nat) : Me := fun τ M Q => ∃ n e x, τ[i]? = some (some (.mr n)) ∧ M.D[n]? = some (.exc f e) ∧ e.arg = some (f, x) ∧ Q (.d x) M
theorem me_fldR {X : Cx} {i : Nat} {n f : Str} {p2 pos : Pos} (hn : PE X (.Name n p2) (tVar i)) (hb : attributeBase (.Name n p2) f X.env (eval (.Name n p2) X.env) = eval (.Name n p2) X.env := by rfl) : ME X (.Attribute (.Name n p2) f pos) (mFldR f i) := by
  refine PE.of (pe_xr hn hb) fun σ H Q' ⟨τ, M, B, Q, ⟨k, e, x, hi, hD, hx, q⟩, w, s, kk⟩ => ?_
  obtain ⟨v, hv, rv⟩ := s.at_ i _ hi
  obtain ⟨a, rfl, ha⟩ := rv
  obtain ⟨_, C, d, h1, h2, h3, h4⟩ := w.dc k a _ ha hD
  unfold ExR at h2
  rw [hx] at h2
  obtain ⟨dd, v, e1, e2, e3⟩ := h2
  exact ⟨_, hv, a, C, d, dd, _, v, rfl, h1, h3, h4, e1, w.le _ _ e2, by simp [List.lookup], kk v (.d x) M B H q w (.refl _ _) e3⟩
end L3
set_option Elab.async false
set_option linter.all false
set_option maxRecDepth 100000
set_option maxHeartbeats 2000000
namespace L3
open PySem PySem.Spec L2
theorem mex_fnA {X : Cx} {j k : Nat} {x : Str} {st : Stmt} {ps : List Str} {m : FD} {e : Expr} {es : List Expr} {mrx : MaX} {p pos : Pos} (h : Kn X.prog X.w X.K X.mg X.base j x st ps m) (gd : Gd X.A) (rm : Room k X.A) (hj : j ≤ k) (hg : Gl X x) (ha : MAX X (e :: es) mrx) (hdb : (x == ("__debug__" : Str)) = false := by decide)
    (he : starEach (e :: es) X.env = (false, eval e X.env) :: starEach es X.env := by rfl) (hpl : (backTo pos (starEach es X.env)).any (·.1) = false := by rfl) : MEX X (.Call (.Name x p) (e :: es) [] pos) fun Wt => mCall (fDef m) (mrx Wt) := fun W tk => by
  obtain ⟨f, fd, F, hm, U, hb⟩ := h
  have rm := rm.mono hj
  refine ⟨fun pn sh sg hp Q' iv ⟨τ, M, B, Q, Wt, h, w, s, kk, g⟩ => wpAny_Call_Name_kw (ld_glob iv hg hm ?_ hdb)⟩
  let P := fun (vs : List V) (H1 : Hp) => spM X.K m vs H1 Q' E0
  refine PySem.W.callWith_K (h₀ := X.base) iv.ok.mod.kin U.kp (thn ((ha W tk).run pos pn sh sg hp P iv ⟨τ, M, B, _, Wt, h, w, s, fun vs ts M1 B1 H1 h1 w1 e1 r1 => ?_, g⟩) fun us s1 ⟨vs, H1, i1, r, q⟩ => ⟨i1.kIn, ?_⟩) he hpl
  · exact sp_of h1 w1 r1 fun v t M2 B2 H2 h2 w2 e2 r2 => kk v t M2 B2 H2 h2 w2 (e1.trans e2) r2
  · have hl : (us ++ []).length = ps.length := by
      rw [List.append_nil, ← r.length]
      exact F.len _ _ _ _ q
    have hbb := hb s1 us i1.kIn hl
    rw [List.append_nil] at hbb
    exact run_g (args := ⟨us, []⟩) F gd rm hbb i1 r q
end L3
set_option Elab.async false
set_option linter.all false
set_option maxRecDepth 100000
set_option maxHeartbeats 2000000
namespace K37
open PySem PySem.Spec L2 L3
def topS (i : Nat) : Stmt := PySem.Challenge.pw_fallingfields_k37_bounds_of_least_wholes.main.body.getD i (.Pass ⟨0, 0, 0, 0⟩)
structure Zs (P : Program) (K : PySem.W.Frag) (mg : Str → Option Value) : Prop where
  z_enumerate : mg "enumerate" = none
  z_max : mg "max" = none
  z_tuple : mg "tuple" = none
  z_sum : mg "sum" = none
  z_min : mg "min" = none
  z_range : mg "range" = none
  z_abs : mg "abs" = none
  z_int : mg "int" = none
  z_len : mg "len" = none
  z_isinstance : mg "isinstance" = none
  z_repr : mg "repr" = none
  z_bool : mg "bool" = none
  g_MAX_ROW : GlC K mg "MAX_ROW" (.int 100)
  g_MAX_STATES : GlC K mg "MAX_STATES" (.int 256)
  ht_0 : Hits K mg "TooMany" ["TooMany"]
  io_1 : IsiO K mg "FieldsError" [("TooMany", true)]
  kf_2 : KxF K mg "TooMany" "limit"
  x1_3 : Kx1 P K mg "TooMany" "limit"
abbrev s__law_pool : Stmt := topS 21
theorem sc__law_pool : FnScope ["script", "cells", "mixed", "cell"] ["script"] (defScope s__law_pool) := ⟨rfl, rfl, rfl, by decide +kernel, rfl, by decide +kernel, by decide +kernel⟩
abbrev s_round_up : Stmt := topS 6
theorem sc_round_up : FnScope ["number", "multiple"] ["number", "multiple"] (defScope s_round_up) := ⟨rfl, rfl, rfl, by decide +kernel, rfl, by decide +kernel, by decide +kernel⟩
abbrev s_greatest_alignment : Stmt := topS 8
theorem sc_greatest_alignment : FnScope ["book", "places", "place"] ["book", "places"] (defScope s_greatest_alignment) := ⟨rfl, rfl, rfl, by decide +kernel, rfl, by decide +kernel, by decide +kernel⟩
abbrev s_span_behind : Stmt := topS 12
theorem sc_span_behind : FnScope ["kind", "end", "size", "alignment", "begin"] ["kind", "end"] (defScope s_span_behind) := ⟨rfl, rfl, rfl, by decide +kernel, rfl, by decide +kernel, by decide +kernel⟩
abbrev s_row_end : Stmt := topS 11
theorem sc_row_end : FnScope ["book", "row", "end", "place", "_"] ["book", "row", "end"] (defScope s_row_end) := ⟨rfl, rfl, rfl, by decide +kernel, rfl, by decide +kernel, by decide +kernel⟩
abbrev s_row_whole : Stmt := topS 10
theorem sc_row_whole : FnScope ["book", "row"] ["book", "row"] (defScope s_row_whole) := ⟨rfl, rfl, rfl, by decide +kernel, rfl, by decide +kernel, by decide +kernel⟩
abbrev s_require_few : Stmt := topS 16
theorem sc_require_few : FnScope ["record", "many", "number"] ["record"] (defScope s_require_few) := ⟨rfl, rfl, rfl, by decide +kernel, rfl, by decide +kernel, by decide +kernel⟩
abbrev s_parts_of : Stmt := topS 18
theorem sc_parts_of : FnScope ["record", "parts", "number", "part", "some"] ["record"] (defScope s_parts_of) := ⟨rfl, rfl, rfl, by decide +kernel, rfl, by decide +kernel, by decide +kernel⟩
abbrev s_places_there : Stmt := topS 7
theorem sc_places_there : FnScope ["record", "place", "number"] ["record"] (defScope s_places_there) := ⟨rfl, rfl, rfl, by decide +kernel, rfl, by decide +kernel, by decide +kernel⟩
abbrev s_one_fewer : Stmt := topS 19
theorem sc_one_fewer : FnScope ["part", "place"] ["part", "place"] (defScope s_one_fewer) := ⟨rfl, rfl, rfl, by decide +kernel, rfl, by decide +kernel, by decide +kernel⟩
abbrev s_last_places : Stmt := topS 17
theorem sc_last_places : FnScope ["book", "record", "parts", "least_ends", "lasts", "part", "ends", "place"] ["book", "record"] (defScope s_last_places) := ⟨rfl, rfl, rfl, by decide +kernel, rfl, by decide +kernel, by decide +kernel⟩
abbrev s_least_row : Stmt := topS 15
theorem sc_least_row : FnScope ["book", "record", "lasts", "row", "part"] ["book", "record"] (defScope s_least_row) := ⟨rfl, rfl, rfl, by decide +kernel, rfl, by decide +kernel, by decide +kernel⟩
abbrev s_least_whole : Stmt := topS 14
theorem sc_least_whole : FnScope ["book", "record"] ["book", "record"] (defScope s_least_whole) := ⟨rfl, rfl, rfl, by decide +kernel, rfl, by decide +kernel, by decide +kernel⟩
abbrev s__law_refusal : Stmt := topS 38
theorem sc__law_refusal : FnScope ["book", "record", "refused"] ["book", "record"] (defScope s__law_refusal) := ⟨rfl, rfl, rfl, by decide +kernel, rfl, by decide +kernel, by decide +kernel⟩
abbrev s__law_draw : Stmt := topS 22
theorem sc__law_draw : FnScope ["pool", "many", "cell", "found"] ["pool", "many"] (defScope s__law_draw) := ⟨rfl, rfl, rfl, by decide +kernel, rfl, by decide +kernel, by decide +kernel⟩
abbrev s__law_pick : Stmt := topS 23
theorem sc__law_pick : FnScope ["pool", "items"] ["pool", "items"] (defScope s__law_pick) := ⟨rfl, rfl, rfl, by decide +kernel, rfl, by decide +kernel, by decide +kernel⟩
abbrev s__law_kind : Stmt := topS 25
theorem sc__law_kind : FnScope ["pool", "steps", "is_great", "step", "short", "times"] ["pool", "steps", "is_great"] (defScope s__law_kind) := ⟨rfl, rfl, rfl, by decide +kernel, rfl, by decide +kernel, by decide +kernel⟩
abbrev s__law_book : Stmt := topS 26
theorem sc__law_book : FnScope ["pool", "many", "steps", "is_great", "kinds", "turn"] ["pool", "many", "steps", "is_great"] (defScope s__law_book) := ⟨rfl, rfl, rfl, by decide +kernel, rfl, by decide +kernel, by decide +kernel⟩
abbrev s__law_steps : Stmt := topS 27
theorem sc__law_steps : FnScope ["pool", "menus"] ["pool"] (defScope s__law_steps) := ⟨rfl, rfl, rfl, by decide +kernel, rfl, by decide +kernel, by decide +kernel⟩
abbrev s__law_few : Stmt := topS 35
theorem sc__law_few : FnScope ["pool", "many", "most", "found", "turn", "spot"] ["pool", "many", "most"] (defScope s__law_few) := ⟨rfl, rfl, rfl, by decide +kernel, rfl, by decide +kernel, by decide +kernel⟩
abbrev s__law_parts : Stmt := topS 33
theorem sc__law_parts : FnScope ["record", "found", "many", "longer", "own", "number"] ["record"] (defScope s__law_parts) := ⟨rfl, rfl, rfl, by decide +kernel, rfl, by decide +kernel, by decide +kernel⟩
abbrev s__law_there : Stmt := topS 31
theorem sc__law_there : FnScope ["record", "place", "many"] ["record"] (defScope s__law_there) := ⟨rfl, rfl, rfl, by decide +kernel, rfl, by decide +kernel, by decide +kernel⟩
abbrev s__law_up : Stmt := topS 24
theorem sc__law_up : FnScope ["number", "step"] ["number", "step"] (defScope s__law_up) := ⟨rfl, rfl, rfl, by decide +kernel, rfl, by decide +kernel, by decide +kernel⟩
abbrev s__law_top : Stmt := topS 32
theorem sc__law_top : FnScope ["book", "record", "place"] ["book", "record"] (defScope s__law_top) := ⟨rfl, rfl, rfl, by decide +kernel, rfl, by decide +kernel, by decide +kernel⟩
abbrev s__law_least : Stmt := topS 34
theorem sc__law_least : FnScope ["book", "record", "ends", "part", "best", "place", "size", "step"] ["book", "record"] (defScope s__law_least) := ⟨rfl, rfl, rfl, by decide +kernel, rfl, by decide +kernel, by decide +kernel⟩
abbrev s__law_heard : Stmt := topS 30
theorem sc__law_heard : FnScope ["book", "record", "is_row", "is_named", "refused"] ["book", "record", "is_row", "is_named"] (defScope s__law_heard) := ⟨rfl, rfl, rfl, by decide +kernel, rfl, by decide +kernel, by decide +kernel⟩
abbrev s__law_is_row : Stmt := topS 37
theorem sc__law_is_row : FnScope ["book", "record", "value", "place"] ["book", "record", "value"] (defScope s__law_is_row) := ⟨rfl, rfl, rfl, by decide +kernel, rfl, by decide +kernel, by decide +kernel⟩
abbrev s__law_end : Stmt := topS 28
theorem sc__law_end : FnScope ["book", "row", "end", "place"] ["book", "row", "end"] (defScope s__law_end) := ⟨rfl, rfl, rfl, by decide +kernel, rfl, by decide +kernel, by decide +kernel⟩
abbrev s__law_size : Stmt := topS 29
theorem sc__law_size : FnScope ["book", "row", "place"] ["book", "row"] (defScope s__law_size) := ⟨rfl, rfl, rfl, by decide +kernel, rfl, by decide +kernel, by decide +kernel⟩
abbrev s__law_are_apart : Stmt := topS 36
theorem sc__law_are_apart : FnScope ["pool", "asked", "kept", "record", "turn", "many", "book", "fresh", "due", "is_row", "heard"] ["pool"] (defScope s__law_are_apart) := ⟨rfl, rfl, rfl, by decide +kernel, rfl, by decide +kernel, by decide +kernel⟩
abbrev s__law_edge : Stmt := topS 39
theorem sc__law_edge : FnScope ["pool", "menu"] ["pool"] (defScope s__law_edge) := ⟨rfl, rfl, rfl, by decide +kernel, rfl, by decide +kernel, by decide +kernel⟩
abbrev s__law_is_right : Stmt := topS 40
theorem sc__law_is_right : FnScope ["book", "record", "is_named", "kept", "states", "many", "size", "row", "limit"] ["book", "record", "is_named"] (defScope s__law_is_right) := ⟨rfl, rfl, rfl, by decide +kernel, rfl, by decide +kernel, by decide +kernel⟩
abbrev s_law : Stmt := topS 41
theorem sc_law : FnScope ["script", "pool", "slips", "slip", "turn", "record", "book"] ["script"] (defScope s_law) := ⟨rfl, rfl, rfl, by decide +kernel, rfl, by decide +kernel, by decide +kernel⟩
def kb_least_row_0_g {α : Type} (l : List α) : List α := match l with
  | [x0, x1] => [x1, x0]
  | l => l
theorem kb_least_row_0 {K : PySem.W.Frag} {f : Addr} {fd : FuncData} (F : Fun K "least_row" "least_row" s_least_row f fd) : KB K fd ["book", "record"] ["record", "book"] kb_least_row_0_g := by
  refine kb_of F (fun _ _ _ _ _ _ us hl => match us, hl with | [_, _], _ => rfl) fun R zs ws hl h => ?_
  cases h with
  | nil => simp at hl
  | cons f0 h0 =>
    cases h0 with
    | nil => simp at hl
    | cons f1 h1 =>
      cases h1 with
      | nil => exact .cons f1 (.cons f0 (.nil))
      | cons _ _ => simp at hl
def kb_least_whole_0_g {α : Type} (l : List α) : List α := match l with
  | [x0, x1] => [x1, x0]
  | l => l
theorem kb_least_whole_0 {K : PySem.W.Frag} {f : Addr} {fd : FuncData} (F : Fun K "least_whole" "least_whole" s_least_whole f fd) : KB K fd ["book", "record"] ["record", "book"] kb_least_whole_0_g := by
  refine kb_of F (fun _ _ _ _ _ _ us hl => match us, hl with | [_, _], _ => rfl) fun R zs ws hl h => ?_
  cases h with
  | nil => simp at hl
  | cons f0 h0 =>
    cases h0 with
    | nil => simp at hl
    | cons f1 h1 =>
      cases h1 with
      | nil => exact .cons f1 (.cons f0 (.nil))
      | cons _ _ => simp at hl
abbrev b__law_pool : Ms := Pl.b__law_pool
abbrev d__law_pool : FD := Pl.d__law_pool
abbrev b_round_up : Ms := Sh.b_round_up
abbrev d_round_up : FD := Sh.d_round_up
abbrev b_greatest_alignment : Ms := Sh.b_greatest_alignment
abbrev d_greatest_alignment : FD := Sh.d_greatest_alignment
abbrev b_span_behind : Ms := Sh.b_span_behind
abbrev d_span_behind : FD := Sh.d_span_behind
abbrev b_row_end : Ms := Sh.b_row_end
abbrev d_row_end : FD := Sh.d_row_end
abbrev b_row_whole : Ms := Sh.b_row_whole
abbrev d_row_whole : FD := Sh.d_row_whole
abbrev b_require_few_0 (Wt : Wxs) : Ms := (mRaise1 "TooMany" "limit" (mC (.int 100)) Wt)
abbrev b_require_few_1 : Ms := (mSet 1 (mOp oMul (mVar 1) (mOp oAdd (mVar 2) (mC (.int 1)))))
abbrev b_require_few_2 (Wt : Wxs) : Ms := (mRaise1 "TooMany" "limit" (mC (.int 256)) Wt)
abbrev b_require_few_3 (Wt : Wxs) : Ms := (mIf (mTest (mOp oGt (mVar 1) (mC (.int 256)))) (b_require_few_2 Wt) mNext)
abbrev b_require_few_4 (Wt : Wxs) : Ms := (mSeq (mFor (iSeq (mVar 0)) (gN 2) b_require_few_1) (b_require_few_3 Wt))
abbrev b_require_few_5 (Wt : Wxs) : Ms := (mSeq (mSet 1 (mC (.int 1))) (b_require_few_4 Wt))
abbrev b_require_few_6 (Wt : Wxs) : Ms := (mSeq (mIf (mTest (mOp oGt (mCall fSumT (aCons (mVar 0) aNil)) (mC (.int 100)))) (b_require_few_0 Wt) mNext) (b_require_few_5 Wt))
abbrev b_require_few : MsX := fun Wt => (b_require_few_6 Wt)
def d_require_few : FX := mDefX 1 3 b_require_few
abbrev b_parts_of : Ms := Ll.b_parts_of
abbrev d_parts_of : FD := Ll.d_parts_of
abbrev b_places_there : Ms := Pl.b_places_there
abbrev d_places_there : FD := Pl.d_places_there
abbrev b_one_fewer : Ms := Ll.b_one_fewer
abbrev d_one_fewer : FD := Ll.d_one_fewer
abbrev b_last_places : Ms := Ll.b_last_places
abbrev d_last_places : FD := Ll.d_last_places
abbrev b_least_row_0 : Ms := (mSet 4 (mCall (fDef d_one_fewer) (aCons (mVar 4) (aCons (mOp oNGet (mVar 2) (mVar 4)) aNil))))
abbrev b_least_row_1 : Ms := (mSeq (mDrop (mMeth fApp (mVar 3) (aCons (mOp oNGet (mVar 2) (mVar 4)) aNil))) b_least_row_0)
abbrev b_least_row_2 : Ms := (mRet (mCall fTuple (aCons (mRevL (mVar 3)) aNil)))
abbrev b_least_row_3 : Ms := (mSeq (mWhile (mTest (mOp (oNIn false) (mVar 4) (mVar 2))) b_least_row_1) b_least_row_2)
abbrev b_least_row_4 : Ms := (mSeq (mSet 4 (mVar 1)) b_least_row_3)
abbrev b_least_row_5 : Ms := (mSeq (mSet 3 (mNewL aNil)) b_least_row_4)
abbrev b_least_row_6 : Ms := (mSeq (mSet 2 (mCall (fDef d_last_places) (aCons (mVar 0) (aCons (mVar 1) aNil)))) b_least_row_5)
abbrev b_least_row_7 (Wt : Wxs) : Ms := (mSeq (atW Wt fun W0 => mDrop (mCall (fDefX d_require_few W0) (aCons (mVar 1) aNil))) b_least_row_6)
abbrev b_least_row : MsX := fun Wt => (b_least_row_7 Wt)
def d_least_row : FX := mDefX 2 5 b_least_row
abbrev b_least_whole_0 (Wt : Wxs) : Ms := (atW Wt fun W0 => mRet (mCall (fDef d_row_whole) (aCons (mVar 0) (aCons (mCall (fDefX d_least_row W0) (aCons (mVar 0) (aCons (mVar 1) aNil))) aNil))))
abbrev b_least_whole : MsX := fun Wt => (b_least_whole_0 Wt)
def d_least_whole : FX := mDefX 2 2 b_least_whole
abbrev b__law_refusal_0 (Wt : Wxs) : Ms := (atW Wt fun W0 => mDrop (mCall (fDefX d_least_whole W0) (aCons (mVar 0) (aCons (mVar 1) aNil))))
abbrev b__law_refusal_1 : Ms := (mRet (mC .none))
abbrev b__law_refusal_2 : Ms := (mSeq (mTryRet ["TooMany"] "limit" (fun Wt => (b__law_refusal_0 Wt))) b__law_refusal_1)
abbrev b__law_refusal : Ms := b__law_refusal_2
def d__law_refusal : FD := mDef 2 3 b__law_refusal
abbrev b__law_draw : Ms := Pl.b__law_draw
abbrev d__law_draw : FD := Pl.d__law_draw
abbrev b__law_pick : Ms := Pl.b__law_pick
abbrev d__law_pick : FD := Pl.d__law_pick
abbrev b__law_kind : Ms := Pl.b__law_kind
abbrev d__law_kind : FD := Pl.d__law_kind
abbrev b__law_book : Ms := Pl.b__law_book
abbrev d__law_book : FD := Pl.d__law_book
abbrev b__law_steps : Ms := Pl.b__law_steps
abbrev d__law_steps : FD := Pl.d__law_steps
abbrev b__law_few : Ms := Pz.b__law_few
abbrev d__law_few : FD := Pz.d__law_few
abbrev b__law_parts : Ms := Ll.b__law_parts
abbrev d__law_parts : FD := Ll.d__law_parts
abbrev b__law_there : Ms := Pl.b__law_there
abbrev d__law_there : FD := Pl.d__law_there
abbrev b__law_up : Ms := Pl.b__law_up
abbrev d__law_up : FD := Pl.d__law_up
abbrev b__law_top : Ms := Pl.b__law_top
abbrev d__law_top : FD := Pl.d__law_top
abbrev b__law_least : Ms := Ll.b__law_least
abbrev d__law_least : FD := Ll.d__law_least
abbrev b__law_heard_0 (Wt : Wxs) : Ms := (atW Wt fun W0 => mRet (mLst (aCons (mC (.str "told")) (aCons (mIte (mTest (mVar 3)) (mCallK kb_least_row_0_g 2 (fDefX d_least_row W0) (aCons (mVar 1) (aCons (mVar 0) aNil))) (mCall (fDefX d_least_row W0) (aCons (mVar 0) (aCons (mVar 1) aNil)))) aNil))))
abbrev b__law_heard_1 (Wt : Wxs) : Ms := (atW Wt fun W0 => mRet (mLst (aCons (mC (.str "told")) (aCons (mIte (mTest (mVar 3)) (mCallK kb_least_whole_0_g 2 (fDefX d_least_whole W0) (aCons (mVar 1) (aCons (mVar 0) aNil))) (mCall (fDefX d_least_whole W0) (aCons (mVar 0) (aCons (mVar 1) aNil)))) aNil))))
abbrev b__law_heard_2 (Wt : Wxs) : Ms := (mSeq (mIf (mTest (mVar 2)) (b__law_heard_0 Wt) mNext) (b__law_heard_1 Wt))
abbrev b__law_heard_3 (xa : Addr) (xc : Value) (xd : Option Addr) (xe : Exn) : Ms := (mRet (mLst (aCons (mC (.str "many")) (aCons (mFldE xa xc xd xe "TooMany" "limit" 4) (aCons (mIsE xa xc xd xe 4 [("TooMany", true)]) aNil)))))
abbrev b__law_heard_4 : Ms := (mTryAs ["TooMany"] 4 (fun Wt => (b__law_heard_2 Wt)) (fun xa xc xd xe => (b__law_heard_3 xa xc xd xe)))
abbrev b__law_heard : Ms := b__law_heard_4
def d__law_heard : FD := mDefT 4 5 b__law_heard
abbrev b__law_is_row_0 : Ms := (mRet (mC (.bool false)))
abbrev b__law_is_row_1 : Ms := (mRet (mC (.bool false)))
abbrev b__law_is_row_2 : Ms := (mRet (mOp (oEq false) (mCall fTuple (aCons (mLc (iRange (aCons (mCall fLen (aCons (mVar 0) aNil)) aNil)) (gN 3) bYes (mCnt (mVar 2) (aCons (mVar 3) aNil)) [3]) aNil)) (mVar 1)))
abbrev b__law_is_row_3 : Ms := (mSeq (mIf (mTest (mOp (oEq true) (mLc (iSeq (mVar 2)) (gN 3) (bOr (mTest (mIsi "bool" (mVar 3))) (bNot (mTest (mIsi "int" (mVar 3))))) (mC (.int 1)) [3]) (mLst aNil))) b__law_is_row_1 mNext) b__law_is_row_2)
abbrev b__law_is_row_4 : Ms := (mSeq (mIf (bOr (bNot (mTest (mIsi "tuple" (mVar 2)))) (mTest (mOp (oEq true) (mCall fLen (aCons (mVar 2) aNil)) (mCall fSumT (aCons (mVar 1) aNil))))) b__law_is_row_0 mNext) b__law_is_row_3)
abbrev b__law_is_row : Ms := b__law_is_row_4
def d__law_is_row : FD := mDef 3 4 b__law_is_row
abbrev b__law_end : Ms := Pz.b__law_end
abbrev d__law_end : FD := Pz.d__law_end
abbrev b__law_size : Ms := Pz.b__law_size
abbrev d__law_size : FD := Pz.d__law_size
abbrev b__law_are_apart_0 : Ms := (mPar 6 7 (aCons (mCall fTuple (aCons (mLc (iSeq (mVar 3)) (gN 5) bYes (mTup (aCons (mOp oAdd (mC (.int 1)) (mCall (fDefC d__law_draw) (aCons (mVar 0) (aCons (mC (.int 9)) aNil)))) (aCons (mC (.int 1)) aNil))) [5]) aNil)) (aCons (mVar 3) aNil)))
abbrev b__law_are_apart_1 : Ms := (mSet 1 (mOp oAddL (mOp oAdd (mFrz (mVar 1)) (mOp oMul (mLst (aCons (mTup (aCons (mC (.bool false)) (aCons (mVar 6) (aCons (mVar 3) (aCons (mVar 8) aNil))))) (aCons (mTup (aCons (mC (.bool true)) (aCons (mVar 6) (aCons (mVar 3) (aCons (mVar 8) aNil))))) aNil))) (mC (.int 2)))) (mLst (aCons (mTup (aCons (mC (.bool true)) (aCons (mVar 6) (aCons (mVar 3) (aCons (mVar 8) aNil))))) aNil))))
abbrev b__law_are_apart_2 : Ms := (mSeq (mPar 3 8 (aCons (mVar 7) (aCons (mCall (fDefC d__law_least) (aCons (mVar 6) (aCons (mVar 7) aNil))) aNil))) b__law_are_apart_1)
abbrev b__law_are_apart_3 : Ms := (mSeq (mIf (bAnd (mTest (mOp (oEq false) (mVar 4) (mC (.int 1)))) (mTest (mOp (oEq false) (mCall (fDefC d__law_draw) (aCons (mVar 0) (aCons (mC (.int 2)) aNil))) (mC (.int 0))))) b__law_are_apart_0 mNext) b__law_are_apart_2)
abbrev b__law_are_apart_4 : Ms := (mSeq (mPar 6 7 (aCons (mCall (fDefC d__law_book) (aCons (mVar 0) (aCons (mVar 5) (aCons (mCall (fDefC d__law_steps) (aCons (mVar 0) aNil)) (aCons (mOp (oEq false) (mVar 4) (mC (.int 1))) aNil))))) (aCons (mCall (fDefC d__law_few) (aCons (mVar 0) (aCons (mVar 5) (aCons (mC (.int 7)) aNil)))) aNil))) b__law_are_apart_3)
abbrev b__law_are_apart_5 : Ms := (mSeq (mSet 5 (mOp oAdd (mC (.int 1)) (mCall (fDefC d__law_draw) (aCons (mVar 0) (aCons (mC (.int 4)) aNil))))) b__law_are_apart_4)
abbrev b__law_are_apart_6 : Ms := (mRet (mC (.bool false)))
abbrev b__law_are_apart_7 : Ms := (mRet (mC (.bool false)))
abbrev b__law_are_apart_8 : Ms := (mRet (mC (.bool false)))
abbrev b__law_are_apart_9 : Ms := (mIf (bAnd (mTest (mVar 9)) (bOr (bNot (mTest (mCall (fDefC d__law_is_row) (aCons (mVar 6) (aCons (mVar 3) (aCons (mOp oIx (mVar 10) (mC (.int 1))) aNil)))))) (mTest (mOp (oEq true) (mCall (fDefC d__law_size) (aCons (mVar 6) (aCons (mOp oIx (mVar 10) (mC (.int 1))) aNil))) (mVar 8))))) b__law_are_apart_8 mNext)
abbrev b__law_are_apart_10 : Ms := (mSeq (mKPut (mVar 2) (mTup (aCons (mVar 9) (aCons (mVar 6) (aCons (mVar 3) aNil)))) (mCall fRepr (aCons (mVar 10) aNil))) b__law_are_apart_9)
abbrev b__law_are_apart_11 : Ms := (mSeq (mIf (mTest (mOp (oEq true) (mKGet2 (mVar 2) (mTup (aCons (mVar 9) (aCons (mVar 6) (aCons (mVar 3) aNil)))) (mCall fRepr (aCons (mVar 10) aNil))) (mCall fRepr (aCons (mVar 10) aNil)))) b__law_are_apart_7 mNext) b__law_are_apart_10)
abbrev b__law_are_apart_12 : Ms := (mSeq (mIf (bOr (mTest (mOp (oEq true) (mOp oIx (mVar 10) (mC (.int 0))) (mC (.str "told")))) (bAnd (bNot (mTest (mVar 9))) (mTest (mOp (oEq true) (mCall fRepr (aCons (mOp oIx (mVar 10) (mC (.int 1))) aNil)) (mCall fRepr (aCons (mVar 8) aNil)))))) b__law_are_apart_6 mNext) b__law_are_apart_11)
abbrev b__law_are_apart_13 : Ms := (mSeq (mSet 10 (mCall (fDefC d__law_heard) (aCons (mVar 6) (aCons (mVar 3) (aCons (mVar 9) (aCons (mC (.bool false)) aNil)))))) b__law_are_apart_12)
abbrev b__law_are_apart_14 : Ms := (mSeq (mAsg (mMeth fPopAt (mVar 1) (aCons (mCall (fDefC d__law_draw) (aCons (mVar 0) (aCons (mCall fLen (aCons (mVar 1) aNil)) aNil))) aNil)) (gTu 4 (gsCons (gN 9) (gsCons (gN 6) (gsCons (gN 3) (gsCons (gN 8) gsNil)))))) b__law_are_apart_13)
abbrev b__law_are_apart_15 : Ms := (mRet (mC (.bool true)))
abbrev b__law_are_apart_16 : Ms := (mSeq (mWhile (mTest (mOp (oEq true) (mVar 1) (mLst aNil))) b__law_are_apart_14) b__law_are_apart_15)
abbrev b__law_are_apart_17 : Ms := (mSeq (mFor (iRange (aCons (mC (.int 2)) aNil)) (gN 4) b__law_are_apart_5) b__law_are_apart_16)
abbrev b__law_are_apart_18 : Ms := (mSeq (mPar3 1 2 3 (aCons (mNewL aNil) (aCons mKNew (aCons (mTup aNil) aNil)))) b__law_are_apart_17)
abbrev b__law_are_apart : Ms := b__law_are_apart_18
def d__law_are_apart : FD := mDefC 1 11 b__law_are_apart
abbrev b__law_edge_0 : Ms := (mRet (mCall (fDef d__law_pick) (aCons (mVar 0) (aCons (mVar 1) aNil))))
abbrev b__law_edge_1 : Ms := (mSeq (mSet 1 (mOp oAdd (mVar 1) (mLst (aCons (mTup (aCons (mC (.int 31)) (aCons (mC (.int 7)) aNil))) aNil)))) b__law_edge_0)
abbrev b__law_edge_2 : Ms := (mSeq (mSet 1 (mOp oAdd (mVar 1) (mLst (aCons (mTup (aCons (mC (.int 50)) (aCons (mC (.int 50)) aNil))) (aCons (mTup (aCons (mC (.int 2)) (aCons (mC (.int 84)) (aCons (mC (.int 0)) aNil)))) (aCons (mTup (aCons (mC (.int 5)) (aCons (mC (.int 5)) (aCons (mC (.int 6)) aNil)))) (aCons (mTup (aCons (mC (.int 5)) (aCons (mC (.int 6)) (aCons (mC (.int 6)) aNil)))) (aCons (mTup (aCons (mC (.int 7)) (aCons (mC (.int 7)) (aCons (mC (.int 3)) aNil)))) (aCons (mTup (aCons (mC (.int 7)) (aCons (mC (.int 7)) (aCons (mC (.int 4)) aNil)))) (aCons (mTup (aCons (mC (.int 1)) (aCons (mC (.int 127)) aNil))) (aCons (mTup (aCons (mC (.int 0)) (aCons (mC (.int 0)) (aCons (mC (.int 0)) (aCons (mC (.int 0)) (aCons (mC (.int 0)) (aCons (mC (.int 100)) aNil))))))) aNil))))))))))) b__law_edge_1)
abbrev b__law_edge_3 : Ms := (mSeq (mSet 1 (mOp oAdd (mVar 1) (mLst (aCons (mTup (aCons (mC (.int 255)) aNil)) aNil)))) b__law_edge_2)
abbrev b__law_edge_4 : Ms := (mSeq (mSet 1 (mOp oAdd (mVar 1) (mLst (aCons (mTup (aCons (mC (.int 0)) (aCons (mC (.int 100)) aNil))) (aCons (mTup (aCons (mOp oPow (mC (.int 10)) (mC (.int 30))) aNil)) (aCons (mTup (aCons (mOp oPow (mC (.int 10)) (mC (.int 30))) (aCons (mC (.int 0)) (aCons (mC (.int 1)) aNil)))) (aCons (mTup (aCons (mC (.int 0)) (aCons (mC (.int 0)) (aCons (mC (.int 100)) (aCons (mC (.int 0)) aNil))))) (aCons (mTup (aCons (mC (.int 0)) (aCons (mC (.int 15)) (aCons (mC (.int 0)) (aCons (mC (.int 15)) aNil))))) (aCons (mTup (aCons (mC (.int 0)) (aCons (mC (.int 15)) (aCons (mC (.int 0)) (aCons (mC (.int 16)) aNil))))) (aCons (mTup (aCons (mC (.int 51)) (aCons (mC (.int 4)) aNil))) aNil)))))))))) b__law_edge_3)
abbrev b__law_edge_5 : Ms := (mSeq (mSet 1 (mOp oAdd (mVar 1) (mLst (aCons (mTup (aCons (mC (.int 0)) (aCons (mC (.int 101)) aNil))) aNil)))) b__law_edge_4)
abbrev b__law_edge_6 : Ms := (mSeq (mSet 1 (mOp oAdd (mVar 1) (mLst (aCons (mTup (aCons (mC (.int 3)) (aCons (mC (.int 3)) (aCons (mC (.int 3)) (aCons (mC (.int 3)) (aCons (mC (.int 1)) aNil)))))) (aCons (mOp oRepT (mTup (aCons (mC (.int 1)) aNil)) (mC (.int 6))) (aCons (mTup (aCons (mC (.int 1)) (aCons (mC (.int 1)) (aCons (mC (.int 1)) (aCons (mC (.int 1)) (aCons (mC (.int 1)) (aCons (mC (.int 7)) aNil))))))) (aCons (mTup (aCons (mC (.int 1)) (aCons (mC (.int 1)) (aCons (mC (.int 1)) (aCons (mC (.int 1)) (aCons (mC (.int 1)) (aCons (mC (.int 8)) aNil))))))) (aCons (mTup (aCons (mC (.int 63)) (aCons (mC (.int 3)) aNil))) (aCons (mTup (aCons (mC (.int 64)) (aCons (mC (.int 3)) aNil))) (aCons (mTup (aCons (mC (.int 50)) (aCons (mC (.int 51)) aNil))) aNil)))))))))) b__law_edge_5)
abbrev b__law_edge_7 : Ms := (mSeq (mSet 1 (mOp oAdd (mVar 1) (mLst (aCons (mTup (aCons (mC (.int 3)) (aCons (mC (.int 3)) (aCons (mC (.int 3)) (aCons (mC (.int 3)) aNil))))) aNil)))) b__law_edge_6)
abbrev b__law_edge_8 : Ms := (mSeq (mSet 1 (mLst (aCons (mTup (aCons (mC (.int 100)) aNil)) (aCons (mTup (aCons (mC (.int 101)) aNil)) (aCons (mTup (aCons (mC (.int 99)) (aCons (mC (.int 1)) aNil))) (aCons (mTup (aCons (mC (.int 100)) (aCons (mC (.int 1)) aNil))) (aCons (mTup (aCons (mC (.int 98)) (aCons (mC (.int 1)) aNil))) (aCons (mTup (aCons (mC (.int 15)) (aCons (mC (.int 15)) aNil))) (aCons (mTup (aCons (mC (.int 15)) (aCons (mC (.int 16)) aNil))) (aCons (mTup (aCons (mC (.int 16)) (aCons (mC (.int 15)) aNil))) (aCons (mTup (aCons (mC (.int 84)) (aCons (mC (.int 2)) aNil))) (aCons (mTup (aCons (mC (.int 85)) (aCons (mC (.int 2)) aNil))) (aCons (mTup (aCons (mC (.int 127)) (aCons (mC (.int 1)) aNil))) aNil))))))))))))) b__law_edge_7)
abbrev b__law_edge : Ms := b__law_edge_8
def d__law_edge : FD := mDef 1 2 b__law_edge
abbrev b__law_is_right_0 : Ms := (mSet 4 (mOp oMul (mVar 4) (mOp oAdd (mVar 5) (mC (.int 1)))))
abbrev b__law_is_right_1 : Ms := (mRet (mC (.bool false)))
abbrev b__law_is_right_2 : Ms := (mRet (mC (.bool false)))
abbrev b__law_is_right_3 : Ms := (mRet (mOp (oEq false) (mCall fRepr (aCons (mLst (aCons (mVar 6) (aCons (mVar 7) aNil))) aNil)) (mCall fRepr (aCons (mOp oMul (mLst (aCons (mLst (aCons (mC (.str "many")) (aCons (mVar 8) (aCons (mC (.bool true)) aNil)))) aNil)) (mC (.int 2))) aNil))))
abbrev b__law_is_right_4 : Ms := (mSeq (mSet 8 (mIte (mTest (mOp oGt (mCall fSumT (aCons (mVar 1) aNil)) (mC (.int 100)))) (mC (.int 100)) (mC (.int 256)))) b__law_is_right_3)
abbrev b__law_is_right_5 : Ms := (mSeq (mIf (mTest (mOp (oEq true) (mCall fRepr (aCons (mCall (fDef d__law_heard) (aCons (mVar 0) (aCons (mVar 1) (aCons (mC (.bool true)) (aCons (mC (.bool false)) aNil))))) aNil)) (mCall fRepr (aCons (mVar 7) aNil)))) b__law_is_right_2 mNext) b__law_is_right_4)
abbrev b__law_is_right_6 : Ms := (mRet (mC (.bool false)))
abbrev b__law_is_right_7 : Ms := (mRet (mOp (oEq false) (mCall fRepr (aCons (mOp oIx (mVar 6) (mC (.int 1))) aNil)) (mCall fRepr (aCons (mCall (fDef d__law_size) (aCons (mVar 0) (aCons (mOp oIx (mVar 7) (mC (.int 1))) aNil))) aNil))))
abbrev b__law_is_right_8 : Ms := (mSeq (mIf (bOr (mTest (mOp (oEq true) (mOp oIx (mVar 6) (mC (.int 0))) (mC (.str "told")))) (bOr (mTest (mOp (oEq true) (mOp oIx (mVar 7) (mC (.int 0))) (mC (.str "told")))) (bNot (mTest (mCall (fDef d__law_is_row) (aCons (mVar 0) (aCons (mVar 1) (aCons (mOp oIx (mVar 7) (mC (.int 1))) aNil)))))))) b__law_is_right_6 mNext) b__law_is_right_7)
abbrev b__law_is_right_9 : Ms := (mSeq (mIf (bOr (mTest (mOp oGt (mCall fSumT (aCons (mVar 1) aNil)) (mC (.int 100)))) (mTest (mOp oGt (mVar 4) (mC (.int 256))))) b__law_is_right_5 mNext) b__law_is_right_8)
abbrev b__law_is_right_10 : Ms := (mSeq (mIf (mTest (mOp (oEq true) (mCall fRepr (aCons (mLst (aCons (mVar 0) (aCons (mVar 1) aNil))) aNil)) (mVar 3))) b__law_is_right_1 mNext) b__law_is_right_9)
abbrev b__law_is_right_11 : Ms := (mSeq (mPar 6 7 (aCons (mCall (fDef d__law_heard) (aCons (mVar 0) (aCons (mVar 1) (aCons (mC (.bool false)) (aCons (mVar 2) aNil))))) (aCons (mCall (fDef d__law_heard) (aCons (mVar 0) (aCons (mVar 1) (aCons (mC (.bool true)) (aCons (mVar 2) aNil))))) aNil))) b__law_is_right_10)
abbrev b__law_is_right_12 : Ms := (mSeq (mFor (iSeq (mVar 1)) (gN 5) b__law_is_right_0) b__law_is_right_11)
abbrev b__law_is_right_13 : Ms := (mSeq (mPar 3 4 (aCons (mCall fRepr (aCons (mLst (aCons (mVar 0) (aCons (mVar 1) aNil))) aNil)) (aCons (mC (.int 1)) aNil))) b__law_is_right_12)
abbrev b__law_is_right : Ms := b__law_is_right_13
def d__law_is_right : FD := mDef 3 9 b__law_is_right
abbrev b_law_0 : Ms := (mRet (mC (.bool false)))
abbrev b_law_1 : Ms := (mRet (mC (.bool false)))
abbrev b_law_2 : Ms := (mRet (mC (.bool false)))
abbrev b_law_3 : Ms := (mIf (bNot (mTest (mCall (fDefC d__law_is_right) (aCons (mVar 6) (aCons (mVar 5) (aCons (mOp (oEq false) (mVar 4) (mC (.int 1))) aNil)))))) b_law_2 mNext)
abbrev b_law_4 : Ms := (mSeq (mSet 6 (mCall (fDefC d__law_book) (aCons (mVar 1) (aCons (mCall fLen (aCons (mVar 5) aNil)) (aCons (mCall (fDefC d__law_steps) (aCons (mVar 1) aNil)) (aCons (mOp (oEq false) (mVar 4) (mC (.int 3))) aNil)))))) b_law_3)
abbrev b_law_5 : Ms := (mSeq (mSet 5 (mCall (fDefC d__law_edge) (aCons (mVar 1) aNil))) b_law_4)
abbrev b_law_6 : Ms := (mRet (mC (.bool true)))
abbrev b_law_7 : Ms := (mSeq (mFor (iRange (aCons (mC (.int 4)) aNil)) (gN 4) b_law_5) b_law_6)
abbrev b_law_8 : Ms := (mSeq (mIf (bNot (mTest (mCall (fDefC d__law_are_apart) (aCons (mVar 1) aNil)))) b_law_1 mNext) b_law_7)
abbrev b_law_9 : Ms := (mSeq (mIf (bOr (mTest (mOp (oEq true) (mLcR (mVar 2) (gN 3) bYes (mOp oIsN (mVar 3) (mC .none)) [3]) (mOp oMul (mLst (aCons (mC (.bool false)) aNil)) (mC (.int 3))))) (mTest (mOp (oEq true) (mCall fRepr (aCons (mLcR (mVar 2) (gN 3) bYes (mFldR "limit" 3) [3]) aNil)) (mCall fRepr (aCons (mLst (aCons (mC (.int 256)) (aCons (mC (.int 100)) (aCons (mC (.int 100)) aNil)))) aNil))))) b_law_0 mNext) b_law_8)
abbrev b_law_10 : Ms := (mSeq (mDrop (mMeth fApp (mVar 2) (aCons (mCall (fDef d__law_refusal) (aCons (mTup (aCons (mTup (aCons (mC (.int 1)) (aCons (mC (.int 1)) aNil))) aNil)) (aCons (mTup (aCons (mOp oPow (mC (.int 10)) (mC (.int 30))) aNil)) aNil))) aNil))) b_law_9)
abbrev b_law_11 : Ms := (mSeq (mSet 2 (mNewD (aCons (mCall (fDef d__law_refusal) (aCons (mTup (aCons (mTup (aCons (mC (.int 4)) (aCons (mC (.int 4)) aNil))) (aCons (mTup (aCons (mC (.int 2)) (aCons (mC (.int 2)) aNil))) aNil))) (aCons (mTup (aCons (mC (.int 15)) (aCons (mC (.int 16)) aNil))) aNil))) (aCons (mCall (fDef d__law_refusal) (aCons (mTup (aCons (mTup (aCons (mC (.int 1)) (aCons (mC (.int 1)) aNil))) aNil)) (aCons (mTup (aCons (mC (.int 101)) aNil)) aNil))) aNil)))) b_law_10)
abbrev b_law_12 : Ms := (mSeq (mSet 1 (mCall (fDef d__law_pool) (aCons (mVar 0) aNil))) b_law_11)
abbrev b_law : Ms := b_law_12
def d_law : FD := mDefC 1 7 b_law
section
variable {P : Program} {w : World} {K : PySem.W.Frag} {mg : Str → Option Value} {base : Heap}
theorem ok__law_pool (Z : Zs P K mg)  {f : Addr} {fd : FuncData} (F : Fun K "_law_pool" "_law_pool" s__law_pool f fd) : FnG P w K mg base 1 f fd ["script"] (spM K d__law_pool) :=
  ok_def (k := 0) F sc__law_pool fun cdv A outer sh H E gd rm =>
   ((mss_cons (ms_par (i := 1) (j := 2) rfl sc__law_pool.nd rfl rfl (by decide) rfl rfl (ma_cons (me_lc (own := [("cell", 3)]) rfl sc__law_pool.nd (mi_seq (me_slice (me_var (pv 0)) mo_none (mo_some me_int))) (blkOk_by (N := ["script", "cells", "mixed", "cell"]) (sc := defScope s__law_pool) (by decide +kernel)) (fun _ _ _ _ _ => (mg_name (i := 3) sc__law_pool.nd rfl (by first | exact .inl rfl | exact .inr rfl))) (fun _ _ _ _ _ => mts_nil) (fun _ _ _ _ _ => (me_add (me_mul me_int (me_abs (by rfl) Z.z_abs (ma_cons (me_var (pv 3)) ma_nil))) (me_inti (by rfl) Z.z_int (ma_cons (me_lt (me_var (pv 3)) me_int) ma_nil)))) (by decide)) (ma_cons (me_add me_int (me_len (by rfl) Z.z_len (ma_cons (me_var (pv 0)) ma_nil))) ma_nil)) (by rfl))
    (mss_cons (ms_for PassesOwn.never rfl (mi_seq (me_var (pv 1))) (mg_name (i := 3) sc__law_pool.nd rfl (by first | exact .inl rfl | exact .inr rfl)) (mss_one (ms_set (i := 2) sc__law_pool.nd rfl (by first | exact .inl rfl | exact .inr rfl) (me_mod (me_inti (by rfl) Z.z_int (ma_cons (me_add (me_mul (me_var (pv 2)) me_int) (me_var (pv 3))) ma_nil)) me_int))))
    (mss_one (ms_ret (me_newD (ma_cons (me_lcD (own := [("cell", 3)]) rfl sc__law_pool.nd (mi_seq (me_var (pv 1))) (blkOk_by (N := ["script", "cells", "mixed", "cell"]) (sc := defScope s__law_pool) (by decide +kernel)) (fun _ _ _ _ _ => (mg_name (i := 3) sc__law_pool.nd rfl (by first | exact .inl rfl | exact .inr rfl))) (fun _ _ _ _ _ => (mts_one (mb_gt (me_var (pv 3)) (me_pow me_int me_int)))) (fun _ _ _ _ _ => (me_var (pv 3))) (by decide)) (ma_cons (me_var (pv 2)) (ma_cons me_int ma_nil)))))))) : MSs _ (defBody s__law_pool) b__law_pool)
theorem ok_round_up (Z : Zs P K mg)  {f : Addr} {fd : FuncData} (F : Fun K "round_up" "round_up" s_round_up f fd) : FnG P w K mg base 1 f fd ["number", "multiple"] (spM K d_round_up) :=
  ok_def (k := 0) F sc_round_up fun cdv A outer sh H E gd rm =>
   ((mss_one (ms_ret (me_mul (me_div (me_sub (me_add (me_var (pv 0)) (me_var (pv 1))) me_int) (me_var (pv 1))) (me_var (pv 1))))) : MSs _ (defBody s_round_up) b_round_up)
theorem ok_greatest_alignment (Z : Zs P K mg)  {f : Addr} {fd : FuncData} (F : Fun K "greatest_alignment" "greatest_alignment" s_greatest_alignment f fd) : FnG P w K mg base 1 f fd ["book", "places"] (spM K d_greatest_alignment) :=
  ok_def (k := 0) F sc_greatest_alignment fun cdv A outer sh H E gd rm =>
   ((mss_one (ms_ret (me_max rfl (by rfl) Z.z_max (ma_cons (me_lc (own := [("place", 2)]) rfl sc_greatest_alignment.nd (mi_seq (me_var (pv 1))) (blkOk_by (N := ["book", "places", "place"]) (sc := defScope s_greatest_alignment) (by decide +kernel)) (fun _ _ _ _ _ => (mg_name (i := 2) sc_greatest_alignment.nd rfl (by first | exact .inl rfl | exact .inr rfl))) (fun _ _ _ _ _ => mts_nil) (fun _ _ _ _ _ => (me_ix (me_ix (me_var (pv 0)) (me_var (pv 2)) fun _ _ => rfl) me_int fun _ _ => rfl)) (by decide)) ma_nil)))) : MSs _ (defBody s_greatest_alignment) b_greatest_alignment)
theorem ok_span_behind (Z : Zs P K mg) (h_round_up : Kn P w K mg base 1 "round_up" s_round_up ["number", "multiple"] d_round_up) {f : Addr} {fd : FuncData} (F : Fun K "span_behind" "span_behind" s_span_behind f fd) : FnG P w K mg base 2 f fd ["kind", "end"] (spM K d_span_behind) :=
  ok_def (k := 1) F sc_span_behind fun cdv A outer sh H E gd rm =>
   ((mss_cons (ms_asg (me_var (pv 0)) (mg_tup rfl (mgs_cons (mg_name (i := 2) sc_span_behind.nd rfl (by first | exact .inl rfl | exact .inr rfl)) (mgs_cons (mg_name (i := 3) sc_span_behind.nd rfl (by first | exact .inl rfl | exact .inr rfl)) mgs_nil))))
    (mss_cons (ms_set (i := 4) sc_span_behind.nd rfl (by first | exact .inl rfl | exact .inr rfl) (me_fn h_round_up gd rm (by decide) (by rfl) (ma_cons (me_var (pv 1)) (ma_cons (me_var (pv 3)) ma_nil))))
    (mss_one (ms_ret (me_tup (ma_cons (me_var (pv 4)) (ma_cons (me_add (me_var (pv 4)) (me_var (pv 2))) ma_nil))))))) : MSs _ (defBody s_span_behind) b_span_behind)
theorem ok_row_end (Z : Zs P K mg) (h_span_behind : Kn P w K mg base 2 "span_behind" s_span_behind ["kind", "end"] d_span_behind) {f : Addr} {fd : FuncData} (F : Fun K "row_end" "row_end" s_row_end f fd) : FnG P w K mg base 3 f fd ["book", "row", "end"] (spM K d_row_end) :=
  ok_def (k := 2) F sc_row_end fun cdv A outer sh H E gd rm =>
   ((mss_cons (ms_for PassesOwn.never rfl (mi_seq (me_var (pv 1))) (mg_name (i := 3) sc_row_end.nd rfl (by first | exact .inl rfl | exact .inr rfl)) (mss_one (ms_asg (me_fn h_span_behind gd rm (by decide) (by rfl) (ma_cons (me_ix (me_var (pv 0)) (me_var (pv 3)) fun _ _ => rfl) (ma_cons (me_var (pv 2)) ma_nil))) (mg_tup rfl (mgs_cons (mg_name (i := 4) sc_row_end.nd rfl (by first | exact .inl rfl | exact .inr rfl)) (mgs_cons (mg_name (i := 2) sc_row_end.nd rfl (by first | exact .inl rfl | exact .inr rfl)) mgs_nil))))))
    (mss_one (ms_ret (me_var (pv 2))))) : MSs _ (defBody s_row_end) b_row_end)
theorem ok_row_whole (Z : Zs P K mg) (h_round_up : Kn P w K mg base 1 "round_up" s_round_up ["number", "multiple"] d_round_up) (h_greatest_alignment : Kn P w K mg base 1 "greatest_alignment" s_greatest_alignment ["book", "places"] d_greatest_alignment) (h_row_end : Kn P w K mg base 3 "row_end" s_row_end ["book", "row", "end"] d_row_end) {f : Addr} {fd : FuncData} (F : Fun K "row_whole" "row_whole" s_row_whole f fd) : FnG P w K mg base 4 f fd ["book", "row"] (spM K d_row_whole) :=
  ok_def (k := 3) F sc_row_whole fun cdv A outer sh H E gd rm =>
   ((mss_one (ms_ret (me_fn h_round_up gd rm (by decide) (by rfl) (ma_cons (me_fn h_row_end gd rm (by decide) (by rfl) (ma_cons (me_var (pv 0)) (ma_cons (me_var (pv 1)) (ma_cons me_int ma_nil)))) (ma_cons (me_fn h_greatest_alignment gd rm (by decide) (by rfl) (ma_cons (me_var (pv 0)) (ma_cons (me_var (pv 1)) ma_nil))) ma_nil))))) : MSs _ (defBody s_row_whole) b_row_whole)
theorem ok_require_few (Z : Zs P K mg)  {f : Addr} {fd : FuncData} (F : Fun K "require_few" "require_few" s_require_few f fd) : FnX P w K mg base 3 f fd ["record"] (spX K mg d_require_few) :=
  okX_def (k := 2) F sc_require_few fun cdv A outer sh H E gd rm po =>
   ((mssx_cons (msx_if (mb_gt (me_sumT rfl (by rfl) Z.z_sum (ma_cons (me_var (pv 0)) ma_nil)) (me_gl (by rfl) (by exact Z.g_MAX_ROW))) (mssx_one (msx_raise1 rfl Z.x1_3 rm (by decide) (by rfl) (me_gl (by rfl) (by exact Z.g_MAX_ROW)))) (mssx_lift mss_nil))
    (mssx_cons (msx_lift (ms_set (i := 1) sc_require_few.nd rfl (by first | exact .inl rfl | exact .inr rfl) me_int))
    (mssx_cons (msx_lift (ms_for po rfl (mi_seq (me_var (pv 0))) (mg_name (i := 2) sc_require_few.nd rfl (by first | exact .inl rfl | exact .inr rfl)) (mss_one (ms_set (i := 1) sc_require_few.nd rfl (by first | exact .inl rfl | exact .inr rfl) (me_mul (me_var (pv 1)) (me_add (me_var (pv 2)) me_int))))))
    (mssx_one (msx_if (mb_gt (me_var (pv 1)) (me_gl (by rfl) (by exact Z.g_MAX_STATES))) (mssx_one (msx_raise1 rfl Z.x1_3 rm (by decide) (by rfl) (me_gl (by rfl) (by exact Z.g_MAX_STATES)))) (mssx_lift mss_nil)))))) : MSsX _ (defBody s_require_few) b_require_few)
theorem ok_parts_of (Z : Zs P K mg)  {f : Addr} {fd : FuncData} (F : Fun K "parts_of" "parts_of" s_parts_of f fd) : FnG P w K mg base 1 f fd ["record"] (spM K d_parts_of) :=
  ok_def (k := 0) F sc_parts_of fun cdv A outer sh H E gd rm =>
   ((mss_cons (ms_set (i := 1) sc_parts_of.nd rfl (by first | exact .inl rfl | exact .inr rfl) (me_lst (ma_cons (me_tup ma_nil) ma_nil)))
    (mss_cons (ms_for PassesOwn.never rfl (mi_seq (me_var (pv 0))) (mg_name (i := 2) sc_parts_of.nd rfl (by first | exact .inl rfl | exact .inr rfl)) (mss_one (ms_setLc2 (n := 1) (own := [("part", 3), ("some", 4)]) (vs1 := [4]) rfl sc_parts_of.nd rfl rfl (swT rfl rfl rfl (by decide +kernel)) (mi_seq (me_var (pv 1))) (blkOk_by (N := ["record", "parts", "number", "part", "some"]) (sc := defScope s_parts_of) (by decide +kernel)) (by decide) (fun _ _ _ _ _ => (mg_name (i := 3) sc_parts_of.nd rfl (by first | exact .inl rfl | exact .inr rfl))) (fun _ _ _ _ _ => mts_nil) (fun _ _ _ _ _ => (mi_range (by rfl) Z.z_range (ma_cons (me_add (me_var (pv 2)) me_int) ma_nil))) (fun _ _ _ _ _ => (mg_name (i := 4) sc_parts_of.nd rfl (by first | exact .inl rfl | exact .inr rfl))) (fun _ _ _ _ _ => mts_nil) (fun _ _ _ _ _ => (me_add (me_var (pv 3)) (me_tup (ma_cons (me_var (pv 4)) ma_nil)))) (by decide) (by decide))))
    (mss_one (ms_ret (me_var (pv 1)))))) : MSs _ (defBody s_parts_of) b_parts_of)
theorem ok_places_there (Z : Zs P K mg)  {f : Addr} {fd : FuncData} (F : Fun K "places_there" "places_there" s_places_there f fd) : FnG P w K mg base 1 f fd ["record"] (spM K d_places_there) :=
  ok_def (k := 0) F sc_places_there fun cdv A outer sh H E gd rm =>
   ((mss_one (ms_ret (me_lc (own := [("place", 1), ("number", 2)]) rfl sc_places_there.nd (mi_enum (by rfl) Z.z_enumerate (ma_cons (me_var (pv 0)) ma_nil)) (blkOk_by (N := ["record", "place", "number"]) (sc := defScope s_places_there) (by decide +kernel)) (fun _ _ _ _ _ => (mg_tup rfl (mgs_cons (mg_name (i := 1) sc_places_there.nd rfl (by first | exact .inl rfl | exact .inr rfl)) (mgs_cons (mg_name (i := 2) sc_places_there.nd rfl (by first | exact .inl rfl | exact .inr rfl)) mgs_nil)))) (fun _ _ _ _ _ => (mts_one (mb_gt (me_var (pv 2)) me_int))) (fun _ _ _ _ _ => (me_var (pv 1))) (by decide)))) : MSs _ (defBody s_places_there) b_places_there)
theorem ok_one_fewer (Z : Zs P K mg)  {f : Addr} {fd : FuncData} (F : Fun K "one_fewer" "one_fewer" s_one_fewer f fd) : FnG P w K mg base 1 f fd ["part", "place"] (spM K d_one_fewer) :=
  ok_def (k := 0) F sc_one_fewer fun cdv A outer sh H E gd rm =>
   ((mss_one (ms_ret (me_add (me_add (me_slice (me_var (pv 0)) mo_none (mo_some (me_var (pv 1)))) (me_tup (ma_cons (me_sub (me_ix (me_var (pv 0)) (me_var (pv 1)) fun _ _ => rfl) me_int) ma_nil))) (me_slice (me_var (pv 0)) (mo_some (me_add (me_var (pv 1)) me_int)) mo_none)))) : MSs _ (defBody s_one_fewer) b_one_fewer)
theorem ok_last_places (Z : Zs P K mg) (h_parts_of : Kn P w K mg base 1 "parts_of" s_parts_of ["record"] d_parts_of) (h_places_there : Kn P w K mg base 1 "places_there" s_places_there ["record"] d_places_there) (h_row_end : Kn P w K mg base 3 "row_end" s_row_end ["book", "row", "end"] d_row_end) (h_one_fewer : Kn P w K mg base 1 "one_fewer" s_one_fewer ["part", "place"] d_one_fewer) {f : Addr} {fd : FuncData} (F : Fun K "last_places" "last_places" s_last_places f fd) : FnG P w K mg base 4 f fd ["book", "record"] (spM K d_last_places) :=
  ok_def (k := 3) F sc_last_places fun cdv A outer sh H E gd rm =>
   ((mss_cons (ms_set (i := 2) sc_last_places.nd rfl (by first | exact .inl rfl | exact .inr rfl) (me_fn h_parts_of gd rm (by decide) (by rfl) (ma_cons (me_var (pv 1)) ma_nil)))
    (mss_cons (ms_set (i := 3) sc_last_places.nd rfl (by first | exact .inl rfl | exact .inr rfl) (me_none1 rm (me_ix (me_var (pv 2)) me_int fun _ _ => rfl) me_int))
    (mss_cons (ms_set (i := 4) sc_last_places.nd rfl (by first | exact .inl rfl | exact .inr rfl) me_nnew)
    (mss_cons (ms_for PassesOwn.never rfl (mi_seq (me_slice (me_var (pv 2)) (mo_some me_int) mo_none)) (mg_name (i := 5) sc_last_places.nd rfl (by first | exact .inl rfl | exact .inr rfl)) (mss_cons (ms_setLc (n := 6) (own := [("place", 7)]) rfl sc_last_places.nd rfl rfl (swT rfl rfl rfl (by decide +kernel)) (mi_seq (me_fn h_places_there gd rm (by decide) (by rfl) (ma_cons (me_var (pv 5)) ma_nil))) (blkOk_by (N := ["book", "record", "parts", "least_ends", "lasts", "part", "ends", "place"]) (sc := defScope s_last_places) (by decide +kernel)) (fun _ _ _ _ _ => (mg_name (i := 7) sc_last_places.nd rfl (by first | exact .inl rfl | exact .inr rfl))) (fun _ _ _ _ _ => mts_nil) (fun _ _ _ _ _ => (me_tup (ma_cons (me_fn h_row_end gd rm (by decide) (by rfl) (ma_cons (me_var (pv 0)) (ma_cons (me_tup (ma_cons (me_var (pv 7)) ma_nil)) (ma_cons (me_nget rm (me_var (pv 3)) (me_fn h_one_fewer gd rm (by decide) (by rfl) (ma_cons (me_var (pv 5)) (ma_cons (me_var (pv 7)) ma_nil))) fun _ _ => rfl) ma_nil)))) (ma_cons (me_var (pv 7)) ma_nil)))) (by decide))
    (mss_one (ms_asg (me_minD rfl rm (by rfl) Z.z_min (ma_cons (me_var (pv 6)) ma_nil)) (mg_tup rfl (mgs_cons (mg_nput rm (me_var (pv 3)) (me_var (pv 5))) (mgs_cons (mg_nput rm (me_var (pv 4)) (me_var (pv 5))) mgs_nil)))))))
    (mss_one (ms_ret (me_var (pv 4)))))))) : MSs _ (defBody s_last_places) b_last_places)
theorem ok_least_row (Z : Zs P K mg) (h_require_few : KnX P w K mg base 3 "require_few" s_require_few ["record"] d_require_few) (h_last_places : Kn P w K mg base 4 "last_places" s_last_places ["book", "record"] d_last_places) (h_one_fewer : Kn P w K mg base 1 "one_fewer" s_one_fewer ["part", "place"] d_one_fewer) {f : Addr} {fd : FuncData} (F : Fun K "least_row" "least_row" s_least_row f fd) : FnX P w K mg base 5 f fd ["book", "record"] (spX K mg d_least_row) :=
  okX_def (k := 4) F sc_least_row fun cdv A outer sh H E gd rm po =>
   ((mssx_cons (msx_expr (mex_fn h_require_few gd rm (by decide) (by rfl) (ma_cons (me_var (pv 1)) ma_nil)))
    (mssx_cons (msx_lift (ms_set (i := 2) sc_least_row.nd rfl (by first | exact .inl rfl | exact .inr rfl) (me_fn h_last_places gd rm (by decide) (by rfl) (ma_cons (me_var (pv 0)) (ma_cons (me_var (pv 1)) ma_nil)))))
    (mssx_cons (msx_lift (ms_set (i := 3) sc_least_row.nd rfl (by first | exact .inl rfl | exact .inr rfl) (me_newL ma_nil)))
    (mssx_cons (msx_lift (ms_set (i := 4) sc_least_row.nd rfl (by first | exact .inl rfl | exact .inr rfl) (me_var (pv 1))))
    (mssx_cons (msx_lift (ms_while po (mb_nin rm (me_var (pv 4)) (me_var (pv 2))) (mss_cons (ms_expr (me_append (me_var (pv 3)) (ma_cons (me_nget rm (me_var (pv 2)) (me_var (pv 4)) fun _ _ => rfl) ma_nil)))
    (mss_one (ms_set (i := 4) sc_least_row.nd rfl (by first | exact .inl rfl | exact .inr rfl) (me_fn h_one_fewer gd rm (by decide) (by rfl) (ma_cons (me_var (pv 4)) (ma_cons (me_nget rm (me_var (pv 2)) (me_var (pv 4)) fun _ _ => rfl) ma_nil))))))))
    (mssx_one (msx_lift (ms_ret (me_tuple (by rfl) Z.z_tuple (ma_cons (me_revL (me_var (pv 3))) ma_nil)))))))))) : MSsX _ (defBody s_least_row) b_least_row)
theorem ok_least_whole (Z : Zs P K mg) (h_row_whole : Kn P w K mg base 4 "row_whole" s_row_whole ["book", "row"] d_row_whole) (h_least_row : KnX P w K mg base 5 "least_row" s_least_row ["book", "record"] d_least_row) {f : Addr} {fd : FuncData} (F : Fun K "least_whole" "least_whole" s_least_whole f fd) : FnX P w K mg base 6 f fd ["book", "record"] (spX K mg d_least_whole) :=
  okX_def (k := 5) F sc_least_whole fun cdv A outer sh H E gd rm po =>
   ((mssx_one (msx_ret (mex_fnA h_row_whole gd rm (by decide) (by rfl) (max_cons (mex_lift (me_var (pv 0))) (max_cons (mex_fn h_least_row gd rm (by decide) (by rfl) (ma_cons (me_var (pv 0)) (ma_cons (me_var (pv 1)) ma_nil))) (max_lift ma_nil)))))) : MSsX _ (defBody s_least_whole) b_least_whole)
theorem ok__law_refusal (Z : Zs P K mg) (h_least_whole : KnX P w K mg base 6 "least_whole" s_least_whole ["book", "record"] d_least_whole) {f : Addr} {fd : FuncData} (F : Fun K "_law_refusal" "_law_refusal" s__law_refusal f fd) : FnG P w K mg base 7 f fd ["book", "record"] (spM K d__law_refusal) :=
  ok_def (k := 6) F sc__law_refusal fun cdv A outer sh H E gd rm =>
   ((mss_cons (ms_tryRet (i := 2) rfl rfl rfl sc__law_refusal.nd rfl rfl (by rfl) (by decide) Z.ht_0 (all_cons Z.kf_2 all_nil) (fun _ _ po => (mssx_one (msx_expr (mex_fn h_least_whole gd rm (by decide) (by rfl) (ma_cons (me_var (pv 0)) (ma_cons (me_var (pv 1)) ma_nil)))))) (fun _ _ _ => pv 2))
    (mss_one (ms_ret me_non))) : MSs _ (defBody s__law_refusal) b__law_refusal)
theorem ok__law_draw (Z : Zs P K mg)  {f : Addr} {fd : FuncData} (F : Fun K "_law_draw" "_law_draw" s__law_draw f fd) : FnG P w K mg base 1 f fd ["pool", "many"] (spM K d__law_draw) :=
  ok_def (k := 0) F sc__law_draw fun cdv A outer sh H E gd rm =>
   ((mss_cons (ms_if (mb_ne rm (me_ix (me_var (pv 0)) me_int fun _ _ => rfl) (me_lst ma_nil)) (mss_cons (ms_set (i := 2) sc__law_draw.nd rfl (by first | exact .inl rfl | exact .inr rfl) (me_ix (me_ix (me_var (pv 0)) me_int fun _ _ => rfl) me_int fun _ _ => rfl))
    (mss_cons (ms_lputD (me_ix (me_var (pv 0)) me_int fun _ _ => rfl) me_int (me_div (me_var (pv 2)) (me_var (pv 1))) fun ho hi => pg_sub ho hi set_list)
    (mss_cons (ms_if (mb_lt (me_var (pv 2)) (me_var (pv 1))) (mss_one (ms_expr (me_popD (me_ix (me_var (pv 0)) me_int fun _ _ => rfl) (ma_cons me_int ma_nil)))) mss_nil)
    (mss_one (ms_ret (me_mod (me_inti (by rfl) Z.z_int (ma_cons (me_var (pv 2)) ma_nil)) (me_var (pv 1)))))))) mss_nil)
    (mss_cons (ms_lputD (me_var (pv 0)) me_int (me_add (me_ix (me_var (pv 0)) me_int fun _ _ => rfl) me_int) fun ho hi => pg_sub ho hi set_list)
    (mss_cons (ms_set (i := 3) sc__law_draw.nd rfl (by first | exact .inl rfl | exact .inr rfl) (me_mod (me_inti (by rfl) Z.z_int (ma_cons (me_add (me_ix (me_var (pv 0)) me_int fun _ _ => rfl) (me_mul me_int (me_ix (me_var (pv 0)) me_int fun _ _ => rfl))) ma_nil)) me_int))
    (mss_cons (ms_set (i := 3) sc__law_draw.nd rfl (by first | exact .inl rfl | exact .inr rfl) (me_mod (me_inti (by rfl) Z.z_int (ma_cons (me_add (me_add (me_mul (me_var (pv 3)) (me_var (pv 3))) (me_mul me_int (me_ix (me_var (pv 0)) me_int fun _ _ => rfl))) me_int) ma_nil)) me_int))
    (mss_cons (ms_set (i := 3) sc__law_draw.nd rfl (by first | exact .inl rfl | exact .inr rfl) (me_mod (me_inti (by rfl) Z.z_int (ma_cons (me_add (me_mul (me_var (pv 3)) (me_var (pv 3))) (me_ix (me_var (pv 0)) me_int fun _ _ => rfl)) ma_nil)) me_int))
    (mss_one (ms_ret (me_mod (me_inti (by rfl) Z.z_int (ma_cons (me_div (me_var (pv 3)) me_int) ma_nil)) (me_var (pv 1)))))))))) : MSs _ (defBody s__law_draw) b__law_draw)
theorem ok__law_pick (Z : Zs P K mg) (h__law_draw : Kn P w K mg base 1 "_law_draw" s__law_draw ["pool", "many"] d__law_draw) {f : Addr} {fd : FuncData} (F : Fun K "_law_pick" "_law_pick" s__law_pick f fd) : FnG P w K mg base 2 f fd ["pool", "items"] (spM K d__law_pick) :=
  ok_def (k := 1) F sc__law_pick fun cdv A outer sh H E gd rm =>
   ((mss_one (ms_ret (me_ix (me_var (pv 1)) (me_fn h__law_draw gd rm (by decide) (by rfl) (ma_cons (me_var (pv 0)) (ma_cons (me_len (by rfl) Z.z_len (ma_cons (me_var (pv 1)) ma_nil)) ma_nil))) fun _ _ => rfl))) : MSs _ (defBody s__law_pick) b__law_pick)
theorem ok__law_kind (Z : Zs P K mg) (h__law_pick : Kn P w K mg base 2 "_law_pick" s__law_pick ["pool", "items"] d__law_pick) (h__law_draw : Kn P w K mg base 1 "_law_draw" s__law_draw ["pool", "many"] d__law_draw) {f : Addr} {fd : FuncData} (F : Fun K "_law_kind" "_law_kind" s__law_kind f fd) : FnG P w K mg base 3 f fd ["pool", "steps", "is_great"] (spM K d__law_kind) :=
  ok_def (k := 2) F sc__law_kind fun cdv A outer sh H E gd rm =>
   ((mss_cons (ms_set (i := 3) sc__law_kind.nd rfl (by first | exact .inl rfl | exact .inr rfl) (me_fn h__law_pick gd rm (by decide) (by rfl) (ma_cons (me_var (pv 0)) (ma_cons (me_var (pv 1)) ma_nil))))
    (mss_cons (ms_set (i := 4) sc__law_kind.nd rfl (by first | exact .inl rfl | exact .inr rfl) (me_mod (me_fn h__law_pick gd rm (by decide) (by rfl) (ma_cons (me_var (pv 0)) (ma_cons (me_lst (ma_cons me_int (ma_cons me_int (ma_cons me_int (ma_cons (me_sub (me_var (pv 3)) me_int) (ma_cons (me_div (me_var (pv 3)) me_int) (ma_cons (me_fn h__law_draw gd rm (by decide) (by rfl) (ma_cons (me_var (pv 0)) (ma_cons (me_var (pv 3)) ma_nil))) ma_nil))))))) ma_nil))) (me_var (pv 3))))
    (mss_cons (ms_set (i := 5) sc__law_kind.nd rfl (by first | exact .inl rfl | exact .inr rfl) (me_fn h__law_pick gd rm (by decide) (by rfl) (ma_cons (me_var (pv 0)) (ma_cons (me_lst (ma_cons me_int (ma_cons me_int (ma_cons me_int (ma_cons me_int (ma_cons me_int (ma_cons me_int (ma_cons me_int (ma_cons me_int (ma_cons (me_add me_int (me_fn h__law_draw gd rm (by decide) (by rfl) (ma_cons (me_var (pv 0)) (ma_cons me_int ma_nil)))) ma_nil)))))))))) ma_nil))))
    (mss_cons (ms_if (MW.toB (mw_and (mb_val (me_var (pv 2))) (mw_and1 (mb_eq rm (me_fn h__law_draw gd rm (by decide) (by rfl) (ma_cons (me_var (pv 0)) (ma_cons me_int ma_nil))) me_int)))) (mss_one (ms_set (i := 5) sc__law_kind.nd rfl (by first | exact .inl rfl | exact .inr rfl) (me_sub (me_div (me_pow me_int me_int) (me_var (pv 3))) (me_fn h__law_draw gd rm (by decide) (by rfl) (ma_cons (me_var (pv 0)) (ma_cons me_int ma_nil)))))) mss_nil)
    (mss_one (ms_ret (me_tup (ma_cons (me_sub (me_mul (me_var (pv 3)) (me_var (pv 5))) (me_var (pv 4))) (ma_cons (me_var (pv 3)) ma_nil))))))))) : MSs _ (defBody s__law_kind) b__law_kind)
theorem ok__law_book (Z : Zs P K mg) (h__law_kind : Kn P w K mg base 3 "_law_kind" s__law_kind ["pool", "steps", "is_great"] d__law_kind) (h__law_draw : Kn P w K mg base 1 "_law_draw" s__law_draw ["pool", "many"] d__law_draw) {f : Addr} {fd : FuncData} (F : Fun K "_law_book" "_law_book" s__law_book f fd) : FnG P w K mg base 4 f fd ["pool", "many", "steps", "is_great"] (spM K d__law_book) :=
  ok_def (k := 3) F sc__law_book fun cdv A outer sh H E gd rm =>
   ((mss_cons (ms_setLcL (n := 4) (own := [("turn", 5)]) rfl sc__law_book.nd rfl rfl (swT rfl rfl rfl (by decide +kernel)) (mi_range (by rfl) Z.z_range (ma_cons (me_var (pv 1)) ma_nil)) (blkOk_by (N := ["pool", "many", "steps", "is_great", "kinds", "turn"]) (sc := defScope s__law_book) (by decide +kernel)) (fun _ _ _ _ _ => (mg_name (i := 5) sc__law_book.nd rfl (by first | exact .inl rfl | exact .inr rfl))) (fun _ _ _ _ _ => mts_nil) (fun _ _ _ _ _ => (me_fn h__law_kind gd rm (by decide) (by rfl) (ma_cons (me_var (pv 0)) (ma_cons (me_var (pv 2)) (ma_cons (me_var (pv 3)) ma_nil))))) (by decide))
    (mss_cons (ms_if (MW.toB (mw_and (mb_gt (me_var (pv 1)) me_int) (mw_and1 (mb_eq rm (me_fn h__law_draw gd rm (by decide) (by rfl) (ma_cons (me_var (pv 0)) (ma_cons me_int ma_nil))) me_int)))) (mss_one (ms_lput (me_var (pv 4)) me_int (me_ix (me_var (pv 4)) (me_neg me_int) fun _ _ => rfl) fun ho hi => pg_sub ho hi set_list)) mss_nil)
    (mss_one (ms_ret (me_tuple (by rfl) Z.z_tuple (ma_cons (me_var (pv 4)) ma_nil)))))) : MSs _ (defBody s__law_book) b__law_book)
theorem ok__law_steps (Z : Zs P K mg) (h__law_pick : Kn P w K mg base 2 "_law_pick" s__law_pick ["pool", "items"] d__law_pick) {f : Addr} {fd : FuncData} (F : Fun K "_law_steps" "_law_steps" s__law_steps f fd) : FnG P w K mg base 3 f fd ["pool"] (spM K d__law_steps) :=
  ok_def (k := 2) F sc__law_steps fun cdv A outer sh H E gd rm =>
   ((mss_cons (ms_set (i := 1) sc__law_steps.nd rfl (by first | exact .inl rfl | exact .inr rfl) (me_lst (ma_cons (me_lst (ma_cons me_int (ma_cons me_int (ma_cons me_int (ma_cons me_int (ma_cons me_int (ma_cons me_int (ma_cons me_int ma_nil)))))))) (ma_cons (me_lst (ma_cons me_int (ma_cons me_int (ma_cons me_int ma_nil)))) (ma_cons (me_lst (ma_cons me_int (ma_cons me_int (ma_cons me_int (ma_cons me_int ma_nil))))) (ma_cons (me_lst (ma_cons me_int (ma_cons me_int ma_nil))) (ma_cons (me_lst (ma_cons me_int (ma_cons me_int ma_nil))) (ma_cons (me_lst (ma_cons me_int (ma_cons me_int (ma_cons me_int ma_nil)))) (ma_cons (me_lst (ma_cons me_int ma_nil)) (ma_cons (me_lst (ma_cons me_int ma_nil)) ma_nil))))))))))
    (mss_one (ms_ret (me_fn h__law_pick gd rm (by decide) (by rfl) (ma_cons (me_var (pv 0)) (ma_cons (me_add (me_var (pv 1)) (me_lst (ma_cons (me_lst (ma_cons me_int (ma_cons me_int (ma_cons me_int (ma_cons me_int (ma_cons me_int (ma_cons me_int (ma_cons me_int ma_nil)))))))) (ma_cons (me_lst (ma_cons me_int (ma_cons me_int (ma_cons me_int ma_nil)))) ma_nil)))) ma_nil)))))) : MSs _ (defBody s__law_steps) b__law_steps)
theorem ok__law_few (Z : Zs P K mg) (h__law_draw : Kn P w K mg base 1 "_law_draw" s__law_draw ["pool", "many"] d__law_draw) {f : Addr} {fd : FuncData} (F : Fun K "_law_few" "_law_few" s__law_few f fd) : FnG P w K mg base 2 f fd ["pool", "many", "most"] (spM K d__law_few) :=
  ok_def (k := 1) F sc__law_few fun cdv A outer sh H E gd rm =>
   ((mss_cons (ms_set (i := 3) sc__law_few.nd rfl (by first | exact .inl rfl | exact .inr rfl) (me_mulL (me_lst (ma_cons me_int ma_nil)) (me_var (pv 1))))
    (mss_cons (ms_for PassesOwn.never rfl (mi_range (by rfl) Z.z_range (ma_cons (me_add me_int (me_fn h__law_draw gd rm (by decide) (by rfl) (ma_cons (me_var (pv 0)) (ma_cons (me_var (pv 2)) ma_nil)))) ma_nil)) (mg_name (i := 4) sc__law_few.nd rfl (by first | exact .inl rfl | exact .inr rfl)) (mss_cons (ms_set (i := 5) sc__law_few.nd rfl (by first | exact .inl rfl | exact .inr rfl) (me_fn h__law_draw gd rm (by decide) (by rfl) (ma_cons (me_var (pv 0)) (ma_cons (me_var (pv 1)) ma_nil))))
    (mss_one (ms_lput (me_var (pv 3)) (me_var (pv 5)) (me_add (me_ix (me_var (pv 3)) (me_var (pv 5)) fun _ _ => rfl) me_int) fun ho hi => pg_sub ho hi set_list))))
    (mss_one (ms_ret (me_tuple (by rfl) Z.z_tuple (ma_cons (me_var (pv 3)) ma_nil)))))) : MSs _ (defBody s__law_few) b__law_few)
theorem ok__law_parts (Z : Zs P K mg)  {f : Addr} {fd : FuncData} (F : Fun K "_law_parts" "_law_parts" s__law_parts f fd) : FnG P w K mg base 1 f fd ["record"] (spM K d__law_parts) :=
  ok_def (k := 0) F sc__law_parts fun cdv A outer sh H E gd rm =>
   ((mss_cons (ms_set (i := 1) sc__law_parts.nd rfl (by first | exact .inl rfl | exact .inr rfl) (me_lst (ma_cons (me_tup ma_nil) ma_nil)))
    (mss_cons (ms_for PassesOwn.never rfl (mi_seq (me_var (pv 0))) (mg_name (i := 2) sc__law_parts.nd rfl (by first | exact .inl rfl | exact .inr rfl)) (mss_cons (ms_set (i := 3) sc__law_parts.nd rfl (by first | exact .inl rfl | exact .inr rfl) (me_lst ma_nil))
    (mss_cons (ms_for PassesOwn.never rfl (mi_seq (me_var (pv 1))) (mg_name (i := 4) sc__law_parts.nd rfl (by first | exact .inl rfl | exact .inr rfl)) (mss_one (ms_set (i := 3) sc__law_parts.nd rfl (by first | exact .inl rfl | exact .inr rfl) (me_add (me_var (pv 3)) (me_lc (own := [("number", 5)]) rfl sc__law_parts.nd (mi_range (by rfl) Z.z_range (ma_cons (me_add (me_inti (by rfl) Z.z_int (ma_cons (me_var (pv 2)) ma_nil)) me_int) ma_nil)) (blkOk_by (N := ["record", "found", "many", "longer", "own", "number"]) (sc := defScope s__law_parts) (by decide +kernel)) (fun _ _ _ _ _ => (mg_name (i := 5) sc__law_parts.nd rfl (by first | exact .inl rfl | exact .inr rfl))) (fun _ _ _ _ _ => mts_nil) (fun _ _ _ _ _ => (me_add (me_var (pv 4)) (me_tup (ma_cons (me_var (pv 5)) ma_nil)))) (by decide))))))
    (mss_one (ms_set (i := 1) sc__law_parts.nd rfl (by first | exact .inl rfl | exact .inr rfl) (me_var (pv 3)))))))
    (mss_one (ms_ret (me_var (pv 1)))))) : MSs _ (defBody s__law_parts) b__law_parts)
theorem ok__law_there (Z : Zs P K mg)  {f : Addr} {fd : FuncData} (F : Fun K "_law_there" "_law_there" s__law_there f fd) : FnG P w K mg base 1 f fd ["record"] (spM K d__law_there) :=
  ok_def (k := 0) F sc__law_there fun cdv A outer sh H E gd rm =>
   ((mss_one (ms_ret (me_lc (own := [("place", 1), ("many", 2)]) rfl sc__law_there.nd (mi_enum (by rfl) Z.z_enumerate (ma_cons (me_var (pv 0)) ma_nil)) (blkOk_by (N := ["record", "place", "many"]) (sc := defScope s__law_there) (by decide +kernel)) (fun _ _ _ _ _ => (mg_tup rfl (mgs_cons (mg_name (i := 1) sc__law_there.nd rfl (by first | exact .inl rfl | exact .inr rfl)) (mgs_cons (mg_name (i := 2) sc__law_there.nd rfl (by first | exact .inl rfl | exact .inr rfl)) mgs_nil)))) (fun _ _ _ _ _ => (mts_one (mb_gt (me_var (pv 2)) me_int))) (fun _ _ _ _ _ => (me_var (pv 1))) (by decide)))) : MSs _ (defBody s__law_there) b__law_there)
theorem ok__law_up (Z : Zs P K mg)  {f : Addr} {fd : FuncData} (F : Fun K "_law_up" "_law_up" s__law_up f fd) : FnG P w K mg base 1 f fd ["number", "step"] (spM K d__law_up) :=
  ok_def (k := 0) F sc__law_up fun cdv A outer sh H E gd rm =>
   ((mss_one (ms_ret (me_mul (me_neg (me_div (me_neg (me_var (pv 0))) (me_var (pv 1)))) (me_var (pv 1))))) : MSs _ (defBody s__law_up) b__law_up)
theorem ok__law_top (Z : Zs P K mg) (h__law_there : Kn P w K mg base 1 "_law_there" s__law_there ["record"] d__law_there) {f : Addr} {fd : FuncData} (F : Fun K "_law_top" "_law_top" s__law_top f fd) : FnG P w K mg base 2 f fd ["book", "record"] (spM K d__law_top) :=
  ok_def (k := 1) F sc__law_top fun cdv A outer sh H E gd rm =>
   ((mss_one (ms_ret (me_max rfl (by rfl) Z.z_max (ma_cons (me_lc (own := [("place", 2)]) rfl sc__law_top.nd (mi_seq (me_fn h__law_there gd rm (by decide) (by rfl) (ma_cons (me_var (pv 1)) ma_nil))) (blkOk_by (N := ["book", "record", "place"]) (sc := defScope s__law_top) (by decide +kernel)) (fun _ _ _ _ _ => (mg_name (i := 2) sc__law_top.nd rfl (by first | exact .inl rfl | exact .inr rfl))) (fun _ _ _ _ _ => mts_nil) (fun _ _ _ _ _ => (me_ix (me_ix (me_var (pv 0)) (me_var (pv 2)) fun _ _ => rfl) me_int fun _ _ => rfl)) (by decide)) ma_nil)))) : MSs _ (defBody s__law_top) b__law_top)
theorem ok__law_least (Z : Zs P K mg) (h__law_parts : Kn P w K mg base 1 "_law_parts" s__law_parts ["record"] d__law_parts) (h__law_there : Kn P w K mg base 1 "_law_there" s__law_there ["record"] d__law_there) (h__law_up : Kn P w K mg base 1 "_law_up" s__law_up ["number", "step"] d__law_up) (h__law_top : Kn P w K mg base 2 "_law_top" s__law_top ["book", "record"] d__law_top) {f : Addr} {fd : FuncData} (F : Fun K "_law_least" "_law_least" s__law_least f fd) : FnG P w K mg base 3 f fd ["book", "record"] (spM K d__law_least) :=
  okT_def (k := 2) F sc__law_least fun cdv A outer sh H E gd rm =>
   ((mss_cons (ms_set (i := 2) sc__law_least.nd rfl (by first | exact .inl rfl | exact .inr rfl) me_nnew)
    (mss_cons (ms_for PassesOwn.never rfl (mi_seq (me_fn h__law_parts gd rm (by decide) (by rfl) (ma_cons (me_var (pv 1)) ma_nil))) (mg_name (i := 3) sc__law_least.nd rfl (by first | exact .inl rfl | exact .inr rfl)) (mss_cons (ms_set (i := 4) sc__law_least.nd rfl (by first | exact .inl rfl | exact .inr rfl) (me_newL ma_nil))
    (mss_cons (ms_for PassesOwn.never rfl (mi_seq (me_fn h__law_there gd rm (by decide) (by rfl) (ma_cons (me_var (pv 3)) ma_nil))) (mg_name (i := 5) sc__law_least.nd rfl (by first | exact .inl rfl | exact .inr rfl)) (mss_cons (ms_asg (me_ix (me_var (pv 0)) (me_var (pv 5)) fun _ _ => rfl) (mg_tup rfl (mgs_cons (mg_name (i := 6) sc__law_least.nd rfl (by first | exact .inl rfl | exact .inr rfl)) (mgs_cons (mg_name (i := 7) sc__law_least.nd rfl (by first | exact .inl rfl | exact .inr rfl)) mgs_nil))))
    (mss_one (ms_expr (me_append (me_var (pv 4)) (ma_cons (me_add (me_fn h__law_up gd rm (by decide) (by rfl) (ma_cons (me_nget rm (me_var (pv 2)) (me_add (me_add (me_slice (me_var (pv 3)) mo_none (mo_some (me_var (pv 5)))) (me_tup (ma_cons (me_sub (me_ix (me_var (pv 3)) (me_var (pv 5)) fun _ _ => rfl) me_int) ma_nil))) (me_slice (me_var (pv 3)) (mo_some (me_add (me_var (pv 5)) me_int)) mo_none)) fun _ _ => rfl) (ma_cons (me_var (pv 7)) ma_nil))) (me_var (pv 6))) ma_nil))))))
    (mss_one (ms_nput rm (me_var (pv 2)) (me_var (pv 3)) (me_ite (mb_ne rm (me_var (pv 4)) (me_lst ma_nil)) (me_min rfl (by rfl) Z.z_min (ma_cons (me_var (pv 4)) ma_nil)) me_int) (by rfl))))))
    (mss_one (ms_ret (me_fn h__law_up gd rm (by decide) (by rfl) (ma_cons (me_nget rm (me_var (pv 2)) (me_tuple (by rfl) Z.z_tuple (ma_cons (me_var (pv 1)) ma_nil)) fun _ _ => rfl) (ma_cons (me_fn h__law_top gd rm (by decide) (by rfl) (ma_cons (me_var (pv 0)) (ma_cons (me_var (pv 1)) ma_nil))) ma_nil))))))) : MSs _ (defBody s__law_least) b__law_least)
theorem ok__law_heard (Z : Zs P K mg) (h_least_row : KnX P w K mg base 5 "least_row" s_least_row ["book", "record"] d_least_row) (h_least_whole : KnX P w K mg base 6 "least_whole" s_least_whole ["book", "record"] d_least_whole) {f : Addr} {fd : FuncData} (F : Fun K "_law_heard" "_law_heard" s__law_heard f fd) : FnG P w K mg base 7 f fd ["book", "record", "is_row", "is_named"] (spM K d__law_heard) :=
  okT_def (k := 6) F sc__law_heard fun cdv A outer sh H E gd rm =>
   ((mss_one (ms_tryAs (i := 4) rfl rfl sc__law_heard.nd rfl rfl (by rfl) (by decide) Z.ht_0 (fun _ _ po => (mssx_cons (msx_if (mb_val (me_var (pv 2))) (mssx_one (msx_ret (mex_lst (max_cons (mex_lift me_str) (max_cons (mex_ite (mb_val (me_var (pv 3))) (mex_fnK (ks := ["record", "book"]) (g := kb_least_row_0_g) h_least_row gd rm (by decide) (by rfl) (fun _ _ U => kb_least_row_0 U) (mk_cons (me_var (pv 1)) (mk_cons (me_var (pv 0)) mk_nil))) (mex_fn h_least_row gd rm (by decide) (by rfl) (ma_cons (me_var (pv 0)) (ma_cons (me_var (pv 1)) ma_nil)))) (max_lift ma_nil)))))) (mssx_lift mss_nil))
    (mssx_one (msx_ret (mex_lst (max_cons (mex_lift me_str) (max_cons (mex_ite (mb_val (me_var (pv 3))) (mex_fnK (ks := ["record", "book"]) (g := kb_least_whole_0_g) h_least_whole gd rm (by decide) (by rfl) (fun _ _ U => kb_least_whole_0 U) (mk_cons (me_var (pv 1)) (mk_cons (me_var (pv 0)) mk_nil))) (mex_fn h_least_whole gd rm (by decide) (by rfl) (ma_cons (me_var (pv 0)) (ma_cons (me_var (pv 1)) ma_nil)))) (max_lift ma_nil)))))))) (fun xa oe xc xd xe pn hz hfd he => (mss_one (ms_ret (me_lst (ma_cons me_str (ma_cons (me_fldE Z.kf_2 hz hfd he (pv 4)) (ma_cons (me_isEo hz hfd he Z.io_1 (pv 4) (by rfl) (by rfl) Z.z_isinstance (by decide)) ma_nil))))))))) : MSs _ (defBody s__law_heard) b__law_heard)
theorem ok__law_is_row (Z : Zs P K mg)  {f : Addr} {fd : FuncData} (F : Fun K "_law_is_row" "_law_is_row" s__law_is_row f fd) : FnG P w K mg base 1 f fd ["book", "record", "value"] (spM K d__law_is_row) :=
  ok_def (k := 0) F sc__law_is_row fun cdv A outer sh H E gd rm =>
   ((mss_cons (ms_if (MW.toB (mw_or (mb_not (mb_val (me_isi (by rfl) Z.z_isinstance (by rfl) Z.z_tuple (by decide +kernel) (me_var (pv 2))))) (mw_or1 (mb_ne rm (me_len (by rfl) Z.z_len (ma_cons (me_var (pv 2)) ma_nil)) (me_sumT rfl (by rfl) Z.z_sum (ma_cons (me_var (pv 1)) ma_nil)))))) (mss_one (ms_ret me_bl)) mss_nil)
    (mss_cons (ms_if (mb_ne rm (me_lc (own := [("place", 3)]) rfl sc__law_is_row.nd (mi_seq (me_var (pv 2))) (blkOk_by (N := ["book", "record", "value", "place"]) (sc := defScope s__law_is_row) (by decide +kernel)) (fun _ _ _ _ _ => (mg_name (i := 3) sc__law_is_row.nd rfl (by first | exact .inl rfl | exact .inr rfl))) (fun _ _ _ _ _ => (mts_one (MW.toB (mw_or (mb_val (me_isi (by rfl) Z.z_isinstance (by rfl) Z.z_bool (by decide +kernel) (me_var (pv 3)))) (mw_or1 (mb_not (mb_val (me_isi (by rfl) Z.z_isinstance (by rfl) Z.z_int (by decide +kernel) (me_var (pv 3)))))))))) (fun _ _ _ _ _ => me_int) (by decide)) (me_lst ma_nil)) (mss_one (ms_ret me_bl)) mss_nil)
    (mss_one (ms_ret (me_eq rm (me_tuple (by rfl) Z.z_tuple (ma_cons (me_lc (own := [("place", 3)]) rfl sc__law_is_row.nd (mi_range (by rfl) Z.z_range (ma_cons (me_len (by rfl) Z.z_len (ma_cons (me_var (pv 0)) ma_nil)) ma_nil)) (blkOk_by (N := ["book", "record", "value", "place"]) (sc := defScope s__law_is_row) (by decide +kernel)) (fun _ _ _ _ _ => (mg_name (i := 3) sc__law_is_row.nd rfl (by first | exact .inl rfl | exact .inr rfl))) (fun _ _ _ _ _ => mts_nil) (fun _ _ _ _ _ => (me_count (me_var (pv 2)) (ma_cons (me_var (pv 3)) ma_nil))) (by decide)) ma_nil)) (me_var (pv 1))))))) : MSs _ (defBody s__law_is_row) b__law_is_row)
theorem ok__law_end (Z : Zs P K mg) (h__law_up : Kn P w K mg base 1 "_law_up" s__law_up ["number", "step"] d__law_up) {f : Addr} {fd : FuncData} (F : Fun K "_law_end" "_law_end" s__law_end f fd) : FnG P w K mg base 2 f fd ["book", "row", "end"] (spM K d__law_end) :=
  ok_def (k := 1) F sc__law_end fun cdv A outer sh H E gd rm =>
   ((mss_cons (ms_for PassesOwn.never rfl (mi_seq (me_var (pv 1))) (mg_name (i := 3) sc__law_end.nd rfl (by first | exact .inl rfl | exact .inr rfl)) (mss_one (ms_set (i := 2) sc__law_end.nd rfl (by first | exact .inl rfl | exact .inr rfl) (me_add (me_fn h__law_up gd rm (by decide) (by rfl) (ma_cons (me_var (pv 2)) (ma_cons (me_ix (me_ix (me_var (pv 0)) (me_var (pv 3)) fun _ _ => rfl) me_int fun _ _ => rfl) ma_nil))) (me_ix (me_ix (me_var (pv 0)) (me_var (pv 3)) fun _ _ => rfl) me_int fun _ _ => rfl)))))
    (mss_one (ms_ret (me_var (pv 2))))) : MSs _ (defBody s__law_end) b__law_end)
theorem ok__law_size (Z : Zs P K mg) (h__law_up : Kn P w K mg base 1 "_law_up" s__law_up ["number", "step"] d__law_up) (h__law_end : Kn P w K mg base 2 "_law_end" s__law_end ["book", "row", "end"] d__law_end) {f : Addr} {fd : FuncData} (F : Fun K "_law_size" "_law_size" s__law_size f fd) : FnG P w K mg base 3 f fd ["book", "row"] (spM K d__law_size) :=
  ok_def (k := 2) F sc__law_size fun cdv A outer sh H E gd rm =>
   ((mss_one (ms_ret (me_fn h__law_up gd rm (by decide) (by rfl) (ma_cons (me_fn h__law_end gd rm (by decide) (by rfl) (ma_cons (me_var (pv 0)) (ma_cons (me_var (pv 1)) (ma_cons me_int ma_nil)))) (ma_cons (me_max rfl (by rfl) Z.z_max (ma_cons (me_lc (own := [("place", 2)]) rfl sc__law_size.nd (mi_seq (me_var (pv 1))) (blkOk_by (N := ["book", "row", "place"]) (sc := defScope s__law_size) (by decide +kernel)) (fun _ _ _ _ _ => (mg_name (i := 2) sc__law_size.nd rfl (by first | exact .inl rfl | exact .inr rfl))) (fun _ _ _ _ _ => mts_nil) (fun _ _ _ _ _ => (me_ix (me_ix (me_var (pv 0)) (me_var (pv 2)) fun _ _ => rfl) me_int fun _ _ => rfl)) (by decide)) ma_nil)) ma_nil))))) : MSs _ (defBody s__law_size) b__law_size)
theorem ok__law_are_apart (Z : Zs P K mg) (h__law_draw : Kn P w K mg base 1 "_law_draw" s__law_draw ["pool", "many"] d__law_draw) (h__law_book : Kn P w K mg base 4 "_law_book" s__law_book ["pool", "many", "steps", "is_great"] d__law_book) (h__law_steps : Kn P w K mg base 3 "_law_steps" s__law_steps ["pool"] d__law_steps) (h__law_few : Kn P w K mg base 2 "_law_few" s__law_few ["pool", "many", "most"] d__law_few) (h__law_least : Kn P w K mg base 3 "_law_least" s__law_least ["book", "record"] d__law_least) (h__law_heard : Kn P w K mg base 7 "_law_heard" s__law_heard ["book", "record", "is_row", "is_named"] d__law_heard) (h__law_is_row : Kn P w K mg base 1 "_law_is_row" s__law_is_row ["book", "record", "value"] d__law_is_row) (h__law_size : Kn P w K mg base 3 "_law_size" s__law_size ["book", "row"] d__law_size) {f : Addr} {fd : FuncData} (F : Fun K "_law_are_apart" "_law_are_apart" s__law_are_apart f fd) : FnG P w K mg base 8 f fd ["pool"] (spM K d__law_are_apart) :=
  okC_def (k := 7) F sc__law_are_apart fun cdv A outer sh H E gd rm =>
   ((mss_cons (ms_par3 (i := 1) (j := 2) (l := 3) rfl sc__law_are_apart.nd rfl rfl rfl (by decide) (by decide) (by decide) rfl rfl rfl (ma_cons (me_newL ma_nil) (ma_cons me_knew (ma_cons (me_tup ma_nil) ma_nil))) (by rfl))
    (mss_cons (ms_for PassesOwn.never rfl (mi_range (by rfl) Z.z_range (ma_cons me_int ma_nil)) (mg_name (i := 4) sc__law_are_apart.nd rfl (by first | exact .inl rfl | exact .inr rfl)) (mss_cons (ms_set (i := 5) sc__law_are_apart.nd rfl (by first | exact .inl rfl | exact .inr rfl) (me_add me_int (me_fnC h__law_draw gd rm (by decide) (by rfl) (ma_cons (me_var (pv 0)) (ma_cons me_int ma_nil)))))
    (mss_cons (ms_par (i := 6) (j := 7) rfl sc__law_are_apart.nd rfl rfl (by decide) rfl rfl (ma_cons (me_fnC h__law_book gd rm (by decide) (by rfl) (ma_cons (me_var (pv 0)) (ma_cons (me_var (pv 5)) (ma_cons (me_fnC h__law_steps gd rm (by decide) (by rfl) (ma_cons (me_var (pv 0)) ma_nil)) (ma_cons (me_eq rm (me_var (pv 4)) me_int) ma_nil))))) (ma_cons (me_fnC h__law_few gd rm (by decide) (by rfl) (ma_cons (me_var (pv 0)) (ma_cons (me_var (pv 5)) (ma_cons me_int ma_nil)))) ma_nil)) (by rfl))
    (mss_cons (ms_if (MW.toB (mw_and (mb_eq rm (me_var (pv 4)) me_int) (mw_and1 (mb_eq rm (me_fnC h__law_draw gd rm (by decide) (by rfl) (ma_cons (me_var (pv 0)) (ma_cons me_int ma_nil))) me_int)))) (mss_one (ms_par (i := 6) (j := 7) rfl sc__law_are_apart.nd rfl rfl (by decide) rfl rfl (ma_cons (me_tuple (by rfl) Z.z_tuple (ma_cons (me_lc (own := [("many", 5)]) rfl sc__law_are_apart.nd (mi_seq (me_var (pv 3))) (blkOk_by (N := ["pool", "asked", "kept", "record", "turn", "many", "book", "fresh", "due", "is_row", "heard"]) (sc := defScope s__law_are_apart) (by decide +kernel)) (fun _ _ _ _ _ => (mg_name (i := 5) sc__law_are_apart.nd rfl (by first | exact .inl rfl | exact .inr rfl))) (fun _ _ _ _ _ => mts_nil) (fun _ _ _ _ _ => (me_tup (ma_cons (me_add me_int (me_fnC h__law_draw gd rm (by decide) (by rfl) (ma_cons (me_var (pv 0)) (ma_cons me_int ma_nil)))) (ma_cons me_int ma_nil)))) (by decide)) ma_nil)) (ma_cons (me_var (pv 3)) ma_nil)) (by rfl))) mss_nil)
    (mss_cons (ms_par (i := 3) (j := 8) rfl sc__law_are_apart.nd rfl rfl (by decide) rfl rfl (ma_cons (me_var (pv 7)) (ma_cons (me_fnC h__law_least gd rm (by decide) (by rfl) (ma_cons (me_var (pv 6)) (ma_cons (me_var (pv 7)) ma_nil))) ma_nil)) (by rfl))
    (mss_one (ms_set (i := 1) sc__law_are_apart.nd rfl (by first | exact .inl rfl | exact .inr rfl) (me_addL (me_add (me_frz (me_var (pv 1))) (me_mul (me_lst (ma_cons (me_tup (ma_cons me_bl (ma_cons (me_var (pv 6)) (ma_cons (me_var (pv 3)) (ma_cons (me_var (pv 8)) ma_nil))))) (ma_cons (me_tup (ma_cons me_bl (ma_cons (me_var (pv 6)) (ma_cons (me_var (pv 3)) (ma_cons (me_var (pv 8)) ma_nil))))) ma_nil))) me_int)) (me_lst (ma_cons (me_tup (ma_cons me_bl (ma_cons (me_var (pv 6)) (ma_cons (me_var (pv 3)) (ma_cons (me_var (pv 8)) ma_nil))))) ma_nil))))))))))
    (mss_cons (ms_while PassesOwn.never (mb_ne rm (me_var (pv 1)) (me_lst ma_nil)) (mss_cons (ms_asg (me_popAt (me_var (pv 1)) (ma_cons (me_fnC h__law_draw gd rm (by decide) (by rfl) (ma_cons (me_var (pv 0)) (ma_cons (me_len (by rfl) Z.z_len (ma_cons (me_var (pv 1)) ma_nil)) ma_nil))) ma_nil)) (mg_tup rfl (mgs_cons (mg_name (i := 9) sc__law_are_apart.nd rfl (by first | exact .inl rfl | exact .inr rfl)) (mgs_cons (mg_name (i := 6) sc__law_are_apart.nd rfl (by first | exact .inl rfl | exact .inr rfl)) (mgs_cons (mg_name (i := 3) sc__law_are_apart.nd rfl (by first | exact .inl rfl | exact .inr rfl)) (mgs_cons (mg_name (i := 8) sc__law_are_apart.nd rfl (by first | exact .inl rfl | exact .inr rfl)) mgs_nil))))))
    (mss_cons (ms_set (i := 10) sc__law_are_apart.nd rfl (by first | exact .inl rfl | exact .inr rfl) (me_fnC h__law_heard gd rm (by decide) (by rfl) (ma_cons (me_var (pv 6)) (ma_cons (me_var (pv 3)) (ma_cons (me_var (pv 9)) (ma_cons me_bl ma_nil))))))
    (mss_cons (ms_if (MW.toB (mw_or (mb_ne rm (me_ix (me_var (pv 10)) me_int fun _ _ => rfl) me_str) (mw_or1 (MW.toB (mw_and (mb_not (mb_val (me_var (pv 9)))) (mw_and1 (mb_ne rm (me_repr gd rm (by rfl) Z.z_repr (ma_cons (me_ix (me_var (pv 10)) me_int fun _ _ => rfl) ma_nil)) (me_repr gd rm (by rfl) Z.z_repr (ma_cons (me_var (pv 8)) ma_nil))))))))) (mss_one (ms_ret me_bl)) mss_nil)
    (mss_cons (ms_if (mb_ne rm (me_kget2 rm (me_var (pv 2)) (me_tup (ma_cons (me_var (pv 9)) (ma_cons (me_var (pv 6)) (ma_cons (me_var (pv 3)) ma_nil)))) (me_repr gd rm (by rfl) Z.z_repr (ma_cons (me_var (pv 10)) ma_nil)) ⟨rfl, rfl, rfl, rfl⟩) (me_repr gd rm (by rfl) Z.z_repr (ma_cons (me_var (pv 10)) ma_nil))) (mss_one (ms_ret me_bl)) mss_nil)
    (mss_cons (ms_kput rm (me_var (pv 2)) (me_tup (ma_cons (me_var (pv 9)) (ma_cons (me_var (pv 6)) (ma_cons (me_var (pv 3)) ma_nil)))) (me_repr gd rm (by rfl) Z.z_repr (ma_cons (me_var (pv 10)) ma_nil)) (by rfl))
    (mss_one (ms_if (MW.toB (mw_and (mb_val (me_var (pv 9))) (mw_and1 (MW.toB (mw_or (mb_not (mb_val (me_fnC h__law_is_row gd rm (by decide) (by rfl) (ma_cons (me_var (pv 6)) (ma_cons (me_var (pv 3)) (ma_cons (me_ix (me_var (pv 10)) me_int fun _ _ => rfl) ma_nil)))))) (mw_or1 (mb_ne rm (me_fnC h__law_size gd rm (by decide) (by rfl) (ma_cons (me_var (pv 6)) (ma_cons (me_ix (me_var (pv 10)) me_int fun _ _ => rfl) ma_nil))) (me_var (pv 8))))))))) (mss_one (ms_ret me_bl)) mss_nil))))))))
    (mss_one (ms_ret me_bl))))) : MSs _ (defBody s__law_are_apart) b__law_are_apart)
theorem ok__law_edge (Z : Zs P K mg) (h__law_pick : Kn P w K mg base 2 "_law_pick" s__law_pick ["pool", "items"] d__law_pick) {f : Addr} {fd : FuncData} (F : Fun K "_law_edge" "_law_edge" s__law_edge f fd) : FnG P w K mg base 3 f fd ["pool"] (spM K d__law_edge) :=
  ok_def (k := 2) F sc__law_edge fun cdv A outer sh H E gd rm =>
   ((mss_cons (ms_set (i := 1) sc__law_edge.nd rfl (by first | exact .inl rfl | exact .inr rfl) (me_lst (ma_cons (me_tup (ma_cons me_int ma_nil)) (ma_cons (me_tup (ma_cons me_int ma_nil)) (ma_cons (me_tup (ma_cons me_int (ma_cons me_int ma_nil))) (ma_cons (me_tup (ma_cons me_int (ma_cons me_int ma_nil))) (ma_cons (me_tup (ma_cons me_int (ma_cons me_int ma_nil))) (ma_cons (me_tup (ma_cons me_int (ma_cons me_int ma_nil))) (ma_cons (me_tup (ma_cons me_int (ma_cons me_int ma_nil))) (ma_cons (me_tup (ma_cons me_int (ma_cons me_int ma_nil))) (ma_cons (me_tup (ma_cons me_int (ma_cons me_int ma_nil))) (ma_cons (me_tup (ma_cons me_int (ma_cons me_int ma_nil))) (ma_cons (me_tup (ma_cons me_int (ma_cons me_int ma_nil))) ma_nil)))))))))))))
    (mss_cons (ms_set (i := 1) sc__law_edge.nd rfl (by first | exact .inl rfl | exact .inr rfl) (me_add (me_var (pv 1)) (me_lst (ma_cons (me_tup (ma_cons me_int (ma_cons me_int (ma_cons me_int (ma_cons me_int ma_nil))))) ma_nil))))
    (mss_cons (ms_set (i := 1) sc__law_edge.nd rfl (by first | exact .inl rfl | exact .inr rfl) (me_add (me_var (pv 1)) (me_lst (ma_cons (me_tup (ma_cons me_int (ma_cons me_int (ma_cons me_int (ma_cons me_int (ma_cons me_int ma_nil)))))) (ma_cons (me_repT (me_tup (ma_cons me_int ma_nil)) me_int) (ma_cons (me_tup (ma_cons me_int (ma_cons me_int (ma_cons me_int (ma_cons me_int (ma_cons me_int (ma_cons me_int ma_nil))))))) (ma_cons (me_tup (ma_cons me_int (ma_cons me_int (ma_cons me_int (ma_cons me_int (ma_cons me_int (ma_cons me_int ma_nil))))))) (ma_cons (me_tup (ma_cons me_int (ma_cons me_int ma_nil))) (ma_cons (me_tup (ma_cons me_int (ma_cons me_int ma_nil))) (ma_cons (me_tup (ma_cons me_int (ma_cons me_int ma_nil))) ma_nil))))))))))
    (mss_cons (ms_set (i := 1) sc__law_edge.nd rfl (by first | exact .inl rfl | exact .inr rfl) (me_add (me_var (pv 1)) (me_lst (ma_cons (me_tup (ma_cons me_int (ma_cons me_int ma_nil))) ma_nil))))
    (mss_cons (ms_set (i := 1) sc__law_edge.nd rfl (by first | exact .inl rfl | exact .inr rfl) (me_add (me_var (pv 1)) (me_lst (ma_cons (me_tup (ma_cons me_int (ma_cons me_int ma_nil))) (ma_cons (me_tup (ma_cons (me_pow me_int me_int) ma_nil)) (ma_cons (me_tup (ma_cons (me_pow me_int me_int) (ma_cons me_int (ma_cons me_int ma_nil)))) (ma_cons (me_tup (ma_cons me_int (ma_cons me_int (ma_cons me_int (ma_cons me_int ma_nil))))) (ma_cons (me_tup (ma_cons me_int (ma_cons me_int (ma_cons me_int (ma_cons me_int ma_nil))))) (ma_cons (me_tup (ma_cons me_int (ma_cons me_int (ma_cons me_int (ma_cons me_int ma_nil))))) (ma_cons (me_tup (ma_cons me_int (ma_cons me_int ma_nil))) ma_nil))))))))))
    (mss_cons (ms_set (i := 1) sc__law_edge.nd rfl (by first | exact .inl rfl | exact .inr rfl) (me_add (me_var (pv 1)) (me_lst (ma_cons (me_tup (ma_cons me_int ma_nil)) ma_nil))))
    (mss_cons (ms_set (i := 1) sc__law_edge.nd rfl (by first | exact .inl rfl | exact .inr rfl) (me_add (me_var (pv 1)) (me_lst (ma_cons (me_tup (ma_cons me_int (ma_cons me_int ma_nil))) (ma_cons (me_tup (ma_cons me_int (ma_cons me_int (ma_cons me_int ma_nil)))) (ma_cons (me_tup (ma_cons me_int (ma_cons me_int (ma_cons me_int ma_nil)))) (ma_cons (me_tup (ma_cons me_int (ma_cons me_int (ma_cons me_int ma_nil)))) (ma_cons (me_tup (ma_cons me_int (ma_cons me_int (ma_cons me_int ma_nil)))) (ma_cons (me_tup (ma_cons me_int (ma_cons me_int (ma_cons me_int ma_nil)))) (ma_cons (me_tup (ma_cons me_int (ma_cons me_int ma_nil))) (ma_cons (me_tup (ma_cons me_int (ma_cons me_int (ma_cons me_int (ma_cons me_int (ma_cons me_int (ma_cons me_int ma_nil))))))) ma_nil)))))))))))
    (mss_cons (ms_set (i := 1) sc__law_edge.nd rfl (by first | exact .inl rfl | exact .inr rfl) (me_add (me_var (pv 1)) (me_lst (ma_cons (me_tup (ma_cons me_int (ma_cons me_int ma_nil))) ma_nil))))
    (mss_one (ms_ret (me_fn h__law_pick gd rm (by decide) (by rfl) (ma_cons (me_var (pv 0)) (ma_cons (me_var (pv 1)) ma_nil))))))))))))) : MSs _ (defBody s__law_edge) b__law_edge)
theorem ok__law_is_right (Z : Zs P K mg) (h__law_heard : Kn P w K mg base 7 "_law_heard" s__law_heard ["book", "record", "is_row", "is_named"] d__law_heard) (h__law_is_row : Kn P w K mg base 1 "_law_is_row" s__law_is_row ["book", "record", "value"] d__law_is_row) (h__law_size : Kn P w K mg base 3 "_law_size" s__law_size ["book", "row"] d__law_size) {f : Addr} {fd : FuncData} (F : Fun K "_law_is_right" "_law_is_right" s__law_is_right f fd) : FnG P w K mg base 8 f fd ["book", "record", "is_named"] (spM K d__law_is_right) :=
  ok_def (k := 7) F sc__law_is_right fun cdv A outer sh H E gd rm =>
   ((mss_cons (ms_par (i := 3) (j := 4) rfl sc__law_is_right.nd rfl rfl (by decide) rfl rfl (ma_cons (me_repr gd rm (by rfl) Z.z_repr (ma_cons (me_lst (ma_cons (me_var (pv 0)) (ma_cons (me_var (pv 1)) ma_nil))) ma_nil)) (ma_cons me_int ma_nil)) (by rfl))
    (mss_cons (ms_for PassesOwn.never rfl (mi_seq (me_var (pv 1))) (mg_name (i := 5) sc__law_is_right.nd rfl (by first | exact .inl rfl | exact .inr rfl)) (mss_one (ms_set (i := 4) sc__law_is_right.nd rfl (by first | exact .inl rfl | exact .inr rfl) (me_mul (me_var (pv 4)) (me_add (me_var (pv 5)) me_int)))))
    (mss_cons (ms_par (i := 6) (j := 7) rfl sc__law_is_right.nd rfl rfl (by decide) rfl rfl (ma_cons (me_fn h__law_heard gd rm (by decide) (by rfl) (ma_cons (me_var (pv 0)) (ma_cons (me_var (pv 1)) (ma_cons me_bl (ma_cons (me_var (pv 2)) ma_nil))))) (ma_cons (me_fn h__law_heard gd rm (by decide) (by rfl) (ma_cons (me_var (pv 0)) (ma_cons (me_var (pv 1)) (ma_cons me_bl (ma_cons (me_var (pv 2)) ma_nil))))) ma_nil)) (by rfl))
    (mss_cons (ms_if (mb_ne rm (me_repr gd rm (by rfl) Z.z_repr (ma_cons (me_lst (ma_cons (me_var (pv 0)) (ma_cons (me_var (pv 1)) ma_nil))) ma_nil)) (me_var (pv 3))) (mss_one (ms_ret me_bl)) mss_nil)
    (mss_cons (ms_if (MW.toB (mw_or (mb_gt (me_sumT rfl (by rfl) Z.z_sum (ma_cons (me_var (pv 1)) ma_nil)) me_int) (mw_or1 (mb_gt (me_var (pv 4)) me_int)))) (mss_cons (ms_if (mb_ne rm (me_repr gd rm (by rfl) Z.z_repr (ma_cons (me_fn h__law_heard gd rm (by decide) (by rfl) (ma_cons (me_var (pv 0)) (ma_cons (me_var (pv 1)) (ma_cons me_bl (ma_cons me_bl ma_nil))))) ma_nil)) (me_repr gd rm (by rfl) Z.z_repr (ma_cons (me_var (pv 7)) ma_nil))) (mss_one (ms_ret me_bl)) mss_nil)
    (mss_cons (ms_set (i := 8) sc__law_is_right.nd rfl (by first | exact .inl rfl | exact .inr rfl) (me_ite (mb_gt (me_sumT rfl (by rfl) Z.z_sum (ma_cons (me_var (pv 1)) ma_nil)) me_int) me_int me_int))
    (mss_one (ms_ret (me_eq rm (me_repr gd rm (by rfl) Z.z_repr (ma_cons (me_lst (ma_cons (me_var (pv 6)) (ma_cons (me_var (pv 7)) ma_nil))) ma_nil)) (me_repr gd rm (by rfl) Z.z_repr (ma_cons (me_mul (me_lst (ma_cons (me_lst (ma_cons me_str (ma_cons (me_var (pv 8)) (ma_cons me_bl ma_nil)))) ma_nil)) me_int) ma_nil))))))) mss_nil)
    (mss_cons (ms_if (MW.toB (mw_or (mb_ne rm (me_ix (me_var (pv 6)) me_int fun _ _ => rfl) me_str) (mw_or (mb_ne rm (me_ix (me_var (pv 7)) me_int fun _ _ => rfl) me_str) (mw_or1 (mb_not (mb_val (me_fn h__law_is_row gd rm (by decide) (by rfl) (ma_cons (me_var (pv 0)) (ma_cons (me_var (pv 1)) (ma_cons (me_ix (me_var (pv 7)) me_int fun _ _ => rfl) ma_nil)))))))))) (mss_one (ms_ret me_bl)) mss_nil)
    (mss_one (ms_ret (me_eq rm (me_repr gd rm (by rfl) Z.z_repr (ma_cons (me_ix (me_var (pv 6)) me_int fun _ _ => rfl) ma_nil)) (me_repr gd rm (by rfl) Z.z_repr (ma_cons (me_fn h__law_size gd rm (by decide) (by rfl) (ma_cons (me_var (pv 0)) (ma_cons (me_ix (me_var (pv 7)) me_int fun _ _ => rfl) ma_nil))) ma_nil))))))))))) : MSs _ (defBody s__law_is_right) b__law_is_right)
theorem ok_law (Z : Zs P K mg) (h__law_pool : Kn P w K mg base 1 "_law_pool" s__law_pool ["script"] d__law_pool) (h__law_refusal : Kn P w K mg base 7 "_law_refusal" s__law_refusal ["book", "record"] d__law_refusal) (h__law_are_apart : Kn P w K mg base 8 "_law_are_apart" s__law_are_apart ["pool"] d__law_are_apart) (h__law_edge : Kn P w K mg base 3 "_law_edge" s__law_edge ["pool"] d__law_edge) (h__law_book : Kn P w K mg base 4 "_law_book" s__law_book ["pool", "many", "steps", "is_great"] d__law_book) (h__law_steps : Kn P w K mg base 3 "_law_steps" s__law_steps ["pool"] d__law_steps) (h__law_is_right : Kn P w K mg base 8 "_law_is_right" s__law_is_right ["book", "record", "is_named"] d__law_is_right) {f : Addr} {fd : FuncData} (F : Fun K "law" "law" s_law f fd) : FnG P w K mg base 9 f fd ["script"] (spM K d_law) :=
  okC_def (k := 8) F sc_law fun cdv A outer sh H E gd rm =>
   ((mss_cons (ms_set (i := 1) sc_law.nd rfl (by first | exact .inl rfl | exact .inr rfl) (me_fn h__law_pool gd rm (by decide) (by rfl) (ma_cons (me_var (pv 0)) ma_nil)))
    (mss_cons (ms_set (i := 2) sc_law.nd rfl (by first | exact .inl rfl | exact .inr rfl) (me_newD (ma_cons (me_fn h__law_refusal gd rm (by decide) (by rfl) (ma_cons (me_tup (ma_cons (me_tup (ma_cons me_int (ma_cons me_int ma_nil))) (ma_cons (me_tup (ma_cons me_int (ma_cons me_int ma_nil))) ma_nil))) (ma_cons (me_tup (ma_cons me_int (ma_cons me_int ma_nil))) ma_nil))) (ma_cons (me_fn h__law_refusal gd rm (by decide) (by rfl) (ma_cons (me_tup (ma_cons (me_tup (ma_cons me_int (ma_cons me_int ma_nil))) ma_nil)) (ma_cons (me_tup (ma_cons me_int ma_nil)) ma_nil))) ma_nil))))
    (mss_cons (ms_expr (me_append (me_var (pv 2)) (ma_cons (me_fn h__law_refusal gd rm (by decide) (by rfl) (ma_cons (me_tup (ma_cons (me_tup (ma_cons me_int (ma_cons me_int ma_nil))) ma_nil)) (ma_cons (me_tup (ma_cons (me_pow me_int me_int) ma_nil)) ma_nil))) ma_nil)))
    (mss_cons (ms_if (MW.toB (mw_or (mb_ne rm (me_lcR (own := [("slip", 3)]) rfl sc_law.nd (me_var (pv 2)) (blkOk_by (N := ["script", "pool", "slips", "slip", "turn", "record", "book"]) (sc := defScope s_law) (by decide +kernel)) (fun _ _ _ _ _ => (mg_name (i := 3) sc_law.nd rfl (by first | exact .inl rfl | exact .inr rfl))) (fun _ _ _ _ _ => mts_nil) (fun _ _ _ _ _ => (me_isN (me_var (pv 3)) me_non)) (by decide)) (me_mul (me_lst (ma_cons me_bl ma_nil)) me_int)) (mw_or1 (mb_ne rm (me_repr gd rm (by rfl) Z.z_repr (ma_cons (me_lcR (own := [("slip", 3)]) rfl sc_law.nd (me_var (pv 2)) (blkOk_by (N := ["script", "pool", "slips", "slip", "turn", "record", "book"]) (sc := defScope s_law) (by decide +kernel)) (fun _ _ _ _ _ => (mg_name (i := 3) sc_law.nd rfl (by first | exact .inl rfl | exact .inr rfl))) (fun _ _ _ _ _ => mts_nil) (fun _ _ _ _ _ => (me_fldR (pv 3))) (by decide)) ma_nil)) (me_repr gd rm (by rfl) Z.z_repr (ma_cons (me_lst (ma_cons me_int (ma_cons me_int (ma_cons me_int ma_nil)))) ma_nil)))))) (mss_one (ms_ret me_bl)) mss_nil)
    (mss_cons (ms_if (mb_not (mb_val (me_fnC h__law_are_apart gd rm (by decide) (by rfl) (ma_cons (me_var (pv 1)) ma_nil)))) (mss_one (ms_ret me_bl)) mss_nil)
    (mss_cons (ms_for PassesOwn.never rfl (mi_range (by rfl) Z.z_range (ma_cons me_int ma_nil)) (mg_name (i := 4) sc_law.nd rfl (by first | exact .inl rfl | exact .inr rfl)) (mss_cons (ms_set (i := 5) sc_law.nd rfl (by first | exact .inl rfl | exact .inr rfl) (me_fnC h__law_edge gd rm (by decide) (by rfl) (ma_cons (me_var (pv 1)) ma_nil)))
    (mss_cons (ms_set (i := 6) sc_law.nd rfl (by first | exact .inl rfl | exact .inr rfl) (me_fnC h__law_book gd rm (by decide) (by rfl) (ma_cons (me_var (pv 1)) (ma_cons (me_len (by rfl) Z.z_len (ma_cons (me_var (pv 5)) ma_nil)) (ma_cons (me_fnC h__law_steps gd rm (by decide) (by rfl) (ma_cons (me_var (pv 1)) ma_nil)) (ma_cons (me_eq rm (me_var (pv 4)) me_int) ma_nil))))))
    (mss_one (ms_if (mb_not (mb_val (me_fnC h__law_is_right gd rm (by decide) (by rfl) (ma_cons (me_var (pv 6)) (ma_cons (me_var (pv 5)) (ma_cons (me_eq rm (me_var (pv 4)) me_int) ma_nil)))))) (mss_one (ms_ret me_bl)) mss_nil)))))
    (mss_one (ms_ret me_bl)))))))) : MSs _ (defBody s_law) b_law)
end
/-- what the top has written -/
theorem all_mk {P : Program} {w : World} {K : PySem.W.Frag} {h : Heap} {mg : Str → Option Value} {fa : Addr} (X : K.In h) (G : h.Ns mainGlobals mg) (hfa : mg "law" = some (.ref fa))
    {f0 : Addr} {od0 an0 : Option Addr} {sl0 : Array (Option Value)} {oc0 kV0 dc0 pm0 cd0 ct0 : Value}
    (a0 : PySem.W.nsIn K mainGlobals "_law_pool" = some (some (.ref f0))) (l0 : K.lookup f0 = some ⟨oc0, od0, .func (PySem.W.fnOf "_law_pool" "_law_pool" (defArgs s__law_pool) (defBody s__law_pool) (defScope s__law_pool) .none kV0 dc0 pm0 an0 cd0 ct0), sl0⟩) (c0 : PySem.W.codeIn K cd0 "_law_pool" = true) (k0 : PySem.W.keepIn K (.ref f0) = true)
    {f1 : Addr} {od1 an1 : Option Addr} {sl1 : Array (Option Value)} {oc1 kV1 dc1 pm1 cd1 ct1 : Value}
    (a1 : PySem.W.nsIn K mainGlobals "round_up" = some (some (.ref f1))) (l1 : K.lookup f1 = some ⟨oc1, od1, .func (PySem.W.fnOf "round_up" "round_up" (defArgs s_round_up) (defBody s_round_up) (defScope s_round_up) .none kV1 dc1 pm1 an1 cd1 ct1), sl1⟩) (c1 : PySem.W.codeIn K cd1 "round_up" = true) (k1 : PySem.W.keepIn K (.ref f1) = true)
    {f2 : Addr} {od2 an2 : Option Addr} {sl2 : Array (Option Value)} {oc2 kV2 dc2 pm2 cd2 ct2 : Value}
    (a2 : PySem.W.nsIn K mainGlobals "greatest_alignment" = some (some (.ref f2))) (l2 : K.lookup f2 = some ⟨oc2, od2, .func (PySem.W.fnOf "greatest_alignment" "greatest_alignment" (defArgs s_greatest_alignment) (defBody s_greatest_alignment) (defScope s_greatest_alignment) .none kV2 dc2 pm2 an2 cd2 ct2), sl2⟩) (c2 : PySem.W.codeIn K cd2 "greatest_alignment" = true) (k2 : PySem.W.keepIn K (.ref f2) = true)
    {f3 : Addr} {od3 an3 : Option Addr} {sl3 : Array (Option Value)} {oc3 kV3 dc3 pm3 cd3 ct3 : Value}
    (a3 : PySem.W.nsIn K mainGlobals "span_behind" = some (some (.ref f3))) (l3 : K.lookup f3 = some ⟨oc3, od3, .func (PySem.W.fnOf "span_behind" "span_behind" (defArgs s_span_behind) (defBody s_span_behind) (defScope s_span_behind) .none kV3 dc3 pm3 an3 cd3 ct3), sl3⟩) (c3 : PySem.W.codeIn K cd3 "span_behind" = true) (k3 : PySem.W.keepIn K (.ref f3) = true)
    {f4 : Addr} {od4 an4 : Option Addr} {sl4 : Array (Option Value)} {oc4 kV4 dc4 pm4 cd4 ct4 : Value}
    (a4 : PySem.W.nsIn K mainGlobals "row_end" = some (some (.ref f4))) (l4 : K.lookup f4 = some ⟨oc4, od4, .func (PySem.W.fnOf "row_end" "row_end" (defArgs s_row_end) (defBody s_row_end) (defScope s_row_end) .none kV4 dc4 pm4 an4 cd4 ct4), sl4⟩) (c4 : PySem.W.codeIn K cd4 "row_end" = true) (k4 : PySem.W.keepIn K (.ref f4) = true)
    {f5 : Addr} {od5 an5 : Option Addr} {sl5 : Array (Option Value)} {oc5 kV5 dc5 pm5 cd5 ct5 : Value}
    (a5 : PySem.W.nsIn K mainGlobals "row_whole" = some (some (.ref f5))) (l5 : K.lookup f5 = some ⟨oc5, od5, .func (PySem.W.fnOf "row_whole" "row_whole" (defArgs s_row_whole) (defBody s_row_whole) (defScope s_row_whole) .none kV5 dc5 pm5 an5 cd5 ct5), sl5⟩) (c5 : PySem.W.codeIn K cd5 "row_whole" = true) (k5 : PySem.W.keepIn K (.ref f5) = true)
    {f6 : Addr} {od6 an6 : Option Addr} {sl6 : Array (Option Value)} {oc6 kV6 dc6 pm6 cd6 ct6 : Value}
    (a6 : PySem.W.nsIn K mainGlobals "require_few" = some (some (.ref f6))) (l6 : K.lookup f6 = some ⟨oc6, od6, .func (PySem.W.fnOf "require_few" "require_few" (defArgs s_require_few) (defBody s_require_few) (defScope s_require_few) .none kV6 dc6 pm6 an6 cd6 ct6), sl6⟩) (c6 : PySem.W.codeIn K cd6 "require_few" = true) (k6 : PySem.W.keepIn K (.ref f6) = true)
    {f7 : Addr} {od7 an7 : Option Addr} {sl7 : Array (Option Value)} {oc7 kV7 dc7 pm7 cd7 ct7 : Value}
    (a7 : PySem.W.nsIn K mainGlobals "parts_of" = some (some (.ref f7))) (l7 : K.lookup f7 = some ⟨oc7, od7, .func (PySem.W.fnOf "parts_of" "parts_of" (defArgs s_parts_of) (defBody s_parts_of) (defScope s_parts_of) .none kV7 dc7 pm7 an7 cd7 ct7), sl7⟩) (c7 : PySem.W.codeIn K cd7 "parts_of" = true) (k7 : PySem.W.keepIn K (.ref f7) = true)
    {f8 : Addr} {od8 an8 : Option Addr} {sl8 : Array (Option Value)} {oc8 kV8 dc8 pm8 cd8 ct8 : Value}
    (a8 : PySem.W.nsIn K mainGlobals "places_there" = some (some (.ref f8))) (l8 : K.lookup f8 = some ⟨oc8, od8, .func (PySem.W.fnOf "places_there" "places_there" (defArgs s_places_there) (defBody s_places_there) (defScope s_places_there) .none kV8 dc8 pm8 an8 cd8 ct8), sl8⟩) (c8 : PySem.W.codeIn K cd8 "places_there" = true) (k8 : PySem.W.keepIn K (.ref f8) = true)
    {f9 : Addr} {od9 an9 : Option Addr} {sl9 : Array (Option Value)} {oc9 kV9 dc9 pm9 cd9 ct9 : Value}
    (a9 : PySem.W.nsIn K mainGlobals "one_fewer" = some (some (.ref f9))) (l9 : K.lookup f9 = some ⟨oc9, od9, .func (PySem.W.fnOf "one_fewer" "one_fewer" (defArgs s_one_fewer) (defBody s_one_fewer) (defScope s_one_fewer) .none kV9 dc9 pm9 an9 cd9 ct9), sl9⟩) (c9 : PySem.W.codeIn K cd9 "one_fewer" = true) (k9 : PySem.W.keepIn K (.ref f9) = true)
    {f10 : Addr} {od10 an10 : Option Addr} {sl10 : Array (Option Value)} {oc10 kV10 dc10 pm10 cd10 ct10 : Value}
    (a10 : PySem.W.nsIn K mainGlobals "last_places" = some (some (.ref f10))) (l10 : K.lookup f10 = some ⟨oc10, od10, .func (PySem.W.fnOf "last_places" "last_places" (defArgs s_last_places) (defBody s_last_places) (defScope s_last_places) .none kV10 dc10 pm10 an10 cd10 ct10), sl10⟩) (c10 : PySem.W.codeIn K cd10 "last_places" = true) (k10 : PySem.W.keepIn K (.ref f10) = true)
    {f11 : Addr} {od11 an11 : Option Addr} {sl11 : Array (Option Value)} {oc11 kV11 dc11 pm11 cd11 ct11 : Value}
    (a11 : PySem.W.nsIn K mainGlobals "least_row" = some (some (.ref f11))) (l11 : K.lookup f11 = some ⟨oc11, od11, .func (PySem.W.fnOf "least_row" "least_row" (defArgs s_least_row) (defBody s_least_row) (defScope s_least_row) .none kV11 dc11 pm11 an11 cd11 ct11), sl11⟩) (c11 : PySem.W.codeIn K cd11 "least_row" = true) (k11 : PySem.W.keepIn K (.ref f11) = true)
    {f12 : Addr} {od12 an12 : Option Addr} {sl12 : Array (Option Value)} {oc12 kV12 dc12 pm12 cd12 ct12 : Value}
    (a12 : PySem.W.nsIn K mainGlobals "least_whole" = some (some (.ref f12))) (l12 : K.lookup f12 = some ⟨oc12, od12, .func (PySem.W.fnOf "least_whole" "least_whole" (defArgs s_least_whole) (defBody s_least_whole) (defScope s_least_whole) .none kV12 dc12 pm12 an12 cd12 ct12), sl12⟩) (c12 : PySem.W.codeIn K cd12 "least_whole" = true) (k12 : PySem.W.keepIn K (.ref f12) = true)
    {f13 : Addr} {od13 an13 : Option Addr} {sl13 : Array (Option Value)} {oc13 kV13 dc13 pm13 cd13 ct13 : Value}
    (a13 : PySem.W.nsIn K mainGlobals "_law_refusal" = some (some (.ref f13))) (l13 : K.lookup f13 = some ⟨oc13, od13, .func (PySem.W.fnOf "_law_refusal" "_law_refusal" (defArgs s__law_refusal) (defBody s__law_refusal) (defScope s__law_refusal) .none kV13 dc13 pm13 an13 cd13 ct13), sl13⟩) (c13 : PySem.W.codeIn K cd13 "_law_refusal" = true) (k13 : PySem.W.keepIn K (.ref f13) = true)
    {f14 : Addr} {od14 an14 : Option Addr} {sl14 : Array (Option Value)} {oc14 kV14 dc14 pm14 cd14 ct14 : Value}
    (a14 : PySem.W.nsIn K mainGlobals "_law_draw" = some (some (.ref f14))) (l14 : K.lookup f14 = some ⟨oc14, od14, .func (PySem.W.fnOf "_law_draw" "_law_draw" (defArgs s__law_draw) (defBody s__law_draw) (defScope s__law_draw) .none kV14 dc14 pm14 an14 cd14 ct14), sl14⟩) (c14 : PySem.W.codeIn K cd14 "_law_draw" = true) (k14 : PySem.W.keepIn K (.ref f14) = true)
    {f15 : Addr} {od15 an15 : Option Addr} {sl15 : Array (Option Value)} {oc15 kV15 dc15 pm15 cd15 ct15 : Value}
    (a15 : PySem.W.nsIn K mainGlobals "_law_pick" = some (some (.ref f15))) (l15 : K.lookup f15 = some ⟨oc15, od15, .func (PySem.W.fnOf "_law_pick" "_law_pick" (defArgs s__law_pick) (defBody s__law_pick) (defScope s__law_pick) .none kV15 dc15 pm15 an15 cd15 ct15), sl15⟩) (c15 : PySem.W.codeIn K cd15 "_law_pick" = true) (k15 : PySem.W.keepIn K (.ref f15) = true)
    {f16 : Addr} {od16 an16 : Option Addr} {sl16 : Array (Option Value)} {oc16 kV16 dc16 pm16 cd16 ct16 : Value}
    (a16 : PySem.W.nsIn K mainGlobals "_law_kind" = some (some (.ref f16))) (l16 : K.lookup f16 = some ⟨oc16, od16, .func (PySem.W.fnOf "_law_kind" "_law_kind" (defArgs s__law_kind) (defBody s__law_kind) (defScope s__law_kind) .none kV16 dc16 pm16 an16 cd16 ct16), sl16⟩) (c16 : PySem.W.codeIn K cd16 "_law_kind" = true) (k16 : PySem.W.keepIn K (.ref f16) = true)
    {f17 : Addr} {od17 an17 : Option Addr} {sl17 : Array (Option Value)} {oc17 kV17 dc17 pm17 cd17 ct17 : Value}
    (a17 : PySem.W.nsIn K mainGlobals "_law_book" = some (some (.ref f17))) (l17 : K.lookup f17 = some ⟨oc17, od17, .func (PySem.W.fnOf "_law_book" "_law_book" (defArgs s__law_book) (defBody s__law_book) (defScope s__law_book) .none kV17 dc17 pm17 an17 cd17 ct17), sl17⟩) (c17 : PySem.W.codeIn K cd17 "_law_book" = true) (k17 : PySem.W.keepIn K (.ref f17) = true)
    {f18 : Addr} {od18 an18 : Option Addr} {sl18 : Array (Option Value)} {oc18 kV18 dc18 pm18 cd18 ct18 : Value}
    (a18 : PySem.W.nsIn K mainGlobals "_law_steps" = some (some (.ref f18))) (l18 : K.lookup f18 = some ⟨oc18, od18, .func (PySem.W.fnOf "_law_steps" "_law_steps" (defArgs s__law_steps) (defBody s__law_steps) (defScope s__law_steps) .none kV18 dc18 pm18 an18 cd18 ct18), sl18⟩) (c18 : PySem.W.codeIn K cd18 "_law_steps" = true) (k18 : PySem.W.keepIn K (.ref f18) = true)
    {f19 : Addr} {od19 an19 : Option Addr} {sl19 : Array (Option Value)} {oc19 kV19 dc19 pm19 cd19 ct19 : Value}
    (a19 : PySem.W.nsIn K mainGlobals "_law_few" = some (some (.ref f19))) (l19 : K.lookup f19 = some ⟨oc19, od19, .func (PySem.W.fnOf "_law_few" "_law_few" (defArgs s__law_few) (defBody s__law_few) (defScope s__law_few) .none kV19 dc19 pm19 an19 cd19 ct19), sl19⟩) (c19 : PySem.W.codeIn K cd19 "_law_few" = true) (k19 : PySem.W.keepIn K (.ref f19) = true)
    {f20 : Addr} {od20 an20 : Option Addr} {sl20 : Array (Option Value)} {oc20 kV20 dc20 pm20 cd20 ct20 : Value}
    (a20 : PySem.W.nsIn K mainGlobals "_law_parts" = some (some (.ref f20))) (l20 : K.lookup f20 = some ⟨oc20, od20, .func (PySem.W.fnOf "_law_parts" "_law_parts" (defArgs s__law_parts) (defBody s__law_parts) (defScope s__law_parts) .none kV20 dc20 pm20 an20 cd20 ct20), sl20⟩) (c20 : PySem.W.codeIn K cd20 "_law_parts" = true) (k20 : PySem.W.keepIn K (.ref f20) = true)
    {f21 : Addr} {od21 an21 : Option Addr} {sl21 : Array (Option Value)} {oc21 kV21 dc21 pm21 cd21 ct21 : Value}
    (a21 : PySem.W.nsIn K mainGlobals "_law_there" = some (some (.ref f21))) (l21 : K.lookup f21 = some ⟨oc21, od21, .func (PySem.W.fnOf "_law_there" "_law_there" (defArgs s__law_there) (defBody s__law_there) (defScope s__law_there) .none kV21 dc21 pm21 an21 cd21 ct21), sl21⟩) (c21 : PySem.W.codeIn K cd21 "_law_there" = true) (k21 : PySem.W.keepIn K (.ref f21) = true)
    {f22 : Addr} {od22 an22 : Option Addr} {sl22 : Array (Option Value)} {oc22 kV22 dc22 pm22 cd22 ct22 : Value}
    (a22 : PySem.W.nsIn K mainGlobals "_law_up" = some (some (.ref f22))) (l22 : K.lookup f22 = some ⟨oc22, od22, .func (PySem.W.fnOf "_law_up" "_law_up" (defArgs s__law_up) (defBody s__law_up) (defScope s__law_up) .none kV22 dc22 pm22 an22 cd22 ct22), sl22⟩) (c22 : PySem.W.codeIn K cd22 "_law_up" = true) (k22 : PySem.W.keepIn K (.ref f22) = true)
    {f23 : Addr} {od23 an23 : Option Addr} {sl23 : Array (Option Value)} {oc23 kV23 dc23 pm23 cd23 ct23 : Value}
    (a23 : PySem.W.nsIn K mainGlobals "_law_top" = some (some (.ref f23))) (l23 : K.lookup f23 = some ⟨oc23, od23, .func (PySem.W.fnOf "_law_top" "_law_top" (defArgs s__law_top) (defBody s__law_top) (defScope s__law_top) .none kV23 dc23 pm23 an23 cd23 ct23), sl23⟩) (c23 : PySem.W.codeIn K cd23 "_law_top" = true) (k23 : PySem.W.keepIn K (.ref f23) = true)
    {f24 : Addr} {od24 an24 : Option Addr} {sl24 : Array (Option Value)} {oc24 kV24 dc24 pm24 cd24 ct24 : Value}
    (a24 : PySem.W.nsIn K mainGlobals "_law_least" = some (some (.ref f24))) (l24 : K.lookup f24 = some ⟨oc24, od24, .func (PySem.W.fnOf "_law_least" "_law_least" (defArgs s__law_least) (defBody s__law_least) (defScope s__law_least) .none kV24 dc24 pm24 an24 cd24 ct24), sl24⟩) (c24 : PySem.W.codeIn K cd24 "_law_least" = true) (k24 : PySem.W.keepIn K (.ref f24) = true)
    {f25 : Addr} {od25 an25 : Option Addr} {sl25 : Array (Option Value)} {oc25 kV25 dc25 pm25 cd25 ct25 : Value}
    (a25 : PySem.W.nsIn K mainGlobals "_law_heard" = some (some (.ref f25))) (l25 : K.lookup f25 = some ⟨oc25, od25, .func (PySem.W.fnOf "_law_heard" "_law_heard" (defArgs s__law_heard) (defBody s__law_heard) (defScope s__law_heard) .none kV25 dc25 pm25 an25 cd25 ct25), sl25⟩) (c25 : PySem.W.codeIn K cd25 "_law_heard" = true) (k25 : PySem.W.keepIn K (.ref f25) = true)
    {f26 : Addr} {od26 an26 : Option Addr} {sl26 : Array (Option Value)} {oc26 kV26 dc26 pm26 cd26 ct26 : Value}
    (a26 : PySem.W.nsIn K mainGlobals "_law_is_row" = some (some (.ref f26))) (l26 : K.lookup f26 = some ⟨oc26, od26, .func (PySem.W.fnOf "_law_is_row" "_law_is_row" (defArgs s__law_is_row) (defBody s__law_is_row) (defScope s__law_is_row) .none kV26 dc26 pm26 an26 cd26 ct26), sl26⟩) (c26 : PySem.W.codeIn K cd26 "_law_is_row" = true) (k26 : PySem.W.keepIn K (.ref f26) = true)
    {f27 : Addr} {od27 an27 : Option Addr} {sl27 : Array (Option Value)} {oc27 kV27 dc27 pm27 cd27 ct27 : Value}
    (a27 : PySem.W.nsIn K mainGlobals "_law_end" = some (some (.ref f27))) (l27 : K.lookup f27 = some ⟨oc27, od27, .func (PySem.W.fnOf "_law_end" "_law_end" (defArgs s__law_end) (defBody s__law_end) (defScope s__law_end) .none kV27 dc27 pm27 an27 cd27 ct27), sl27⟩) (c27 : PySem.W.codeIn K cd27 "_law_end" = true) (k27 : PySem.W.keepIn K (.ref f27) = true)
    {f28 : Addr} {od28 an28 : Option Addr} {sl28 : Array (Option Value)} {oc28 kV28 dc28 pm28 cd28 ct28 : Value}
    (a28 : PySem.W.nsIn K mainGlobals "_law_size" = some (some (.ref f28))) (l28 : K.lookup f28 = some ⟨oc28, od28, .func (PySem.W.fnOf "_law_size" "_law_size" (defArgs s__law_size) (defBody s__law_size) (defScope s__law_size) .none kV28 dc28 pm28 an28 cd28 ct28), sl28⟩) (c28 : PySem.W.codeIn K cd28 "_law_size" = true) (k28 : PySem.W.keepIn K (.ref f28) = true)
    {f29 : Addr} {od29 an29 : Option Addr} {sl29 : Array (Option Value)} {oc29 kV29 dc29 pm29 cd29 ct29 : Value}
    (a29 : PySem.W.nsIn K mainGlobals "_law_are_apart" = some (some (.ref f29))) (l29 : K.lookup f29 = some ⟨oc29, od29, .func (PySem.W.fnOf "_law_are_apart" "_law_are_apart" (defArgs s__law_are_apart) (defBody s__law_are_apart) (defScope s__law_are_apart) .none kV29 dc29 pm29 an29 cd29 ct29), sl29⟩) (c29 : PySem.W.codeIn K cd29 "_law_are_apart" = true) (k29 : PySem.W.keepIn K (.ref f29) = true)
    {f30 : Addr} {od30 an30 : Option Addr} {sl30 : Array (Option Value)} {oc30 kV30 dc30 pm30 cd30 ct30 : Value}
    (a30 : PySem.W.nsIn K mainGlobals "_law_edge" = some (some (.ref f30))) (l30 : K.lookup f30 = some ⟨oc30, od30, .func (PySem.W.fnOf "_law_edge" "_law_edge" (defArgs s__law_edge) (defBody s__law_edge) (defScope s__law_edge) .none kV30 dc30 pm30 an30 cd30 ct30), sl30⟩) (c30 : PySem.W.codeIn K cd30 "_law_edge" = true) (k30 : PySem.W.keepIn K (.ref f30) = true)
    {f31 : Addr} {od31 an31 : Option Addr} {sl31 : Array (Option Value)} {oc31 kV31 dc31 pm31 cd31 ct31 : Value}
    (a31 : PySem.W.nsIn K mainGlobals "_law_is_right" = some (some (.ref f31))) (l31 : K.lookup f31 = some ⟨oc31, od31, .func (PySem.W.fnOf "_law_is_right" "_law_is_right" (defArgs s__law_is_right) (defBody s__law_is_right) (defScope s__law_is_right) .none kV31 dc31 pm31 an31 cd31 ct31), sl31⟩) (c31 : PySem.W.codeIn K cd31 "_law_is_right" = true) (k31 : PySem.W.keepIn K (.ref f31) = true)
    {f32 : Addr} {od32 an32 : Option Addr} {sl32 : Array (Option Value)} {oc32 kV32 dc32 pm32 cd32 ct32 : Value}
    (a32 : PySem.W.nsIn K mainGlobals "law" = some (some (.ref f32))) (l32 : K.lookup f32 = some ⟨oc32, od32, .func (PySem.W.fnOf "law" "law" (defArgs s_law) (defBody s_law) (defScope s_law) .none kV32 dc32 pm32 an32 cd32 ct32), sl32⟩) (c32 : PySem.W.codeIn K cd32 "law" = true) (k32 : PySem.W.keepIn K (.ref f32) = true)
    (z_enumerate : PySem.W.nsIn K mainGlobals "enumerate" = some none)
    (z_max : PySem.W.nsIn K mainGlobals "max" = some none)
    (z_tuple : PySem.W.nsIn K mainGlobals "tuple" = some none)
    (z_sum : PySem.W.nsIn K mainGlobals "sum" = some none)
    (z_min : PySem.W.nsIn K mainGlobals "min" = some none)
    (z_range : PySem.W.nsIn K mainGlobals "range" = some none)
    (z_abs : PySem.W.nsIn K mainGlobals "abs" = some none)
    (z_int : PySem.W.nsIn K mainGlobals "int" = some none)
    (z_len : PySem.W.nsIn K mainGlobals "len" = some none)
    (z_isinstance : PySem.W.nsIn K mainGlobals "isinstance" = some none)
    (z_repr : PySem.W.nsIn K mainGlobals "repr" = some none)
    (z_bool : PySem.W.nsIn K mainGlobals "bool" = some none)
    {gt_MAX_ROW : Tok} (g_MAX_ROW : PySem.W.nsIn K mainGlobals "MAX_ROW" = some (some (.int 100 gt_MAX_ROW)))
    {gt_MAX_STATES : Tok} (g_MAX_STATES : PySem.W.nsIn K mainGlobals "MAX_STATES" = some (some (.int 256 gt_MAX_STATES)))
    {C_TooMany : Addr}
    (xa_TooMany : PySem.W.nsIn K mainGlobals "TooMany" = some (some (.ref C_TooMany)))
    (xk_TooMany : PySem.W.keepIn K (.ref C_TooMany) = true)
    (xs_TooMany : PySem.W.subIn K (.ref C_TooMany) (.type "BaseException") = some true)
    (xt_TooMany : PySem.W.typeIn K (.ref C_TooMany) = some (.type "type"))
    (xi_TooMany : PySem.W.isClsIn K C_TooMany = true)
    (xg_TooMany : PySem.W.findIn K (.ref C_TooMany) "__getattribute__" = some (some (.builtin "BaseException.__getattribute__")))
    (xh_TooMany : PySem.W.findIn K (.ref C_TooMany) "__getattr__" = some none)
    (xc_TooMany : PySem.W.findIn K (.ref C_TooMany) "__class__" = some (some (.builtin "object.__class__")))
    (xm_TooMany : PySem.W.mroIn K C_TooMany (.type "object") = some true)
    (xsp : PySem.W.specialIn K (.builtin "object.__class__") "__get__" = some (some (.builtin "getset_descriptor.__get__")))
    (xtk : PySem.W.takesIn K (.builtin "object.__class__") = some true)
    (xp_TooMany_TooMany : PySem.W.subIn K (.ref C_TooMany) (.ref C_TooMany) = some true)
    {C_FieldsError : Addr}
    (xa_FieldsError : PySem.W.nsIn K mainGlobals "FieldsError" = some (some (.ref C_FieldsError)))
    (xk_FieldsError : PySem.W.keepIn K (.ref C_FieldsError) = true)
    (xs_FieldsError : PySem.W.subIn K (.ref C_FieldsError) (.type "BaseException") = some true)
    (xt_FieldsError : PySem.W.typeIn K (.ref C_FieldsError) = some (.type "type"))
    (xi_FieldsError : PySem.W.isClsIn K C_FieldsError = true)
    (xg_FieldsError : PySem.W.findIn K (.ref C_FieldsError) "__getattribute__" = some (some (.builtin "BaseException.__getattribute__")))
    (xh_FieldsError : PySem.W.findIn K (.ref C_FieldsError) "__getattr__" = some none)
    (xc_FieldsError : PySem.W.findIn K (.ref C_FieldsError) "__class__" = some (some (.builtin "object.__class__")))
    (xm_FieldsError : PySem.W.mroIn K C_FieldsError (.type "object") = some true)
    (xp_TooMany_FieldsError : PySem.W.subIn K (.ref C_TooMany) (.ref C_FieldsError) = some true)
    (xd_TooMany : PySem.W.hasDictIn K C_TooMany = true)
    (xn_TooMany_limit : PySem.W.findIn K (.ref C_TooMany) "limit" = some none)
    {yf_TooMany ycc_TooMany ycda_TooMany yNN_TooMany : Addr} {yp0_TooMany yp1_TooMany yp2_TooMany yp3_TooMany yp4_TooMany yp5_TooMany yp6_TooMany yp7_TooMany yp8_TooMany yq_TooMany : Pos} {yj_TooMany : Nat} {ypa_TooMany : Arguments} {ysc_TooMany : Scope} {ydV_TooMany ykV_TooMany ydc_TooMany ypm_TooMany yct_TooMany yoc_TooMany yccl_TooMany ycl_TooMany : Value} {yan_TooMany yod_TooMany ydd_TooMany ycdd_TooMany ycld_TooMany : Option Addr} {yosl_TooMany yccs_TooMany ycsl_TooMany : Array (Option Value)} {ynm_TooMany yqn_TooMany yfnm_TooMany yfq_TooMany yfile_TooMany : Str} {ybs_TooMany ybm_TooMany ysub_TooMany : List Value} {ysn_TooMany : List Str} {yab_TooMany : Bool} {ycol_TooMany : Option Bool} {yk0_TooMany yk1_TooMany yk2_TooMany yk3_TooMany yk5_TooMany : Option Value} {yvs_TooMany : Array Value} {ytf_TooMany : Tok}
    (yhiC_TooMany : PySem.W.findIn K (.ref C_TooMany) "__init__" = some (some (.ref yf_TooMany)))
    (yhtI_TooMany : PySem.W.typeIn K (.ref yf_TooMany) = some (.type "function"))
    (yhlC_TooMany : K.lookup C_TooMany = some (excClassObj ynm_TooMany yqn_TooMany C_TooMany yNN_TooMany ybs_TooMany ybm_TooMany true ysn_TooMany ysub_TooMany yab_TooMany ycol_TooMany ydd_TooMany yk0_TooMany yk1_TooMany yk2_TooMany yk3_TooMany yk5_TooMany "ValueError.__new__"))
    (yhvb_TooMany : PySem.HandSPX.refsVE ybm_TooMany = true)
    (yhsa_TooMany : PySem.W.findIn K (.ref C_TooMany) "__setattr__" = some (some (.builtin "object.__setattr__")))
    (yhlI_TooMany : K.lookup yf_TooMany = some ⟨yoc_TooMany, yod_TooMany, .func (sxFn "self" "limit" "limit" "a limit is passed" yfnm_TooMany yfq_TooMany ypa_TooMany ysc_TooMany yj_TooMany yp0_TooMany yp1_TooMany yp2_TooMany yp3_TooMany yp4_TooMany yp5_TooMany yp6_TooMany yp7_TooMany yp8_TooMany yq_TooMany ydV_TooMany ykV_TooMany ydc_TooMany ypm_TooMany yan_TooMany ycda_TooMany yct_TooMany ycc_TooMany), yosl_TooMany⟩)
    (yhhcd_TooMany : PySem.W.codeIn K (.ref ycda_TooMany) yfq_TooMany = true)
    (yhlD_TooMany : K.lookup ycda_TooMany = some ⟨yccl_TooMany, ycdd_TooMany, .fields yvs_TooMany, yccs_TooMany⟩)
    (yhhvs_TooMany : yvs_TooMany[2]? = some (.str yfile_TooMany ytf_TooMany))
    (yhhfile_TooMany : ((P.main.file : Str) == yfile_TooMany) = true)
    (yhlc_TooMany : K.lookup ycc_TooMany = some ⟨ycl_TooMany, ycld_TooMany, .cell (some (.ref C_TooMany)), ycsl_TooMany⟩)
    (yhmro_TooMany : PySem.W.mroIn K C_TooMany (.ref C_TooMany) = some true)
    (yany : PySem.W.nsIn K cStatics "thirdparty.any" = some none)
    (yhsup_TooMany : PySem.W.ks_superIn K C_TooMany C_TooMany "__init__" = some (some (.builtin "ValueError.__init__")))
    (yhsb_TooMany : PySem.W.subIn K (.ref C_TooMany) (.type "ValueError") = some true)
    (yhexi_TooMany : PySem.W.excInitIn K C_TooMany veMro "ValueError.__new__" = true)
    (yhfl_TooMany : PySem.W.findIn K (.ref C_TooMany) "limit" = some none)
    (ysup : PySem.W.nsIn K mainGlobals "super" = some none)
    (ytop : (P.main.scope.names.lookup ("super" : Str)).isSome = false)
    (yhT_TooMany : SxT yf_TooMany ycda_TooMany ycc_TooMany "self" "limit" "limit" "a limit is passed" yfq_TooMany ypa_TooMany ysc_TooMany yj_TooMany yp0_TooMany yp1_TooMany yp2_TooMany yp3_TooMany yp4_TooMany yp5_TooMany yp6_TooMany yp7_TooMany yp8_TooMany yq_TooMany)
    (yhhb_TooMany : Binds K (sxFn "self" "limit" "limit" "a limit is passed" yfnm_TooMany yfq_TooMany ypa_TooMany ysc_TooMany yj_TooMany yp0_TooMany yp1_TooMany yp2_TooMany yp3_TooMany yp4_TooMany yp5_TooMany yp6_TooMany yp7_TooMany yp8_TooMany yq_TooMany ydV_TooMany ykV_TooMany ydc_TooMany ypm_TooMany yan_TooMany ycda_TooMany yct_TooMany ycc_TooMany) ["self", "limit"] [])
    : ∃ fd : FuncData, (∀ (s : Shared) (v : Value), BindsTo s fd ⟨[v], []⟩ [("script", v)]) ∧ ∀ base : Heap, K.In base → base.Ns mainGlobals mg → FnG P w K mg base 9 fa fd ["script"] (spM K d_law) := by
  cases hfa.symm.trans (PySem.W.mg_of X G a32)
  have E_TooMany : ExF K C_TooMany := exf_of xk_TooMany xs_TooMany xt_TooMany xi_TooMany xg_TooMany xh_TooMany xc_TooMany xsp xtk xm_TooMany
  have E_FieldsError : ExF K C_FieldsError := exf_of xk_FieldsError xs_FieldsError xt_FieldsError xi_FieldsError xg_FieldsError xh_FieldsError xc_FieldsError xsp xtk xm_FieldsError
  have Z : Zs P K mg := ⟨PySem.W.mg_none_of X G z_enumerate, PySem.W.mg_none_of X G z_max, PySem.W.mg_none_of X G z_tuple, PySem.W.mg_none_of X G z_sum, PySem.W.mg_none_of X G z_min, PySem.W.mg_none_of X G z_range, PySem.W.mg_none_of X G z_abs, PySem.W.mg_none_of X G z_int, PySem.W.mg_none_of X G z_len, PySem.W.mg_none_of X G z_isinstance, PySem.W.mg_none_of X G z_repr, PySem.W.mg_none_of X G z_bool, glc_int X G g_MAX_ROW, glc_int X G g_MAX_STATES, hits_of (PySem.W.mg_of X G xa_TooMany) (all_cons ⟨_, _, (PySem.W.mg_of X G xa_TooMany), (PySem.W.mg_of X G xa_TooMany), exm_of E_TooMany xp_TooMany_TooMany⟩ all_nil), ⟨_, (PySem.W.mg_of X G xa_FieldsError), isit_of ⟨.ref _, fun _ h => h⟩ (all_cons ⟨_, (PySem.W.mg_of X G xa_TooMany), E_TooMany, fun cv rv => by cases (show cv = .ref _ from rv); exact kito_of E_FieldsError xp_TooMany_FieldsError⟩ all_nil)⟩, ⟨C_TooMany, (PySem.W.mg_of X G xa_TooMany), ⟨xg_TooMany, xh_TooMany, xs_TooMany, xd_TooMany⟩, xn_TooMany_limit⟩, kx1_of (PySem.W.mg_of X G xa_TooMany) E_TooMany yhiC_TooMany yhtI_TooMany yhlC_TooMany yhvb_TooMany yhsa_TooMany yhlI_TooMany yhhcd_TooMany yhlD_TooMany yhhvs_TooMany yhhfile_TooMany yhlc_TooMany yhmro_TooMany yany yhsup_TooMany yhsb_TooMany yhexi_TooMany yhfl_TooMany (PySem.W.mg_none_of X G ysup) ytop yhT_TooMany yhhb_TooMany⟩
  refine ⟨PySem.W.fnOf "law" "law" (defArgs s_law) (defBody s_law) (defScope s_law) .none kV32 dc32 pm32 an32 cd32 ct32, fun s v => .of_eq rfl, fun base _ _ => ?_⟩
  have F0 := fun_mk (st := s__law_pool) l0 c0 k0
  have h0 : Kn P w K mg base 1 "_law_pool" s__law_pool ["script"] d__law_pool := ⟨_, _, ok__law_pool Z  F0, PySem.W.mg_of X G a0, F0, F0.binds fun _ _ _ _ _ _ us hl => match us, hl with | [_], _ => rfl⟩
  have F1 := fun_mk (st := s_round_up) l1 c1 k1
  have h1 : Kn P w K mg base 1 "round_up" s_round_up ["number", "multiple"] d_round_up := ⟨_, _, ok_round_up Z  F1, PySem.W.mg_of X G a1, F1, F1.binds fun _ _ _ _ _ _ us hl => match us, hl with | [_, _], _ => rfl⟩
  have F2 := fun_mk (st := s_greatest_alignment) l2 c2 k2
  have h2 : Kn P w K mg base 1 "greatest_alignment" s_greatest_alignment ["book", "places"] d_greatest_alignment := ⟨_, _, ok_greatest_alignment Z  F2, PySem.W.mg_of X G a2, F2, F2.binds fun _ _ _ _ _ _ us hl => match us, hl with | [_, _], _ => rfl⟩
  have F3 := fun_mk (st := s_span_behind) l3 c3 k3
  have h3 : Kn P w K mg base 2 "span_behind" s_span_behind ["kind", "end"] d_span_behind := ⟨_, _, ok_span_behind Z h1 F3, PySem.W.mg_of X G a3, F3, F3.binds fun _ _ _ _ _ _ us hl => match us, hl with | [_, _], _ => rfl⟩
  have F4 := fun_mk (st := s_row_end) l4 c4 k4
  have h4 : Kn P w K mg base 3 "row_end" s_row_end ["book", "row", "end"] d_row_end := ⟨_, _, ok_row_end Z h3 F4, PySem.W.mg_of X G a4, F4, F4.binds fun _ _ _ _ _ _ us hl => match us, hl with | [_, _, _], _ => rfl⟩
  have F5 := fun_mk (st := s_row_whole) l5 c5 k5
  have h5 : Kn P w K mg base 4 "row_whole" s_row_whole ["book", "row"] d_row_whole := ⟨_, _, ok_row_whole Z h1 h2 h4 F5, PySem.W.mg_of X G a5, F5, F5.binds fun _ _ _ _ _ _ us hl => match us, hl with | [_, _], _ => rfl⟩
  have F6 := fun_mk (st := s_require_few) l6 c6 k6
  have h6 : KnX P w K mg base 3 "require_few" s_require_few ["record"] d_require_few := ⟨_, _, ok_require_few Z  F6, PySem.W.mg_of X G a6, F6, F6.binds fun _ _ _ _ _ _ us hl => match us, hl with | [_], _ => rfl⟩
  have F7 := fun_mk (st := s_parts_of) l7 c7 k7
  have h7 : Kn P w K mg base 1 "parts_of" s_parts_of ["record"] d_parts_of := ⟨_, _, ok_parts_of Z  F7, PySem.W.mg_of X G a7, F7, F7.binds fun _ _ _ _ _ _ us hl => match us, hl with | [_], _ => rfl⟩
  have F8 := fun_mk (st := s_places_there) l8 c8 k8
  have h8 : Kn P w K mg base 1 "places_there" s_places_there ["record"] d_places_there := ⟨_, _, ok_places_there Z  F8, PySem.W.mg_of X G a8, F8, F8.binds fun _ _ _ _ _ _ us hl => match us, hl with | [_], _ => rfl⟩
  have F9 := fun_mk (st := s_one_fewer) l9 c9 k9
  have h9 : Kn P w K mg base 1 "one_fewer" s_one_fewer ["part", "place"] d_one_fewer := ⟨_, _, ok_one_fewer Z  F9, PySem.W.mg_of X G a9, F9, F9.binds fun _ _ _ _ _ _ us hl => match us, hl with | [_, _], _ => rfl⟩
  have F10 := fun_mk (st := s_last_places) l10 c10 k10
  have h10 : Kn P w K mg base 4 "last_places" s_last_places ["book", "record"] d_last_places := ⟨_, _, ok_last_places Z h7 h8 h4 h9 F10, PySem.W.mg_of X G a10, F10, F10.binds fun _ _ _ _ _ _ us hl => match us, hl with | [_, _], _ => rfl⟩
  have F11 := fun_mk (st := s_least_row) l11 c11 k11
  have h11 : KnX P w K mg base 5 "least_row" s_least_row ["book", "record"] d_least_row := ⟨_, _, ok_least_row Z h6 h10 h9 F11, PySem.W.mg_of X G a11, F11, F11.binds fun _ _ _ _ _ _ us hl => match us, hl with | [_, _], _ => rfl⟩
  have F12 := fun_mk (st := s_least_whole) l12 c12 k12
  have h12 : KnX P w K mg base 6 "least_whole" s_least_whole ["book", "record"] d_least_whole := ⟨_, _, ok_least_whole Z h5 h11 F12, PySem.W.mg_of X G a12, F12, F12.binds fun _ _ _ _ _ _ us hl => match us, hl with | [_, _], _ => rfl⟩
  have F13 := fun_mk (st := s__law_refusal) l13 c13 k13
  have h13 : Kn P w K mg base 7 "_law_refusal" s__law_refusal ["book", "record"] d__law_refusal := ⟨_, _, ok__law_refusal Z h12 F13, PySem.W.mg_of X G a13, F13, F13.binds fun _ _ _ _ _ _ us hl => match us, hl with | [_, _], _ => rfl⟩
  have F14 := fun_mk (st := s__law_draw) l14 c14 k14
  have h14 : Kn P w K mg base 1 "_law_draw" s__law_draw ["pool", "many"] d__law_draw := ⟨_, _, ok__law_draw Z  F14, PySem.W.mg_of X G a14, F14, F14.binds fun _ _ _ _ _ _ us hl => match us, hl with | [_, _], _ => rfl⟩
  have F15 := fun_mk (st := s__law_pick) l15 c15 k15
  have h15 : Kn P w K mg base 2 "_law_pick" s__law_pick ["pool", "items"] d__law_pick := ⟨_, _, ok__law_pick Z h14 F15, PySem.W.mg_of X G a15, F15, F15.binds fun _ _ _ _ _ _ us hl => match us, hl with | [_, _], _ => rfl⟩
  have F16 := fun_mk (st := s__law_kind) l16 c16 k16
  have h16 : Kn P w K mg base 3 "_law_kind" s__law_kind ["pool", "steps", "is_great"] d__law_kind := ⟨_, _, ok__law_kind Z h15 h14 F16, PySem.W.mg_of X G a16, F16, F16.binds fun _ _ _ _ _ _ us hl => match us, hl with | [_, _, _], _ => rfl⟩
  have F17 := fun_mk (st := s__law_book) l17 c17 k17
  have h17 : Kn P w K mg base 4 "_law_book" s__law_book ["pool", "many", "steps", "is_great"] d__law_book := ⟨_, _, ok__law_book Z h16 h14 F17, PySem.W.mg_of X G a17, F17, F17.binds fun _ _ _ _ _ _ us hl => match us, hl with | [_, _, _, _], _ => rfl⟩
  have F18 := fun_mk (st := s__law_steps) l18 c18 k18
  have h18 : Kn P w K mg base 3 "_law_steps" s__law_steps ["pool"] d__law_steps := ⟨_, _, ok__law_steps Z h15 F18, PySem.W.mg_of X G a18, F18, F18.binds fun _ _ _ _ _ _ us hl => match us, hl with | [_], _ => rfl⟩
  have F19 := fun_mk (st := s__law_few) l19 c19 k19
  have h19 : Kn P w K mg base 2 "_law_few" s__law_few ["pool", "many", "most"] d__law_few := ⟨_, _, ok__law_few Z h14 F19, PySem.W.mg_of X G a19, F19, F19.binds fun _ _ _ _ _ _ us hl => match us, hl with | [_, _, _], _ => rfl⟩
  have F20 := fun_mk (st := s__law_parts) l20 c20 k20
  have h20 : Kn P w K mg base 1 "_law_parts" s__law_parts ["record"] d__law_parts := ⟨_, _, ok__law_parts Z  F20, PySem.W.mg_of X G a20, F20, F20.binds fun _ _ _ _ _ _ us hl => match us, hl with | [_], _ => rfl⟩
  have F21 := fun_mk (st := s__law_there) l21 c21 k21
  have h21 : Kn P w K mg base 1 "_law_there" s__law_there ["record"] d__law_there := ⟨_, _, ok__law_there Z  F21, PySem.W.mg_of X G a21, F21, F21.binds fun _ _ _ _ _ _ us hl => match us, hl with | [_], _ => rfl⟩
  have F22 := fun_mk (st := s__law_up) l22 c22 k22
  have h22 : Kn P w K mg base 1 "_law_up" s__law_up ["number", "step"] d__law_up := ⟨_, _, ok__law_up Z  F22, PySem.W.mg_of X G a22, F22, F22.binds fun _ _ _ _ _ _ us hl => match us, hl with | [_, _], _ => rfl⟩
  have F23 := fun_mk (st := s__law_top) l23 c23 k23
  have h23 : Kn P w K mg base 2 "_law_top" s__law_top ["book", "record"] d__law_top := ⟨_, _, ok__law_top Z h21 F23, PySem.W.mg_of X G a23, F23, F23.binds fun _ _ _ _ _ _ us hl => match us, hl with | [_, _], _ => rfl⟩
  have F24 := fun_mk (st := s__law_least) l24 c24 k24
  have h24 : Kn P w K mg base 3 "_law_least" s__law_least ["book", "record"] d__law_least := ⟨_, _, ok__law_least Z h20 h21 h22 h23 F24, PySem.W.mg_of X G a24, F24, F24.binds fun _ _ _ _ _ _ us hl => match us, hl with | [_, _], _ => rfl⟩
  have F25 := fun_mk (st := s__law_heard) l25 c25 k25
  have h25 : Kn P w K mg base 7 "_law_heard" s__law_heard ["book", "record", "is_row", "is_named"] d__law_heard := ⟨_, _, ok__law_heard Z h11 h12 F25, PySem.W.mg_of X G a25, F25, F25.binds fun _ _ _ _ _ _ us hl => match us, hl with | [_, _, _, _], _ => rfl⟩
  have F26 := fun_mk (st := s__law_is_row) l26 c26 k26
  have h26 : Kn P w K mg base 1 "_law_is_row" s__law_is_row ["book", "record", "value"] d__law_is_row := ⟨_, _, ok__law_is_row Z  F26, PySem.W.mg_of X G a26, F26, F26.binds fun _ _ _ _ _ _ us hl => match us, hl with | [_, _, _], _ => rfl⟩
  have F27 := fun_mk (st := s__law_end) l27 c27 k27
  have h27 : Kn P w K mg base 2 "_law_end" s__law_end ["book", "row", "end"] d__law_end := ⟨_, _, ok__law_end Z h22 F27, PySem.W.mg_of X G a27, F27, F27.binds fun _ _ _ _ _ _ us hl => match us, hl with | [_, _, _], _ => rfl⟩
  have F28 := fun_mk (st := s__law_size) l28 c28 k28
  have h28 : Kn P w K mg base 3 "_law_size" s__law_size ["book", "row"] d__law_size := ⟨_, _, ok__law_size Z h22 h27 F28, PySem.W.mg_of X G a28, F28, F28.binds fun _ _ _ _ _ _ us hl => match us, hl with | [_, _], _ => rfl⟩
  have F29 := fun_mk (st := s__law_are_apart) l29 c29 k29
  have h29 : Kn P w K mg base 8 "_law_are_apart" s__law_are_apart ["pool"] d__law_are_apart := ⟨_, _, ok__law_are_apart Z h14 h17 h18 h19 h24 h25 h26 h28 F29, PySem.W.mg_of X G a29, F29, F29.binds fun _ _ _ _ _ _ us hl => match us, hl with | [_], _ => rfl⟩
  have F30 := fun_mk (st := s__law_edge) l30 c30 k30
  have h30 : Kn P w K mg base 3 "_law_edge" s__law_edge ["pool"] d__law_edge := ⟨_, _, ok__law_edge Z h15 F30, PySem.W.mg_of X G a30, F30, F30.binds fun _ _ _ _ _ _ us hl => match us, hl with | [_], _ => rfl⟩
  have F31 := fun_mk (st := s__law_is_right) l31 c31 k31
  have h31 : Kn P w K mg base 8 "_law_is_right" s__law_is_right ["book", "record", "is_named"] d__law_is_right := ⟨_, _, ok__law_is_right Z h25 h26 h28 F31, PySem.W.mg_of X G a31, F31, F31.binds fun _ _ _ _ _ _ us hl => match us, hl with | [_, _, _], _ => rfl⟩
  have F32 := fun_mk (st := s_law) l32 c32 k32
  exact ok_law Z h0 h13 h29 h30 h17 h18 h31 F32
end K37
set_option Elab.async false
set_option linter.all false
set_option maxRecDepth 100000
set_option maxHeartbeats 1000000
namespace K37
open PySem PySem.Spec L2 L3 Sh Pl Pq Wm Lw Ll
def fewx (N : List Int) : Option Int := if 100 < N.sum then some 100 else if 256 < prd N then some 256 else none
abbrev tm (l : Int) : Exn := { cls := "TooMany", arg := some ("limit", .int l) }
theorem few_gf {K : Bk6} {N : List Int} (gn : GN K N) (h : fewx N = none) : GF K N := by
  unfold fewx at h
  by_cases h1 : 100 < N.sum
  · rw [if_pos h1] at h; cases h
  · rw [if_neg h1] at h
    by_cases h2 : 256 < prd N
    · rw [if_pos h2] at h; cases h
    · exact ⟨gn, by omega, by omega⟩
theorem sx_few {N : List Int} {D : List Cell} {Q : T → List Cell → Prop} {W : Exn → List Cell → Prop} (nn : ∀ n ∈ N, 0 ≤ n) (q : fewx N = none → Q .non D) (qx : ∀ l, fewx N = some l → W (tm l) D) : d_require_few [.d (recD N)] D Q W := by
  refine ⟨rfl, ?_⟩
  suffices key : b_require_few_6 (fun e _ M => W e M.D) { nx := fun _ M => Q .non M.D, rt := fun t M => noL t = true ∧ Q t M.D } [some (.d (recD N)), none, none] ⟨D, []⟩ from key
  refine w_seq (w_if (w_test (w_op (w_call (w_ac ⟨.d (recD N), rfl, w_an (w_sumT (w_c (w_gt ⟨_, rfl, ?_⟩)))⟩)))))
  by_cases h1 : 100 < N.sum
  · refine ifT (by simpa using h1) ?_
    refine w_raise1 (w_c ⟨_, rfl, qx 100 ?_⟩)
    unfold fewx
    rw [if_pos h1]
  refine ifF (by simpa using h1) (w_next ?_)
  suffices key : b_require_few_5 (fun e _ M => W e M.D) { nx := fun _ M => Q .non M.D, rt := fun t M => noL t = true ∧ Q t M.D } [some (.d (recD N)), none, none] ⟨D, []⟩ from key
  refine w_seq (w_set (w_c ?_))
  suffices key : b_require_few_4 (fun e _ M => W e M.D) { nx := fun _ M => Q .non M.D, rt := fun t M => noL t = true ∧ Q t M.D } [some (.d (recD N)), some (.int 1), none] ⟨D, []⟩ from key
  refine w_seq (w_for ?_)
  rw [x_iseq]
  refine ⟨.d (recD N), rfl, ?_⟩
  suffices key : goFor (gN 2) b_require_few_1 { nx := fun τ M => b_require_few_3 (fun e _ M => W e M.D) { nx := fun _ M => Q .non M.D, rt := fun t M => noL t = true ∧ Q t M.D } τ M, rt := fun t M => noL t = true ∧ Q t M.D } ((N.map PyData.int).map T.d) [some (.d (recD N)), some (.int 1), none] ⟨D, []⟩ from key
  refine for_all (fun i τ M => ∃ v, M = ⟨D, []⟩ ∧ τ = [some (.d (recD N)), some (.int (prd (N.take i))), v]) ⟨none, rfl, rfl⟩ ?_ ?_
  · rintro i τ M t R ht ⟨v, rfl, rfl⟩ k
    obtain ⟨n, hn, rfl, hi⟩ := int_at ht
    rw [x_gn]
    rw [take_snoc hn, prd_snoc] at k
    have n0 := nn n (List.mem_of_getElem? hn)
    have n1 := mem_le_sum nn n (List.mem_of_getElem? hn)
    refine w_set (w_op ⟨.int (prd (N.take i)), rfl, w_op ⟨.int n, rfl, w_c (w_add (w_mul ?_ ?_))⟩⟩)
    · unfold CMul; omega
    · exact k _ _ ⟨_, rfl, rfl⟩
  · rintro τ M ⟨v, rfl, rfl⟩
    rw [List.length_map, List.length_map, List.take_length]
    suffices key : b_require_few_3 (fun e _ M => W e M.D) { nx := fun _ M => Q .non M.D, rt := fun t M => noL t = true ∧ Q t M.D } [some (.d (recD N)), some (.int (prd N)), v] ⟨D, []⟩ from key
    refine w_if (w_test (w_op ⟨.int (prd N), rfl, w_c (w_gt ⟨_, rfl, ?_⟩)⟩))
    by_cases h2 : 256 < prd N
    · refine ifT (by simpa using h2) ?_
      refine w_raise1 (w_c ⟨_, rfl, qx 256 ?_⟩)
      unfold fewx
      rw [if_neg h1, if_pos h2]
    · refine ifF (by simpa using h2) (w_next (q ?_))
      unfold fewx
      rw [if_neg h1, if_neg h2]
theorem sx_least_row {K : Bk6} {N : List Int} {D : List Cell} {Q : T → List Cell → Prop} {W : Exn → List Cell → Prop} (g : GB K) (gn : GN K N) (q : fewx N = none → Q (.d (rowD (lrow K N))) (LDe D K N)) (qx : ∀ l, fewx N = some l → W (tm l) D) :
    d_least_row [.d (bkD K), .d (recD N)] D Q W := by
  have nn := gn_nn gn
  refine ⟨rfl, ?_⟩
  suffices key : b_least_row_7 (fun e _ M => W e M.D) { nx := fun _ M => Q .non M.D, rt := fun t M => noL t = true ∧ Q t M.D } [some (.d (bkD K)), some (.d (recD N)), none, none, none] ⟨D, []⟩ from key
  refine w_seq (w_drop (w_call (w_ac ⟨.d (recD N), rfl, w_an ⟨by simp, sx_few nn (fun hf => ?_) (fun l hl => qx l hl)⟩⟩)))
  have gf := few_gf gn hf
  suffices key : b_least_row_6 { nx := fun _ M => Q .non M.D, rt := fun t M => noL t = true ∧ Q t M.D } [some (.d (bkD K)), some (.d (recD N)), none, none, none] ⟨D, []⟩ from key
  refine w_seq (w_set (w_call (w_ac ⟨.d (bkD K), rfl, w_ac ⟨.d (recD N), rfl, w_an ⟨by simp, sp_last_places g gf ?_⟩⟩⟩)))
  suffices key : b_least_row_5 { nx := fun _ M => Q .non M.D, rt := fun t M => noL t = true ∧ Q t M.D } [some (.d (bkD K)), some (.d (recD N)), some (.mr (D.length + 1)), none, none] ⟨LDe D K N, []⟩ from key
  refine w_seq (w_set ?_)
  rw [x_newL, x_anil, x_dat0]
  refine ⟨Nat.zero_le _, ?_⟩
  suffices key : b_least_row_4 { nx := fun _ M => Q .non M.D, rt := fun t M => noL t = true ∧ Q t M.D } [some (.d (bkD K)), some (.d (recD N)), some (.mr (D.length + 1)), some (.lr 0), none] ⟨LDe D K N, [some []]⟩ from key
  refine w_seq (w_set ⟨.d (recD N), rfl, ?_⟩)
  suffices key : b_least_row_3 { nx := fun _ M => Q .non M.D, rt := fun t M => noL t = true ∧ Q t M.D } (Re K N D.length N) ⟨LDe D K N, [some []]⟩ from key
  refine w_seq ⟨tl N + 1, row_go g gf (fun q' => ?_) (tl N) N [] rfl (self_mem nn) (by simp [lrow])⟩
  suffices key : b_least_row_2 { nx := fun _ M => Q .non M.D, rt := fun t M => noL t = true ∧ Q t M.D } (Re K N D.length q') ⟨LDe D K N, [some ((lrow K N).reverse.map ix)]⟩ from key
  refine w_ret (w_call (w_ac ?_))
  refine (?_ : mRevL _ _ _ _)
  refine ⟨.lr 0, rfl, ?_⟩
  show aNil _ _ _
  refine w_an ?_
  rw [← List.map_reverse, List.reverse_reverse]
  refine w_tupl ?_
  exact ⟨rfl, q hf⟩
theorem sx_least_whole {K : Bk6} {N : List Int} {D : List Cell} {Q : T → List Cell → Prop} {W : Exn → List Cell → Prop} (g : GB K) (gn : GN K N) (q : fewx N = none → Q (.int (lw K N)) (LDe D K N)) (qx : ∀ l, fewx N = some l → W (tm l) D) :
    d_least_whole [.d (bkD K), .d (recD N)] D Q W := by
  refine ⟨rfl, ?_⟩
  suffices key : b_least_whole_0 (fun e _ M => W e M.D) { nx := fun _ M => Q .non M.D, rt := fun t M => noL t = true ∧ Q t M.D } [some (.d (bkD K)), some (.d (recD N))] ⟨D, []⟩ from key
  refine w_ret (w_call (w_ac ⟨.d (bkD K), rfl, w_ac (w_call (w_ac ⟨.d (bkD K), rfl, w_ac ⟨.d (recD N), rfl, w_an ⟨by simp, sx_least_row g gn (fun hf => w_an ⟨by simp, ?_⟩) (fun l hl => qx l hl)⟩⟩⟩))⟩))
  have gf := few_gf gn hf
  refine sp_row_whole g (lrow_gr gf.gn gf.hd) ?_
  rw [lrow_whole gf.gn]
  exact ⟨rfl, q hf⟩
theorem w_tryRet {cs : List Str} {f : Str} {body : MsX} {E : Es} {τ : En} {M : Mem} (h : body (fun e τ' M' => e.cls ∈ cs ∧ E.rt (.mr M'.D.length) { M' with D := M'.D ++ [.exc f e] }) E τ M) : mTryRet cs f body E τ M := h
theorem sp_refusal {K : Bk6} {N : List Int} {l : Int} {D : List Cell} {Q : T → List Cell → Prop} (g : GB K) (gn : GN K N) (h : fewx N = some l) (q : Q (.mr D.length) (D ++ [.exc "limit" (tm l)])) : d__law_refusal [.d (bkD K), .d (recD N)] D Q := by
  refine ⟨rfl, ?_⟩
  suffices key : b__law_refusal_2 { nx := fun _ M => Q .non M.D, rt := fun t M => noL t = true ∧ Q t M.D } [some (.d (bkD K)), some (.d (recD N)), none] ⟨D, []⟩ from key
  refine w_seq (w_tryRet (w_drop (w_call (w_ac ⟨.d (bkD K), rfl, w_ac ⟨.d (recD N), rfl, w_an ⟨by simp, sx_least_whole g gn (fun hf => ?_) (fun l' hl => ?_)⟩⟩⟩))))
  · rw [h] at hf
    cases hf
  · rw [h] at hl
    cases hl
    exact ⟨by simp, rfl, q⟩
def hrd (K : Bk6) (N : List Int) (b : Bool) : PyData := match fewx N with
  | some l => .list [.str "many", .int l, .bool true]
  | none => .list [.str "told", if b then rowD (lrow K N) else .int (lw K N)]
theorem two_ok : 2 ≤ sizeLine := sz64' (show 2 ≤ 100000 by decide)
theorem three_ok : 3 ≤ sizeLine := sz64' (show 3 ≤ 100000 by decide)
abbrev He (K : Bk6) (N : List Int) (b nm : Bool) (t : Option T) : En := [some (.d (bkD K)), some (.d (recD N)), some (.bl b), some (.bl nm), t]
theorem heard_0 {K : Bk6} {N : List Int} {b nm : Bool} {D : List Cell} {E : Es} {Wt : Wxs} {t : Option T} (g : GB K) (gn : GN K N) (q : fewx N = none → E.rt (.d (.list [.str "told", rowD (lrow K N)])) ⟨LDe D K N, []⟩)
    (qx : ∀ l, fewx N = some l → Wt (tm l) (He K N b nm t) ⟨D, []⟩) : b__law_heard_0 Wt E (He K N b nm t) ⟨D, []⟩ := by
  refine w_ret ?_
  rw [x_lst, x_acons]
  refine w_c ?_
  rw [x_acons, x_ite, x_test]
  refine ⟨.bl nm, rfl, nm, rfl, ?_⟩
  cases nm with
  | true =>
    refine ifT rfl ?_
    refine ⟨.d (recD N), rfl, .d (bkD K), rfl, rfl, by simp [kb_least_row_0_g], sx_least_row g gn (fun h => ?_) qx⟩
    exact ⟨two_ok, q h⟩
  | false =>
    refine ifF (by simp) ?_
    refine ⟨.d (bkD K), rfl, .d (recD N), rfl, by simp, sx_least_row g gn (fun h => ?_) qx⟩
    exact ⟨two_ok, q h⟩
theorem heard_1 {K : Bk6} {N : List Int} {b nm : Bool} {D : List Cell} {E : Es} {Wt : Wxs} {t : Option T} (g : GB K) (gn : GN K N) (q : fewx N = none → E.rt (.d (.list [.str "told", .int (lw K N)])) ⟨LDe D K N, []⟩)
    (qx : ∀ l, fewx N = some l → Wt (tm l) (He K N b nm t) ⟨D, []⟩) : b__law_heard_1 Wt E (He K N b nm t) ⟨D, []⟩ := by
  refine w_ret ?_
  rw [x_lst, x_acons]
  refine w_c ?_
  rw [x_acons, x_ite, x_test]
  refine ⟨.bl nm, rfl, nm, rfl, ?_⟩
  cases nm with
  | true =>
    refine ifT rfl ?_
    refine ⟨.d (recD N), rfl, .d (bkD K), rfl, rfl, by simp [kb_least_whole_0_g], sx_least_whole g gn (fun h => ?_) qx⟩
    exact ⟨two_ok, q h⟩
  | false =>
    refine ifF (by simp) ?_
    refine ⟨.d (bkD K), rfl, .d (recD N), rfl, by simp, sx_least_whole g gn (fun h => ?_) qx⟩
    exact ⟨two_ok, q h⟩
theorem lde_take {K : Bk6} {N : List Int} {D : List Cell} : (LDe D K N).take D.length = D := by
  unfold LDe
  simp
theorem sp_heard {K : Bk6} {N : List Int} {b nm : Bool} {D : List Cell} {Q : T → List Cell → Prop} (g : GB K) (gn : GN K N) (q : Q (.d (hrd K N b)) D) : d__law_heard [.d (bkD K), .d (recD N), .bl b, .bl nm] D Q := by
  refine ⟨rfl, ?_⟩
  suffices key : ∀ E : Es, (E.rt = fun t M => (∃ x, t = .d x) ∧ M.D.take D.length = D ∧ Q t D) → b__law_heard_4 E (He K N b nm none) ⟨D, []⟩ from key _ rfl
  intro E hE
  have qx : ∀ l, fewx N = some l → (tm l).cls ∈ (["TooMany"] : List Str) ∧ ∀ a cls d, b__law_heard_3 a cls d (tm l) { nx := fun τ2 M2 => E.nx (τ2.set 4 none) M2, rt := E.rt, bk := fun τ2 M2 => E.bk (τ2.set 4 none) M2, ct := fun τ2 M2 => E.ct (τ2.set 4 none) M2 } ((He K N b nm none).set 4 (some (.exo a cls d (tm l)))) ⟨D, []⟩ := fun l hl => by
    refine ⟨by simp, fun a cls d => ?_⟩
    unfold hrd at q
    rw [hl] at q
    refine w_ret ?_
    rw [x_lst, x_acons]
    refine w_c ?_
    refine ⟨rfl, rfl, _, rfl, rfl, true, by simp, ?_⟩
    refine ⟨three_ok, ?_⟩
    show E.rt _ _
    rw [hE]
    exact ⟨⟨_, rfl⟩, List.take_length, q⟩
  refine w_tryAs ?_
  suffices key : ∀ Wt : Wxs, (∀ l, fewx N = some l → Wt (tm l) (He K N b nm none) ⟨D, []⟩) → b__law_heard_2 Wt E (He K N b nm none) ⟨D, []⟩ from key _ qx
  intro Wt qx
  refine w_seq (w_if (w_test ⟨.bl b, rfl, b, rfl, ?_⟩))
  cases b with
  | true =>
    refine ifT rfl (heard_0 g gn (fun h => ?_) qx)
    unfold hrd at q
    rw [h] at q
    rw [hE]
    exact ⟨⟨_, rfl⟩, lde_take, q⟩
  | false =>
    refine ifF (by simp) (w_next ?_)
    suffices key : b__law_heard_1 Wt E (He K N false nm none) ⟨D, []⟩ from key
    refine heard_1 g gn (fun h => ?_) qx
    unfold hrd at q
    rw [h] at q
    rw [hE]
    exact ⟨⟨_, rfl⟩, lde_take, q⟩
end K37
set_option Elab.async false
set_option linter.all false
set_option maxRecDepth 100000
set_option maxHeartbeats 1000000
namespace K37
open PySem PySem.Spec L2 L3 Sh Pl Pq Wm Lw Ll
theorem sw_str {s : Str} {n : Nat} (h1 : PyData.leavesShort 62 (.str s) = true) (h2 : (PyData.str s).weight ≤ n) : Sw n 0 (.str s) := ⟨by simp [PyData.showable], by simp [PyData.hasDict], h1, h2, by simp [PyData.depth]⟩
theorem sw_bool (b : Bool) : Sw 200 0 (.bool b) := by cases b <;> exact ⟨by decide, by decide, by decide, by decide, by decide⟩
theorem hrd_none {K : Bk6} {N : List Int} {b : Bool} (h : fewx N = none) : hrd K N b = .list [.str "told", if b then rowD (lrow K N) else .int (lw K N)] := by unfold hrd; rw [h]
theorem hrd_some {K : Bk6} {N : List Int} {b : Bool} {l : Int} (h : fewx N = some l) : hrd K N b = .list [.str "many", .int l, .bool true] := by unfold hrd; rw [h]
theorem few_l {N : List Int} {l : Int} (h : fewx N = some l) : l = if 100 < N.sum then 100 else 256 := by
  unfold fewx at h
  by_cases h1 : 100 < N.sum
  · rw [if_pos h1] at h ⊢; cases h; rfl
  · rw [if_neg h1] at h ⊢
    by_cases h2 : 256 < prd N
    · rw [if_pos h2] at h; cases h; rfl
    · rw [if_neg h2] at h; cases h
theorem few_or {N : List Int} {l : Int} (h : fewx N = some l) : 100 < N.sum ∨ 256 < prd N := by
  unfold fewx at h
  by_cases h1 : 100 < N.sum
  · exact .inl h1
  · rw [if_neg h1] at h
    by_cases h2 : 256 < prd N
    · exact .inr h2
    · rw [if_neg h2] at h; cases h
theorem sw_hrd {K : Bk6} {N : List Int} {b : Bool} (g : GB K) (gn : GN K N) : Sw 20302 2 (hrd K N b) := by
  cases h : fewx N with
  | some l =>
    rw [hrd_some h]
    have : l.natAbs < 10 ^ 60 := by
      rw [few_l h]
      split <;> omega
    exact (sw_list (sw_cons (sw_str (n := 200) (by decide) (by decide)) (sw_cons (sw_int this) (sw_one (sw_bool true))))).mono (by omega) (by omega)
  | none =>
    rw [hrd_none h]
    have gf := few_gf gn h
    have lo := lw_ok g gf
    cases b with
    | true => exact sw_list (sw_cons ((sw_str (n := 200) (by decide) (by decide)).mono (Nat.le_refl _) (Nat.zero_le 1)) (sw_one (sw_row g (lrow_gr gf.gn gf.hd))))
    | false => exact (sw_list (sw_cons (sw_str (n := 200) (by decide) (by decide)) (sw_one (sw_int (i := lw K N) (by omega))))).mono (by omega) (by omega)
theorem ok_hrd {K : Bk6} {N : List Int} {b : Bool} (g : GB K) (gn : GN K N) : OkShow (hrd K N b) := (sw_hrd g gn).ok (by omega) (by omega)
theorem ok_two {K : Bk6} {N : List Int} (g : GB K) (gn : GN K N) : OkShow (.list [hrd K N false, hrd K N true]) := (sw_list (sw_cons (sw_hrd g gn) (sw_one (sw_hrd g gn)))).ok (by omega) (by omega)
theorem count_ix (r : List Nat) (i : Nat) : (r.map fun (j : Nat) => (j : Int)).count (i : Int) = r.count i := by
  induction r with
  | nil => rfl
  | cons a r ih =>
    rw [List.map_cons, List.count_cons, List.count_cons, ih]
    congr 1
    by_cases h : a = i
    · subst h; simp
    · have : ¬ (a : Int) = (i : Int) := by omega
      simp [h, this]
theorem ct_list {K : Bk6} {N : List Int} {r : List Nat} (hl : N.length = K.length) (ct : Ct K N r) : ((List.range K.length).map fun p => ((r.count p : Nat) : Int)) = N := by
  refine List.ext_getElem (by simp [hl]) fun i h1 h2 => ?_
  rw [List.getElem_map, List.getElem_range, ct i (by simpa using h1), num_at h2]
theorem w_eqRec {N P : List Int} {M : Mem} {Q : Kt} (h : N = P) (q : Q (.bl true) M) : oEq false (.d (recD N)) (.d (recD P)) M Q := by
  subst h
  unfold recD
  rw [x_eq (a := .tuple (N.map .int)) (b := .tuple (N.map .int)) rfl rfl (sh_rec N) (sh_rec N) (fun _ z => nomatch z), eqv_rec]
  simpa using q
abbrev Rw (K : Bk6) (N : List Int) : En := [some (.d (bkD K)), some (.d (recD N)), some (.d (rowD (lrow K N))), none]
theorem sp_is_row {K : Bk6} {N : List Int} {D : List Cell} {Q : T → List Cell → Prop} (g : GB K) (gf : GF K N) (q : Q (.bl true) D) : d__law_is_row [.d (bkD K), .d (recD N), .d (rowD (lrow K N))] D Q := by
  have lr := lrow_ok gf.gn
  have gr := lrow_gr gf.gn gf.hd
  have nn := gn_nn gf.gn
  have h6 := g.six
  refine ⟨rfl, ?_⟩
  suffices key : ∀ E : Es, E.rt (.bl true) ⟨D, []⟩ → b__law_is_row_4 E (Rw K N) ⟨D, []⟩ from key _ ⟨rfl, q⟩
  intro E q
  refine w_seq (w_if (w_bor (w_bnot (w_test ?_))))
  rw [x_isi]
  refine ⟨.d (rowD (lrow K N)), rfl, "tuple", true, rfl, rfl, true, rfl, ifF (by simp) (w_test ?_)⟩
  refine w_op (w_call (w_ac ⟨.d (rowD (lrow K N)), rfl, w_an (w_lenR ?_)⟩))
  refine w_call (w_ac ⟨.d (recD N), rfl, w_an (Ll.w_sumT (w_eqI ⟨false, ?_, ifF (by simp) (w_next ?_)⟩))⟩)
  · have : (((lrow K N).length : Nat) : Int) = N.sum := by
      rw [lr.2.2.2]
      have := gn_tl gf.gn
      unfold tl at this ⊢
      omega
    simp [this]
  suffices key : b__law_is_row_3 E (Rw K N) ⟨D, []⟩ from key
  refine w_seq (w_if (w_test (w_op (w_lc ⟨.d (rowD (lrow K N)), rfl, ?_⟩))))
  show goLc _ _ _ (Rw K N) _ (((lrow K N).map ix).map T.d) [] _
  rw [List.map_map]
  refine lc_pf (ts := lrow K N) (fun _ => false) (fun _ => .int 1) (sz64' (by have := gr.hd; omega)) (fun n acc R hi ha hr => ?_) ?_
  · show gN 3 (.int (n : Int)) _ _ _
    rw [x_gn]
    refine w_bor (w_test ?_)
    rw [x_isi]
    refine ⟨.int (n : Int), rfl, "int", false, rfl, rfl, false, rfl, ifF (by simp) (w_bnot (w_test ?_))⟩
    rw [x_isi]
    refine ⟨.int (n : Int), rfl, "int", true, rfl, rfl, true, rfl, ?_⟩
    refine ifF (by simp) ?_
    rw [if_neg (by simp)] at hr
    exact hr
  rw [filter_none]
  rw [List.map_nil]
  refine ⟨Nat.zero_le _, w_neNil ⟨false, rfl, ifF (by simp) (w_next ?_)⟩⟩
  suffices key : b__law_is_row_2 E (Rw K N) ⟨D, []⟩ from key
  refine w_ret (w_op (w_call (w_ac (w_lc ?_))))
  rw [x_irange]
  refine w_ac (w_call (w_ac ⟨_, rfl, w_an (w_lenK (w_an ?_))⟩))
  refine ⟨⟨by omega, by omega⟩, ?_⟩
  rw [Int.toNat_natCast]
  unfold rangeT
  show goLc _ _ _ (Rw K N) _ _ _ _
  refine lc_pure (ts := List.range K.length) (fun p => .int (((lrow K N).count p : Nat) : Int)) (sz64' (by simp; omega)) (fun p acc R3 hp ha hr3 => ?_) ?_
  · show gN 3 (.int (p : Int)) _ _ _
    rw [x_gn]
    refine ⟨.d (rowD (lrow K N)), rfl, .int (p : Int), rfl, ((lrow K N).map fun (j : Nat) => (j : Int)), ?_, ?_⟩
    · have := intsOf_map ((lrow K N).map fun (j : Nat) => (j : Int))
      rw [List.map_map] at this
      exact this
    · rw [count_ix]
      exact ⟨ha, hr3⟩
  have e : (List.range K.length).map (fun p => PyData.int (((lrow K N).count p : Nat) : Int)) = N.map .int := by
    have := congrArg (List.map PyData.int) (ct_list gf.gn.len lr.2.1)
    rw [List.map_map] at this
    exact this
  rw [e]
  refine w_an (w_tupl ?_)
  exact ⟨.d (recD N), rfl, w_eqRec rfl q⟩
def CmN (N : List Int) : Prop := ∀ i n, N[i]? = some n → CMul (prd (N.take i)) (n + 1)
abbrev Ri (K : Bk6) (N : List Int) (nm : Bool) (s : Str) (st : Option T) (a b c d : Option T) : En := [some (.d (bkD K)), some (.d (recD N)), some (.bl nm), some (.d (.str s)), st, a, b, c, d]
section
variable {K : Bk6} {N : List Int} {nm : Bool} {s : Str} {D : List Cell} {E : Es} {v : Option T}
abbrev Rj (K : Bk6) (N : List Int) (nm : Bool) (s : Str) (v d : Option T) : En := Ri K N nm s (some (.int (prd N))) v (some (.d (hrd K N false))) (some (.d (hrd K N true))) d
theorem right_8 (g : GB K) (gn : GN K N) (h : fewx N = none) (q : E.rt (.bl true) ⟨D, []⟩) : b__law_is_right_8 E (Rj K N nm s v none) ⟨D, []⟩ := by
  have gf := few_gf gn h
  have gr := lrow_gr gf.gn gf.hd
  have lo := lw_ok g gf
  unfold Rj
  rw [hrd_none h, hrd_none h]
  refine w_seq (w_if (w_bor (w_test (w_op ?_))))
  refine ⟨_, rfl, w_c ⟨.str "told", rfl, w_c (w_neS ⟨_, rfl, ifF (by simp) ?_⟩)⟩⟩
  refine w_bor (w_test (w_op ?_))
  refine ⟨_, rfl, w_c ⟨.str "told", rfl, w_c (w_neS ⟨_, rfl, ifF (by simp) ?_⟩)⟩⟩
  refine w_bnot (w_test (w_call (w_ac ⟨.d (bkD K), rfl, w_ac ⟨.d (recD N), rfl, w_ac (w_op ⟨_, rfl, w_c ⟨rowD (lrow K N), rfl, w_an ⟨by simp, sp_is_row g gf ⟨true, rfl, ifF (by simp) (w_next ?_)⟩⟩⟩⟩)⟩⟩)))
  suffices key : b__law_is_right_7 E (Ri K N nm s (some (.int (prd N))) v (some (.d (.list [.str "told", .int (lw K N)]))) (some (.d (.list [.str "told", rowD (lrow K N)]))) none) ⟨D, []⟩ from key
  have ok : OkShow (.int (lw K N)) := (sw_int (i := lw K N) (by omega)).ok (by omega) (by omega)
  refine w_ret (w_op (w_call (w_ac (w_op ⟨_, rfl, w_c ⟨.int (lw K N), rfl, w_an (w_shw ok ?_)⟩⟩))))
  refine w_call (w_ac (w_call (w_ac ⟨.d (bkD K), rfl, w_ac (w_op ⟨_, rfl, w_c ⟨rowD (lrow K N), rfl, w_an ⟨by simp, sp_size g gr ?_⟩⟩⟩)⟩)))
  rw [lrow_whole gf.gn]
  exact w_an (w_shw ok (w_eqS q))
theorem right_5 {l : Int} (g : GB K) (gn : GN K N) (h : fewx N = some l) (q : E.rt (.bl true) ⟨D, []⟩) : b__law_is_right_5 E (Rj K N nm s v none) ⟨D, []⟩ := by
  refine w_seq (w_if (w_test (w_op (w_call (w_ac (w_call (w_ac ⟨.d (bkD K), rfl, w_ac ⟨.d (recD N), rfl, w_ac (w_c (w_ac (w_c (w_an ⟨by simp, sp_heard g gn (w_an (w_shw (ok_hrd g gn) ?_))⟩))))⟩⟩)))))))
  refine w_call (w_ac ⟨.d (hrd K N true), rfl, w_an (w_shw (ok_hrd g gn) (w_neS ⟨_, rfl, ifF (by simp) (w_next ?_)⟩))⟩)
  suffices key : b__law_is_right_4 E (Rj K N nm s v none) ⟨D, []⟩ from key
  refine w_seq (w_set ?_)
  have fin : b__law_is_right_3 E (Rj K N nm s v (some (.int l))) ⟨D, []⟩ := by
    refine w_ret (w_op (w_call (w_ac (w_lst (w_ac ⟨.d (hrd K N false), rfl, w_ac ⟨.d (hrd K N true), rfl, w_an ⟨two_ok, w_an (w_shw (ok_two g gn) ?_)⟩⟩⟩)))))
    refine w_call (w_ac (w_op (w_lst (w_ac (w_lst (w_ac (w_c (w_ac ⟨.int l, rfl, w_ac (w_c (w_an ⟨three_ok, w_an ⟨sz1, ?_⟩⟩))⟩))))))))
    refine w_c ⟨⟨by omega, by omega, sz64' (by simp)⟩, w_an ?_⟩
    show fRepr [.d (.list [.list [.str "many", .int l, .bool true], .list [.str "many", .int l, .bool true]])] _ _
    rw [← hrd_some (K := K) (b := false) h]
    have e : hrd K N true = hrd K N false := by rw [hrd_some h, hrd_some h]
    have ok := ok_two g gn
    rw [e] at ok ⊢
    exact w_shw ok (w_eqS q)
  rw [x_ite]
  refine w_test (w_op (w_call (w_ac ⟨.d (recD N), rfl, w_an (Ll.w_sumT (w_c (w_gt ⟨_, rfl, ?_⟩)))⟩)))
  have el := few_l h
  by_cases z : 100 < N.sum
  · rw [if_pos z] at el
    refine ifT (by simpa using z) (w_c ?_)
    rw [← el]
    exact fin
  · rw [if_neg z] at el
    refine ifF (by simpa using z) (w_c ?_)
    rw [← el]
    exact fin
theorem sp_is_right {Q : T → List Cell → Prop} (g : GB K) (gn : GN K N) (cm : CmN N) (q : Q (.bl true) D) : d__law_is_right [.d (bkD K), .d (recD N), .bl nm] D Q := by
  have nn := gn_nn gn
  refine ⟨rfl, ?_⟩
  suffices key : ∀ E : Es, E.rt (.bl true) ⟨D, []⟩ → b__law_is_right_13 E [some (.d (bkD K)), some (.d (recD N)), some (.bl nm), none, none, none, none, none, none] ⟨D, []⟩ from key _ ⟨rfl, q⟩
  intro E q
  refine w_seq ?_
  rw [x_par]
  refine w_ac (w_call (w_ac (w_lst (w_ac ⟨.d (bkD K), rfl, w_ac ⟨.d (recD N), rfl, w_an ⟨two_ok, w_an (w_shw (two_okB g gn) (w_ac (w_c (w_an ?_))))⟩⟩⟩))))
  generalize hs : (PyData.list [bkD K, recD N]).shown = s
  suffices key : b__law_is_right_12 E (Ri K N nm s (some (.int 1)) none none none none) ⟨D, []⟩ from key
  refine w_seq (w_for ?_)
  rw [x_iseq]
  refine ⟨.d (recD N), rfl, ?_⟩
  suffices key : ∀ E2 : Es, (∀ v, E2.nx (Ri K N nm s (some (.int (prd N))) v none none none) ⟨D, []⟩) → goFor (gN 5) b__law_is_right_0 E2 ((N.map PyData.int).map T.d) (Ri K N nm s (some (.int 1)) none none none none) ⟨D, []⟩ from by
    refine key _ fun v => ?_
    suffices key : b__law_is_right_11 E (Ri K N nm s (some (.int (prd N))) v none none none) ⟨D, []⟩ from key
    refine w_seq ?_
    rw [x_par]
    refine w_ac (w_call (w_ac ⟨.d (bkD K), rfl, w_ac ⟨.d (recD N), rfl, w_ac (w_c (w_ac ⟨.bl nm, rfl, w_an ⟨by simp, sp_heard g gn (w_ac (w_call (w_ac ⟨.d (bkD K), rfl, w_ac ⟨.d (recD N), rfl, w_ac (w_c (w_ac ⟨.bl nm, rfl, w_an ⟨by simp, sp_heard g gn (w_an ?_)⟩⟩))⟩⟩)))⟩⟩))⟩⟩))
    suffices key : b__law_is_right_10 E (Rj K N nm s v none) ⟨D, []⟩ from key
    refine w_seq (w_if (w_test (w_op (w_call (w_ac (w_lst (w_ac ⟨.d (bkD K), rfl, w_ac ⟨.d (recD N), rfl, w_an ⟨two_ok, w_an (w_shw (two_okB g gn) ⟨.d (.str s), rfl, ?_⟩)⟩⟩⟩)))))))
    rw [hs]
    refine w_neS ⟨_, rfl, ifF (by simp) (w_next ?_)⟩
    suffices key : b__law_is_right_9 E (Rj K N nm s v none) ⟨D, []⟩ from key
    refine w_seq (w_if (w_bor (w_test (w_op (w_call (w_ac ⟨.d (recD N), rfl, w_an (Ll.w_sumT (w_c (w_gt ⟨_, rfl, ?_⟩)))⟩))))))
    cases h : fewx N with
    | some l =>
      by_cases z : 100 < N.sum
      · exact ifT (by simpa using z) (ifT rfl (right_5 g gn h q))
      · have z2 := (few_or h).resolve_left z
        refine ifF (by simpa using z) (w_test (w_op ⟨.int (prd N), rfl, w_c (w_gt ⟨_, rfl, ?_⟩)⟩))
        exact ifT (by simpa using z2) (right_5 g gn h q)
    | none =>
      have gf := few_gf gn h
      have h1 := gf.hd
      have h2 := gf.few
      refine ifF (by simpa using h1) (w_test (w_op ⟨.int (prd N), rfl, w_c (w_gt ⟨_, rfl, ?_⟩)⟩))
      exact ifF (by simpa using h2) (w_next (right_8 g gn h q))
  intro E2 k2
  refine for_all (fun i τ M => ∃ v, M = ⟨D, []⟩ ∧ τ = Ri K N nm s (some (.int (prd (N.take i)))) v none none none) ⟨none, rfl, rfl⟩ ?_ ?_
  · rintro i τ M t R ht ⟨v, rfl, rfl⟩ k
    obtain ⟨n, hn, rfl, hi⟩ := int_at ht
    have c := cm i n hn
    rw [x_gn]
    rw [take_snoc hn, prd_snoc] at k
    refine w_set (w_op ⟨.int (prd (N.take i)), rfl, w_op ⟨.int n, rfl, w_c (w_add (w_mul c ?_))⟩⟩)
    exact k _ _ ⟨_, rfl, rfl⟩
  · rintro τ M ⟨v, rfl, rfl⟩
    rw [List.length_map, List.length_map, List.take_length]
    exact k2 v
end
end K37
set_option Elab.async false
set_option linter.all false
set_option maxRecDepth 100000
set_option maxHeartbeats 1000000
namespace K37
open PySem PySem.Spec L2 L3 Sh Pl Pq Wm Lw Ll
def bkK (K : Bk6) : NestedKey := .tup (K.map fun k => .tup [.num k.1, .num k.2])
def keyB (b : Bool) (K : Bk6) (N : List Int) : NestedKey := .tup [.num (if b = true then 1 else 0), bkK K, recK N]
def keyDD (b : Bool) (K : Bk6) (N : List Int) : PyData := .tuple [.bool b, bkD K, recD N]
theorem nk_bk (K : Bk6) : nk (bkD K) = some (bkK K) := by
  unfold bkD bkK
  rw [nk]
  have : nks (K.map kd) = some (K.map fun k => .tup [.num k.1, .num k.2]) := by
    induction K with
    | nil => rfl
    | cons k K ih =>
      rw [List.map_cons, List.map_cons, nks, ih]
      rfl
  rw [this]
  rfl
theorem nk_rec (N : List Int) : nk (recD N) = some (recK N) := by
  unfold recD recK
  rw [nk]
  have : nks (N.map .int) = some (N.map .num) := by
    induction N with
    | nil => rfl
    | cons n N ih =>
      rw [List.map_cons, List.map_cons, nks, ih]
      rfl
  rw [this]
  rfl
theorem nk_key (b : Bool) (K : Bk6) (N : List Int) : nk (keyDD b K N) = some (keyB b K N) := by
  unfold keyDD keyB
  rw [nk, nks, nks, nks, nks, nk_bk, nk_rec]
  rfl
theorem bkK_ok (K : Bk6) : okKey 7 (bkK K) = true := by
  unfold bkK
  rw [okKey]
  induction K with
  | nil => rfl
  | cons k K ih =>
    rw [List.map_cons, okKeys, ih]
    rfl
theorem recK_ok7 (N : List Int) : okKey 7 (recK N) = true := by
  unfold recK
  rw [okKey]
  induction N with
  | nil => rfl
  | cons n N ih =>
    rw [List.map_cons, okKeys, ih]
    rfl
theorem key_kk (b : Bool) (K : Bk6) (N : List Int) : keyK (.d (keyDD b K N)) (keyDD b K N) (keyB b K N) := by
  refine ⟨⟨_, rfl⟩, rfl, nk_key b K N, ?_⟩
  unfold keyB
  rw [okKey, okKeys, okKeys, okKeys, okKeys, bkK_ok, recK_ok7]
  rfl
theorem bkK_inj {K L : Bk6} (h : bkK K = bkK L) : K = L := by
  unfold bkK at h
  injection h with h
  refine (List.map_inj_right (fun x y z => ?_)).mp h
  injection z with z
  injection z with z1 z2
  injection z2 with z2 _
  injection z1 with z1
  injection z2 with z2
  exact Prod.ext z1 z2
theorem keyB_inj {b b' : Bool} {K L : Bk6} {N P : List Int} (h : keyB b K N = keyB b' L P) : b = b' ∧ K = L ∧ N = P := by
  unfold keyB at h
  injection h with h
  injection h with h0 h
  injection h with h1 h2
  injection h2 with h2 _
  refine ⟨?_, bkK_inj h1, recK_inj h2⟩
  injection h0 with h0
  cases b <;> cases b' <;> first | rfl | (simp at h0)
def KI (kvs : List (PyData × T)) : Prop := ∀ p ∈ kvs, ∃ b K N, nk p.1 = some (keyB b K N) ∧ p.2 = .d (.str (hrd K N b).shown)
theorem ki_look {kvs : List (PyData × T)} (h : KI kvs) {b : Bool} {K : Bk6} {N : List Int} {t : T} (e : lookK kvs (keyB b K N) = some t) : t = .d (.str (hrd K N b).shown) := by
  unfold lookK at e
  obtain ⟨p, hp, rfl⟩ := Option.map_eq_some_iff.mp e
  have h1 := List.mem_of_find?_eq_some hp
  have h2 := List.find?_some hp
  have h2 : nk p.1 = some (keyB b K N) := of_decide_eq_true h2
  obtain ⟨b', K', N', e1, e2⟩ := h p h1
  rw [e1] at h2
  obtain ⟨rfl, rfl, rfl⟩ := keyB_inj (Option.some.inj h2)
  exact e2
theorem ki_get {kvs : List (PyData × T)} (h : KI kvs) (b : Bool) (K : Bk6) (N : List Int) : (lookK kvs (keyB b K N)).getD (.d (.str (hrd K N b).shown)) = .d (.str (hrd K N b).shown) := by
  cases e : lookK kvs (keyB b K N) with
  | none => rfl
  | some t => rw [ki_look h e]; rfl
theorem ki_put {kvs : List (PyData × T)} (h : KI kvs) (b : Bool) (K : Bk6) (N : List Int) : KI (putK kvs (keyDD b K N) (keyB b K N) (.d (.str (hrd K N b).shown))) := by
  unfold L3.putK
  split
  · intro p hp
    obtain ⟨q, hq, rfl⟩ := List.mem_map.mp hp
    by_cases z : nk q.1 = some (keyB b K N)
    · rw [if_pos z]
      exact ⟨b, K, N, z, rfl⟩
    · rw [if_neg z]
      exact h q hq
  · intro p hp
    rcases List.mem_append.mp hp with z | z
    · exact h p z
    · rw [List.mem_singleton.mp z]
      exact ⟨b, K, N, nk_key b K N, rfl⟩
theorem ki_len {kvs : List (PyData × T)} {d : PyData} {k : NestedKey} {t : T} : (putK kvs d k t).length ≤ kvs.length + 1 := by
  unfold L3.putK
  split
  · rw [List.length_map]; omega
  · rw [List.length_append]; simp
structure Ask where
  b : Bool
  K : Bk6
  N : List Int
def askD (a : Ask) : PyData := .tuple [.bool a.b, bkD a.K, recD a.N, .int (lw a.K a.N)]
structure AOk (a : Ask) : Prop where
  g : GB a.K
  gf : GF a.K a.N
theorem sh_list {l : List PyData} (h : ∀ x ∈ l, PyData.canLay0 x = true ∧ PyData.depth x ≤ 5) : SeqAt.shaped (.list l) = true := by
  obtain ⟨h3, h4⟩ := lay_all h
  unfold SeqAt.shaped
  rw [Bool.and_eq_true]
  refine ⟨by simp [PyData.canLay0, h3], decide_eq_true ?_⟩
  simp only [PyData.depth]
  omega
abbrev Lay (n : Nat) (x : PyData) : Prop := PyData.canLay0 x = true ∧ PyData.depth x ≤ n
theorem lay_seq {n : Nat} : ∀ {l : List PyData}, (∀ x ∈ l, Lay n x) → PyData.canLayAll0 l = true ∧ PyData.depthAll l ≤ n
  | [], _ => by simp [PyData.canLayAll0, PyData.depthAll]
  | x :: l, h => by
    obtain ⟨h1, h2⟩ := h x List.mem_cons_self
    obtain ⟨h3, h4⟩ := lay_seq (l := l) fun y hy => h y (List.mem_cons_of_mem _ hy)
    refine ⟨by simp [PyData.canLayAll0, h1, h3], ?_⟩
    simp only [PyData.depthAll]
    omega
theorem lay_tup {n : Nat} {l : List PyData} (h : ∀ x ∈ l, Lay n x) : Lay (n + 1) (.tuple l) := by
  obtain ⟨h3, h4⟩ := lay_seq h
  refine ⟨by simp [PyData.canLay0, h3], ?_⟩
  simp only [PyData.depth]
  omega
theorem lay_int (n : Nat) (i : Int) : Lay n (.int i) := ⟨by simp [PyData.canLay0], by simp [PyData.depth]⟩
theorem lay_bool (n : Nat) (i : Bool) : Lay n (.bool i) := ⟨by simp [PyData.canLay0], by simp [PyData.depth]⟩
theorem Lay.up {n m : Nat} {x : PyData} (h : Lay n x) (z : n ≤ m) : Lay m x := ⟨h.1, Nat.le_trans h.2 z⟩
theorem lay_rec (N : List Int) : Lay 1 (recD N) := lay_tup fun x hx => by
  obtain ⟨n, _, rfl⟩ := List.mem_map.mp hx
  exact lay_int 0 n
theorem lay_bk (K : Bk6) : Lay 2 (bkD K) := lay_tup fun x hx => by
  obtain ⟨k, _, rfl⟩ := List.mem_map.mp hx
  exact lay_tup fun y hy => by
    simp at hy
    rcases hy with rfl | rfl <;> exact lay_int 0 _
theorem lay_ask (a : Ask) : Lay 5 (askD a) := by
  have h1 : Lay 3 (askD a) := lay_tup fun x hx => by
    simp at hx
    rcases hx with rfl | rfl | rfl | rfl
    · exact lay_bool _ _
    · exact lay_bk _
    · exact (lay_rec _).up (by omega)
    · exact lay_int _ _
  exact h1.up (by omega)
theorem sh_asks {A : List Ask} : SeqAt.shaped (.list (A.map askD)) = true := sh_list fun x hx => by
  obtain ⟨a, ha, rfl⟩ := List.mem_map.mp hx
  exact lay_ask a
theorem w_neLs {i : Nat} {ds : List PyData} {M : Mem} {Q : Kt} (hL : M.L[i]? = some (some ds)) (sh : SeqAt.shaped (.list ds) = true) (q : Q (.bl (!ds.isEmpty)) M) : oEq true (.lr i) (.d (.list [])) M Q := by
  rw [x_eq (a := .list ds) (b := .list []) (by show (match M.L[i]? with | some (some xs) => some (PyData.list xs) | _ => none) = _; rw [hL]) rfl sh (shaped_ints []) (fun _ z => nomatch z), eqv_nil]
  exact q
theorem ri2 {D : List Cell} (h : Pl.RI D) : D.length = 2 ∧ ∀ C, clo 2 (D ++ C) := by
  obtain ⟨gr, mx, tn, rfl, _⟩ := h.ex
  refine ⟨rfl, fun C => ?_⟩
  show (List.take 2 [_, _]).all (Cell.lo 2) = true
  simp [Cell.lo, T.lo]
theorem w_callC {d : FD} {ts : List T} {D C : List Cell} {L : List (Option (List PyData))} {Q : Kt} (hD : Pl.RI D) (ht : ∀ t ∈ ts, noL t = true ∧ T.lo 2 t = true) (h : d ts D fun t D' => D'.length = 2 ∧ Q t ⟨D' ++ C, L⟩) : fDefC d ts ⟨D ++ C, L⟩ Q := by
  obtain ⟨h1, h2⟩ := ri2 hD
  refine ⟨2, by show 2 ≤ (D ++ C).length; rw [List.length_append]; omega, h2 C, ht, ?_⟩
  show d ts ((D ++ C).take 2) fun t D' => D'.length = 2 ∧ Q t ⟨D' ++ (D ++ C).drop 2, L⟩
  rw [List.take_left' h1, List.drop_left' h1]
  exact h
theorem w_kput {d k v : Me} {E : Es} {τ : En} {M : Mem} (h : v τ M fun t M1 => d τ M1 fun x M2 => k τ M2 fun y M3 => ∃ i dk k kvs, x = .mr i ∧ keyK y dk k ∧ M3.D[i]? = some (.dnd kvs) ∧ noL t = true ∧ kvs.length < sizeLine ∧ E.nx τ { M3 with D := M3.D.set i (.dnd (putK kvs dk k t)) }) : mKPut d k v E τ M := h
theorem w_kget2 {d y z : Me} {τ : En} {M : Mem} {Q : Kt} (h : d τ M fun x M1 => (∃ i kvs, x = .mr i ∧ M1.D[i]? = some (.dnd kvs)) ∧ y τ M1 fun y M2 => z τ M2 fun z M3 => ∃ i dk k kvs, x = .mr i ∧ keyK y dk k ∧ M3.D[i]? = some (.dnd kvs) ∧ noL z = true ∧ Q ((lookK kvs k).getD z) M3) : mKGet2 d y z τ M Q := h
theorem w_knew {τ : En} {M : Mem} {Q : Kt} (h : Q (.mr M.D.length) { M with D := M.D ++ [.dnd []] }) : mKNew τ M Q := h
abbrev La (r : Nat) (a : Ask) (a4 a5 a7 a10 : Option T) : En := [some (.mr 1), some (.lr r), some (.mr 2), some (.d (recD a.N)), a4, a5, some (.d (bkD a.K)), a7, some (.int (lw a.K a.N)), some (.bl a.b), a10]
section
variable {E : Es} {r : Nat} {a : Ask} {D : List Cell} {L : List (Option (List PyData))} {kvs : List (PyData × T)} {a4 a5 a7 : Option T}
theorem ap_9 (hD : Pl.RI D) (ok : AOk a) (q : E.nx (La r a a4 a5 a7 (some (.d (hrd a.K a.N a.b)))) ⟨D ++ [.dnd kvs], L⟩) : b__law_are_apart_9 E (La r a a4 a5 a7 (some (.d (hrd a.K a.N a.b)))) ⟨D ++ [.dnd kvs], L⟩ := by
  have h2 := (ri2 hD).1
  have gr := lrow_gr ok.gf.gn ok.gf.hd
  have hn : fewx a.N = none := by
    unfold fewx
    rw [if_neg (by have := ok.gf.hd; omega), if_neg (by have := ok.gf.few; omega)]
  refine w_if (w_band (w_test ⟨.bl a.b, rfl, a.b, rfl, ?_⟩))
  cases hb : a.b with
  | false =>
    refine ifF (by simp) (ifF (by simp) (w_next ?_))
    rw [hb] at q
    exact q
  | true =>
    rw [hb] at q
    rw [hrd_none hn] at q ⊢
    refine ifT rfl (w_bor (w_bnot (w_test ?_)))
    refine w_call (w_ac ⟨.d (bkD a.K), rfl, w_ac ⟨.d (recD a.N), rfl, w_ac (w_op ⟨_, rfl, w_c ⟨rowD (lrow a.K a.N), rfl, w_an (w_callC hD (by simp [noL, T.lo]) (sp_is_row ok.g ok.gf ⟨h2, true, rfl, ifF (by simp) ?_⟩))⟩⟩)⟩⟩)
    refine w_test (w_op (w_call (w_ac ⟨.d (bkD a.K), rfl, w_ac (w_op ⟨_, rfl, w_c ⟨rowD (lrow a.K a.N), rfl, w_an (w_callC hD (by simp [noL, T.lo]) (sp_size ok.g gr ⟨h2, ?_⟩))⟩⟩)⟩)))
    rw [lrow_whole ok.gf.gn]
    exact ⟨.int (lw a.K a.N), rfl, w_eqI ⟨false, by simp, ifF (by simp) (w_next q)⟩⟩
theorem ap_13 (hD : Pl.RI D) (ok : AOk a) (hk : KI kvs) (hl : kvs.length ≤ 17) {a10 : Option T} (q : ∀ kvs' a10, KI kvs' → kvs'.length ≤ kvs.length + 1 → E.nx (La r a a4 a5 a7 a10) ⟨D ++ [.dnd kvs'], L⟩) : b__law_are_apart_13 E (La r a a4 a5 a7 a10) ⟨D ++ [.dnd kvs], L⟩ := by
  have h2 := (ri2 hD).1
  have okH := ok_hrd (b := a.b) ok.g ok.gf.gn
  have lo := lw_ok ok.g ok.gf
  have hn : fewx a.N = none := by
    unfold fewx
    rw [if_neg (by have := ok.gf.hd; omega), if_neg (by have := ok.gf.few; omega)]
  have hc : (D ++ [Cell.dnd kvs])[2]? = some (.dnd kvs) := by rw [List.getElem?_append_right (by omega), h2]; rfl
  refine w_seq (w_set (w_call (w_ac ⟨.d (bkD a.K), rfl, w_ac ⟨.d (recD a.N), rfl, w_ac ⟨.bl a.b, rfl, w_ac (w_c (w_an (w_callC hD (by simp [noL, T.lo]) (sp_heard ok.g ok.gf.gn ⟨h2, ?_⟩))))⟩⟩⟩)))
  suffices key : b__law_are_apart_12 E (La r a a4 a5 a7 (some (.d (hrd a.K a.N a.b)))) ⟨D ++ [.dnd kvs], L⟩ from key
  have next : b__law_are_apart_11 E (La r a a4 a5 a7 (some (.d (hrd a.K a.N a.b)))) ⟨D ++ [.dnd kvs], L⟩ := by
    refine w_seq (w_if (w_test (w_op (w_kget2 ⟨.mr 2, rfl, ⟨2, kvs, rfl, hc⟩, ?_⟩))))
    refine w_tup (w_ac ⟨.bl a.b, rfl, w_ac ⟨.d (bkD a.K), rfl, w_ac ⟨.d (recD a.N), rfl, w_an ⟨three_ok, ?_⟩⟩⟩⟩)
    refine w_call (w_ac ⟨.d (hrd a.K a.N a.b), rfl, w_an (w_shw okH ?_)⟩)
    refine ⟨2, keyDD a.b a.K a.N, keyB a.b a.K a.N, kvs, rfl, key_kk a.b a.K a.N, hc, rfl, ?_⟩
    rw [ki_get hk a.b a.K a.N]
    refine w_call (w_ac ⟨.d (hrd a.K a.N a.b), rfl, w_an (w_shw okH (w_neS ⟨_, rfl, ifF (by simp) (w_next ?_)⟩))⟩)
    suffices key : b__law_are_apart_10 E (La r a a4 a5 a7 (some (.d (hrd a.K a.N a.b)))) ⟨D ++ [.dnd kvs], L⟩ from key
    refine w_seq (w_kput (w_call (w_ac ⟨.d (hrd a.K a.N a.b), rfl, w_an (w_shw okH ⟨.mr 2, rfl, ?_⟩)⟩)))
    refine w_tup (w_ac ⟨.bl a.b, rfl, w_ac ⟨.d (bkD a.K), rfl, w_ac ⟨.d (recD a.N), rfl, w_an ⟨three_ok, ?_⟩⟩⟩⟩)
    refine ⟨2, keyDD a.b a.K a.N, keyB a.b a.K a.N, kvs, rfl, key_kk a.b a.K a.N, hc, rfl, sz64 (by omega), ?_⟩
    have e : ∀ x, (D ++ [Cell.dnd kvs]).set 2 x = D ++ [x] := fun x => by
      rw [List.set_append_right _ _ (by omega), h2]
      rfl
    suffices key : ∀ kvs', KI kvs' → kvs'.length ≤ kvs.length + 1 → b__law_are_apart_9 E (La r a a4 a5 a7 (some (.d (hrd a.K a.N a.b)))) ⟨(D ++ [Cell.dnd kvs]).set 2 (.dnd kvs'), L⟩ from key _ (ki_put hk a.b a.K a.N) ki_len
    intro kvs' hk' hl'
    rw [e]
    exact ap_9 hD ok (q kvs' _ hk' hl')
  refine w_seq (w_if (w_bor (w_test (w_op ?_))))
  have e0 : hrd a.K a.N a.b = .list [.str "told", if a.b then rowD (lrow a.K a.N) else .int (lw a.K a.N)] := hrd_none hn
  generalize hh : hrd a.K a.N a.b = H at next ⊢
  rw [hh] at e0
  refine ⟨.d H, rfl, w_c ?_⟩
  rw [e0]
  refine ⟨.str "told", rfl, w_c (w_neS ⟨_, rfl, ifF (by simp) ?_⟩)⟩
  refine w_band (w_bnot (w_test ⟨.bl a.b, rfl, a.b, rfl, ?_⟩))
  rw [← e0]
  cases hb : a.b with
  | true => exact ifF (by simp) (ifF (by simp) (w_next next))
  | false =>
    refine ifT (by simp) ?_
    rw [hb] at e0
    have ok1 : OkShow (.int (lw a.K a.N)) := (sw_int (i := lw a.K a.N) (by omega)).ok (by omega) (by omega)
    refine w_test (w_op (w_call (w_ac (w_op ⟨.d H, rfl, w_c ?_⟩))))
    rw [e0]
    refine ⟨.int (lw a.K a.N), rfl, w_an (w_shw ok1 ?_)⟩
    rw [← e0]
    exact w_call (w_ac ⟨.int (lw a.K a.N), rfl, w_an (w_shw ok1 (w_neS ⟨_, rfl, ifF (by simp) (w_next next)⟩))⟩)
end
end K37
set_option Elab.async false
set_option linter.all false
set_option maxRecDepth 100000
set_option maxHeartbeats 1000000
namespace K37
open PySem PySem.Spec L2 L3 Sh Pl Pq Wm Lw Ll
theorem w_eqFI {a b : Int} {M : Mem} {Q : Kt} (h : Q (.bl (decide (a = b))) M) : oEq false (.d (.int a)) (.d (.int b)) M Q := by
  rw [x_eqi]
  exact h
theorem apart_go {E : Es} {r : Nat} (done : ∀ τ D kvs L, Pl.RI D → E.nx τ ⟨D ++ [.dnd kvs], L⟩) :
    ∀ (m : Nat) (A : List Ask) (D : List Cell) (kvs : List (PyData × T)) (L : List (Option (List PyData))) (a3 a4 a5 a6 a7 a8 a9 a10 : Option T), A.length = m → Pl.RI D → (∀ a ∈ A, AOk a) → KI kvs → kvs.length + A.length ≤ 17 → L[r]? = some (some (A.map askD)) →
      goWh (mTest (mOp (oEq true) (mVar 1) (mLst aNil))) b__law_are_apart_14 E (m + 1) [some (.mr 1), some (.lr r), some (.mr 2), a3, a4, a5, a6, a7, a8, a9, a10] ⟨D ++ [.dnd kvs], L⟩ := by
  intro m
  induction m with
  | zero =>
    intro A D kvs L a3 a4 a5 a6 a7 a8 a9 a10 hm hD hA hk hl hL
    have e : A = [] := List.eq_nil_of_length_eq_zero hm
    subst e
    unfold goWh
    rw [x_test]
    refine w_op ⟨.lr r, rfl, w_lst (w_an ⟨Nat.zero_le _, ?_⟩)⟩
    refine w_neLs hL sh_asks ⟨false, rfl, ifF (by simp) ?_⟩
    exact done _ _ _ _ hD
  | succ m ih =>
    intro A D kvs L a3 a4 a5 a6 a7 a8 a9 a10 hm hD hA hk hl hL
    unfold goWh
    rw [x_test]
    refine w_op ⟨.lr r, rfl, w_lst (w_an ⟨Nat.zero_le _, ?_⟩)⟩
    refine w_neLs hL sh_asks ⟨true, ?_, ifT rfl ?_⟩
    · cases A with
      | nil => cases hm
      | cons a A => rfl
    refine w_seq (w_asg ?_)
    rw [x_meth]
    refine ⟨.lr r, rfl, ⟨_, hL⟩, ?_⟩
    refine w_ac (w_call (w_ac ⟨.mr 1, rfl, w_ac (w_call (w_ac ⟨.lr r, rfl, w_an (Wm.w_lenL hL ?_)⟩))⟩))
    rw [List.length_map]
    refine w_an (w_callC hD (by simp [noL, T.lo]) (Pl.sp_draw hD (by omega) (by omega) fun n D1 n0 n1 hD1 => ⟨(ri2 hD1).1, ?_⟩))
    obtain ⟨k, rfl⟩ : ∃ k : Nat, n = k := ⟨n.toNat, by omega⟩
    have hk1 : k < A.length := by omega
    have ea : (A.map askD)[k]? = some (askD A[k]) := by rw [List.getElem?_map, List.getElem?_eq_getElem hk1]; rfl
    have ok : AOk A[k] := hA _ (List.getElem_mem hk1)
    have mem : ∀ x ∈ A.eraseIdx k, AOk x := fun x hx => hA x (List.mem_of_mem_eraseIdx hx)
    have le : (A.eraseIdx k).length = m := by rw [List.length_eraseIdx, if_pos hk1]; omega
    refine w_an (Wm.w_popAt hL (by omega) ea ?_)
    rw [Wm.er_map]
    refine Wm.w_t4 ?_
    refine ap_13 (a := A[k]) (r := r) hD1 ok hk (by omega) fun kvs' a10' hk' hl' => ?_
    exact ih (A.eraseIdx k) D1 kvs' _ _ _ _ _ _ _ _ _ le hD1 mem hk' (by omega) (Wm.set_get hL)
def asks (K : Bk6) (N : List Int) : List Ask := [⟨false, K, N⟩, ⟨true, K, N⟩, ⟨false, K, N⟩, ⟨true, K, N⟩, ⟨true, K, N⟩]
theorem asks_ok {K : Bk6} {N : List Int} (g : GB K) (gf : GF K N) : ∀ a ∈ asks K N, AOk a := fun a ha => by
  simp [asks] at ha
  rcases ha with rfl | rfl | rfl | rfl <;> exact ⟨g, gf⟩
theorem four_ok : 4 ≤ sizeLine := sz64' (show 4 ≤ 100000 by decide)
theorem get_end {α : Type} (L : List α) (x : α) : (L ++ [x])[L.length]? = some x := by simp
theorem ap_1 {E : Es} {r : Nat} {A : List Ask} {K : Bk6} {N : List Int} {Dk : List Cell} {L : List (Option (List PyData))} {a4 a5 a7 a9 a10 : Option T} (hl : A.length ≤ 18) (hL : L[r]? = some (some (A.map askD)))
    (q : ∀ L' r', L'[r']? = some (some ((A ++ asks K N).map askD)) → E.nx [some (.mr 1), some (.lr r'), some (.mr 2), some (.d (recD N)), a4, a5, some (.d (bkD K)), a7, some (.int (lw K N)), a9, a10] ⟨Dk, L'⟩) :
    b__law_are_apart_1 E [some (.mr 1), some (.lr r), some (.mr 2), some (.d (recD N)), a4, a5, some (.d (bkD K)), a7, some (.int (lw K N)), a9, a10] ⟨Dk, L⟩ := by
  refine w_set (w_op (w_op (Wm.w_frzL (b := 1) rfl hL (w_op (w_lst (w_ac (w_tup (w_ac (w_c (w_ac ⟨.d (bkD K), rfl, w_ac ⟨.d (recD N), rfl, w_ac ⟨.int (lw K N), rfl, w_an ⟨four_ok, ?_⟩⟩⟩⟩))))))))))
  refine w_ac (w_tup (w_ac (w_c (w_ac ⟨.d (bkD K), rfl, w_ac ⟨.d (recD N), rfl, w_ac ⟨.int (lw K N), rfl, w_an ⟨four_ok, w_an ⟨two_ok, ?_⟩⟩⟩⟩⟩))))
  refine w_c ⟨⟨by omega, by omega, sz64' (by simp)⟩, ?_⟩
  refine Wm.w_catL (sz64' (by simp; omega)) ?_
  refine w_lst (w_ac (w_tup (w_ac (w_c (w_ac ⟨.d (bkD K), rfl, w_ac ⟨.d (recD N), rfl, w_ac ⟨.int (lw K N), rfl, w_an ⟨four_ok, w_an ⟨sz1, ?_⟩⟩⟩⟩⟩)))))
  refine ⟨sz64' (by simp; omega), ?_⟩
  refine q _ _ ?_
  rw [get_end]
  unfold asks
  simp [askD, List.replicate]
theorem ap_2 {E : Es} {r : Nat} {A : List Ask} {K : Bk6} {N : List Int} {D C : List Cell} {L : List (Option (List PyData))} {a3 a4 a5 a8 a9 a10 : Option T} (hD : Pl.RI D) (g : GB K) (gf : GF K N) (hl : A.length ≤ 18) (hL : L[r]? = some (some (A.map askD)))
    (q : ∀ L' r', L'[r']? = some (some ((A ++ asks K N).map askD)) → E.nx [some (.mr 1), some (.lr r'), some (.mr 2), some (.d (recD N)), a4, a5, some (.d (bkD K)), some (.d (recD N)), some (.int (lw K N)), a9, a10] ⟨D ++ C, L'⟩) :
    b__law_are_apart_2 E [some (.mr 1), some (.lr r), some (.mr 2), a3, a4, a5, some (.d (bkD K)), some (.d (recD N)), a8, a9, a10] ⟨D ++ C, L⟩ := by
  refine w_seq ?_
  rw [x_par]
  refine w_ac ⟨.d (recD N), rfl, w_ac (w_call (w_ac ⟨.d (bkD K), rfl, w_ac ⟨.d (recD N), rfl, w_an (w_callC hD (by simp [noL, T.lo]) (sp_law_least g gf ⟨(ri2 hD).1, w_an ?_⟩))⟩⟩))⟩
  suffices key : b__law_are_apart_1 E [some (.mr 1), some (.lr r), some (.mr 2), some (.d (recD N)), a4, a5, some (.d (bkD K)), some (.d (recD N)), some (.int (lw K N)), a9, a10] ⟨D ++ C, L⟩ from key
  exact ap_1 hl hL q
structure R0 (N : List Int) : Prop where
  ne : N ≠ []
  six : N.length ≤ 6
  ok : ∀ n ∈ N, 0 ≤ n ∧ n ≤ 1000000000000000000000000000000
  pos : ∃ n ∈ N, 0 < n
  few : N.sum ≤ 8
theorem r0_of {K : Bk6} {N : List Int} (g : GB K) (gn : GN K N) (h : N.sum ≤ 8) : R0 N := by
  have hl := gn.len
  have h6 := g.six
  have h1 := List.length_pos_iff.mpr g.ne
  exact ⟨List.length_pos_iff.mp (by omega), by omega, gn.ok, gn.pos, h⟩
theorem ap_3 {E : Es} {r t : Nat} {A : List Ask} {K : Bk6} {N : List Int} {D C : List Cell} {L : List (Option (List PyData))} {a3 a5 a8 a9 a10 : Option T} (hD : Pl.RI D) (g : GB K) (gn : GN K N) (hs : N.sum ≤ 8) (hl : A.length ≤ 18) (hL : L[r]? = some (some (A.map askD)))
    (h3 : t = 1 → ∃ N0, a3 = some (.d (recD N0)) ∧ R0 N0)
    (q : ∀ K N D' L' r' a5 a7, GB K → GF K N → N.sum ≤ 8 → Pl.RI D' → L'[r']? = some (some ((A ++ asks K N).map askD)) → E.nx [some (.mr 1), some (.lr r'), some (.mr 2), some (.d (recD N)), some (.int (t : Int)), a5, some (.d (bkD K)), a7, some (.int (lw K N)), a9, a10] ⟨D' ++ C, L'⟩) :
    b__law_are_apart_3 E [some (.mr 1), some (.lr r), some (.mr 2), a3, some (.int (t : Int)), a5, some (.d (bkD K)), some (.d (recD N)), a8, a9, a10] ⟨D ++ C, L⟩ := by
  have plain : ∀ D, Pl.RI D → b__law_are_apart_2 E [some (.mr 1), some (.lr r), some (.mr 2), a3, some (.int (t : Int)), a5, some (.d (bkD K)), some (.d (recD N)), a8, a9, a10] ⟨D ++ C, L⟩ := fun D hD =>
    ap_2 hD g (gf_few gn hs) hl hL fun L' r' h => q K N D L' r' _ _ g (gf_few gn hs) hs hD h
  refine w_seq (w_if (w_band (w_test (w_op ⟨.int (t : Int), rfl, w_c (w_eqFI ⟨_, rfl, ?_⟩)⟩))))
  by_cases ht : t = 1
  · refine ifT (by simp [ht]) (w_test (w_op (w_call (w_ac ⟨.mr 1, rfl, w_ac (w_c (w_an (w_callC hD (by simp [noL, T.lo]) (Pl.sp_draw hD (by omega) (by omega) fun d D1 d0 d1 hD1 => ⟨(ri2 hD1).1, w_c (w_eqFI ⟨_, rfl, ?_⟩)⟩))))⟩))))
    by_cases z : d = 0
    · obtain ⟨N0, rfl, r0⟩ := h3 ht
      refine ifT (by simp [z]) ?_
      suffices key : ∀ E2 : Es, (∀ K a5 D, GB K → K.length = N0.length → Pl.RI D → E2.nx [some (.mr 1), some (.lr r), some (.mr 2), some (.d (recD N0)), some (.int (t : Int)), a5, some (.d (bkD K)), some (.d (recD N0)), a8, a9, a10] ⟨D ++ C, L⟩) →
        b__law_are_apart_0 E2 [some (.mr 1), some (.lr r), some (.mr 2), some (.d (recD N0)), some (.int (t : Int)), a5, some (.d (bkD K)), some (.d (recD N)), a8, a9, a10] ⟨D1 ++ C, L⟩ from by
        refine key _ fun K2 a5 D2 g2 hK hD2 => ?_
        have gn2 : GN K2 N0 := ⟨hK.symm, r0.ok, r0.pos⟩
        have gf2 := gf_few gn2 r0.few
        exact ap_2 hD2 g2 gf2 hl hL fun L' r' h => q K2 N0 D2 L' r' _ _ g2 gf2 r0.few hD2 h
      intro E2 k2
      show mPar _ _ _ _ _ _
      rw [x_par]
      refine w_ac (w_call (w_ac (w_lc ?_)))
      rw [x_iseq]
      refine ⟨.d (recD N0), rfl, ?_⟩
      show goLc _ _ _ [some (.mr 1), some (.lr r), some (.mr 2), some (.d (recD N0)), some (.int (t : Int)), none, some (.d (bkD K)), some (.d (recD N)), a8, a9, a10] _ ((N0.map PyData.int).map T.d) [] _
      refine lc_all (fun i acc M' => ∃ (K' : Bk6) (D' : List Cell), M' = ⟨D' ++ C, L⟩ ∧ Pl.RI D' ∧ acc = K'.map kd ∧ K'.length = i ∧ ∀ k ∈ K', GK k) ⟨[], D1, rfl, hD1, rfl, rfl, fun k hk => nomatch hk⟩ ?_ ?_
      · rintro i acc M' u R hu ⟨K', D', rfl, hD', rfl, hi, hK'⟩ k
        obtain ⟨n, hn, rfl, hlt⟩ := int_at hu
        rw [x_gn]
        refine w_yes (ifT rfl ?_)
        refine w_tup (w_ac (w_op (w_c (w_call (w_ac ⟨.mr 1, rfl, w_ac (w_c (w_an (w_callC hD' (by simp [noL, T.lo]) (Pl.sp_draw hD' (by omega) (by omega) fun e D6 z0 z1 hD6 => ⟨(ri2 hD6).1, w_add (w_ac (w_c (w_an ⟨two_ok, ?_⟩)))⟩))))⟩)))))
        have h6 := r0.six
        refine ⟨sz64 (by rw [List.length_map]; omega), k _ _ ⟨K' ++ [(1 + e, 1)], D6, rfl, hD6, by rw [List.map_append]; rfl, by rw [List.length_append, hi]; rfl, fun k hk => ?_⟩⟩
        rcases List.mem_append.mp hk with y | y
        · exact hK' k y
        · rw [List.mem_singleton.mp y]
          exact ⟨⟨by show (1 : Int) ≤ 1 + e; omega, by show 1 + e ≤ (1000000000000000000000000000000 : Int); omega⟩, .inl rfl⟩
      · rintro acc M' ⟨K', D', rfl, hD', rfl, hi, hK'⟩
        rw [List.length_map, List.length_map] at hi
        have h6 := r0.six
        have h1 := List.length_pos_iff.mpr r0.ne
        refine w_an (w_tupl ?_)
        refine w_ac ⟨.d (recD N0), rfl, w_an ?_⟩
        exact k2 K' _ D' ⟨List.length_pos_iff.mp (by omega), by omega, hK'⟩ hi hD'
    · exact ifF (by simp [z]) (w_next (plain D1 hD1))
  · exact ifF (by simpa using fun z => ht (by omega)) (ifF (by simp) (w_next (plain D hD)))
theorem ap_5 {E : Es} {r t : Nat} {A : List Ask} {D C : List Cell} {L : List (Option (List PyData))} {a3 a5 a6 a7 a8 a9 a10 : Option T} (hD : Pl.RI D) (hl : A.length ≤ 18) (hL : L[r]? = some (some (A.map askD))) (h3 : t = 1 → ∃ N0, a3 = some (.d (recD N0)) ∧ R0 N0)
    (q : ∀ K N D' L' r' a5 a7, GB K → GF K N → N.sum ≤ 8 → Pl.RI D' → L'[r']? = some (some ((A ++ asks K N).map askD)) → E.nx [some (.mr 1), some (.lr r'), some (.mr 2), some (.d (recD N)), some (.int (t : Int)), a5, some (.d (bkD K)), a7, some (.int (lw K N)), a9, a10] ⟨D' ++ C, L'⟩) :
    b__law_are_apart_5 E [some (.mr 1), some (.lr r), some (.mr 2), a3, some (.int (t : Int)), a5, a6, a7, a8, a9, a10] ⟨D ++ C, L⟩ := by
  refine w_seq (w_set (w_op (w_c (w_call (w_ac ⟨.mr 1, rfl, w_ac (w_c (w_an (w_callC hD (by simp [noL, T.lo]) (Pl.sp_draw hD (by omega) (by omega) fun m D1 d0 d1 hD1 => ⟨(ri2 hD1).1, w_add ?_⟩))))⟩)))))
  suffices key : b__law_are_apart_4 E [some (.mr 1), some (.lr r), some (.mr 2), a3, some (.int (t : Int)), some (.int (1 + m)), a6, a7, a8, a9, a10] ⟨D1 ++ C, L⟩ from key
  refine w_seq ?_
  rw [x_par]
  refine w_ac (w_call (w_ac ⟨.mr 1, rfl, w_ac ⟨.int (1 + m), rfl, w_ac (w_call (w_ac ⟨.mr 1, rfl, w_an (w_callC hD1 (by simp [noL, T.lo]) (sp_steps hD1 fun S D2 s1 s2 s3 hD2 => ⟨(ri2 hD2).1, ?_⟩))⟩))⟩⟩))
  refine w_ac (w_op ⟨.int (t : Int), rfl, w_c (w_eqFI ?_)⟩)
  refine w_an (w_callC hD2 (by simp [noL, T.lo]) (sp_book hD2 s1 s2 s3 (by omega) (by omega) fun K D3 g hK hD3 => ⟨(ri2 hD3).1, ?_⟩))
  rw [← hK]
  refine w_ac (w_call (w_ac ⟨.mr 1, rfl, w_ac ⟨.int (K.length : Int), rfl, w_ac (w_c (w_an (w_callC hD3 (by simp [noL, T.lo]) (Pl.sp_few hD3 g (by omega) (by omega) fun N D4 gn n1 n2 hD4 => ⟨(ri2 hD4).1, w_an ?_⟩))))⟩⟩))
  suffices key : b__law_are_apart_3 E [some (.mr 1), some (.lr r), some (.mr 2), a3, some (.int (t : Int)), some (.int (K.length : Int)), some (.d (bkD K)), some (.d (recD N)), a8, a9, a10] ⟨D4 ++ C, L⟩ from key
  exact ap_3 hD4 g gn (by omega) hl hL h3 q
theorem w_par3 {i j l : Nat} {r : Ma} {E : Es} {τ : En} {M : Mem} (h : r τ M fun ts M1 => match ts with
    | [t, u, v] => E.nx (((τ.set i (some t)).set j (some u)).set l (some v)) M1
    | _ => False) : mPar3 i j l r E τ M := h
theorem sp_apart {D : List Cell} {Q : T → List Cell → Prop} (hD : Pl.RI D) (q : ∀ D', Pl.RI D' → Q (.bl true) D') : d__law_are_apart [.mr 1] D Q := by
  have h2 := (ri2 hD).1
  refine ⟨rfl, ?_⟩
  rw [h2]
  suffices key : ∀ E : Es, (∀ D', Pl.RI D' → ∀ kvs L, E.rt (.bl true) ⟨D' ++ [.dnd kvs], L⟩) → b__law_are_apart_18 E [some (.mr 1), none, none, none, none, none, none, none, none, none, none] ⟨D, []⟩ from key _ fun D' hD' kvs L => by
    refine ⟨⟨_, rfl⟩, (ri2 hD').2 _, ?_⟩
    show Q _ ((D' ++ _).take 2)
    rw [List.take_left' (ri2 hD').1]
    exact q D' hD'
  intro E q
  refine w_seq (w_par3 (w_ac ?_))
  rw [x_newL]
  refine w_an ⟨Nat.zero_le _, w_ac ?_⟩
  refine w_knew ?_
  refine w_ac (w_tup (w_an ⟨Nat.zero_le _, w_an ?_⟩))
  show b__law_are_apart_17 E [some (.mr 1), some (.lr 0), some (.mr D.length), some (.tup []), none, none, none, none, none, none, none] ⟨D ++ [.dnd []], [some []]⟩
  rw [h2]
  refine w_seq (w_for ?_)
  rw [x_irange]
  refine w_ac (w_c (w_an ⟨by decide, ?_⟩))
  show goFor _ _ _ [T.int ((0 : Nat) : Int), T.int ((1 : Nat) : Int)] _ _
  rw [x_forc]
  show b__law_are_apart_5 _ [some (.mr 1), some (.lr 0), some (.mr 2), some (.tup []), some (.int ((0 : Nat) : Int)), none, none, none, none, none, none] _
  refine ap_5 (t := 0) (A := []) (r := 0) hD (by simp) rfl (fun z => nomatch z) fun K1 N1 D1 L1 r1 a5 a7 g1 gf1 s1 hD1 h1 => ?_
  dsimp only
  rw [x_forc]
  show b__law_are_apart_5 _ [some (.mr 1), some (.lr r1), some (.mr 2), some (.d (recD N1)), some (.int ((1 : Nat) : Int)), a5, some (.d (bkD K1)), a7, some (.int (lw K1 N1)), none, none] _
  refine ap_5 (t := 1) (A := [] ++ asks K1 N1) (r := r1) hD1 (by simp [asks]) h1 (fun _ => ⟨N1, rfl, r0_of g1 gf1.gn s1⟩) fun K2 N2 D2 L2 r2 a5 a7 g2 gf2 s2 hD2 h2' => ?_
  show b__law_are_apart_16 E [some (.mr 1), some (.lr r2), some (.mr 2), some (.d (recD N2)), some (.int ((1 : Nat) : Int)), a5, some (.d (bkD K2)), a7, some (.int (lw K2 N2)), none, none] ⟨D2 ++ [.dnd []], L2⟩
  refine w_seq ⟨([] ++ asks K1 N1 ++ asks K2 N2).length + 1, ?_⟩
  refine apart_go (fun τ D3 kvs L hD3 => ?_) _ ([] ++ asks K1 N1 ++ asks K2 N2) D2 [] L2 _ _ _ _ _ _ _ _ rfl hD2 (fun a ha => ?_) (fun p hp => nomatch hp) (by simp [asks]) h2'
  · show b__law_are_apart_15 E τ ⟨D3 ++ [.dnd kvs], L⟩
    exact w_ret (w_c (q D3 hD3 kvs L))
  · rcases List.mem_append.mp ha with z | z
    · exact asks_ok g1 gf1 a (by simpa using z)
    · exact asks_ok g2 gf2 a z
end K37
set_option Elab.async false
set_option linter.all false
set_option maxRecDepth 100000
set_option maxHeartbeats 1000000
namespace K37
open PySem PySem.Spec L2 L3 Sh Pl Pq Wm Lw Ll
def MT (a : Ma) (N : List Int) : Prop := ∀ (τ : En) (M : Mem) (R : List T → Mem → Prop), R (N.map T.int) M → a τ M R
theorem mt_nil : MT aNil [] := fun _ _ _ h => h
theorem mt_int {n : Int} {N : List Int} {a : Ma} (h : MT a N) : MT (aCons (mC (.int n)) a) (n :: N) := fun τ M R q => w_ac (w_c (h τ M _ q))
theorem w_pow {i j : Int} {M : Mem} {Q : Kt} (z : CPow i j) (q : Q (.int (i ^ j.toNat)) M) : oPow (.d (.int i)) (.d (.int j)) M Q := ⟨z, q⟩
theorem mt_pow {N : List Int} {a : Ma} (h : MT a N) : MT (aCons (mOp oPow (mC (.int 10)) (mC (.int 30))) a) (1000000000000000000000000000000 :: N) := fun τ M R q =>
  w_ac (w_op (w_c (w_c (w_pow (by unfold CPow; omega) (h τ M _ q)))))
def MM (a : Ma) (l : List (List Int)) : Prop := ∀ (τ : En) (M : Mem) (R : List T → Mem → Prop), R ((l.map recD).map T.d) M → a τ M R
theorem mm_nil : MM aNil [] := fun _ _ _ h => h
theorem w_mt {t : Ma} {N : List Int} {τ : En} {M : Mem} {Q : Kt} (hN : N.length ≤ 100) (h : MT t N) (q : Q (.d (recD N)) M) : mTup t τ M Q := by
  refine w_tup (h τ M _ ?_)
  rw [datas_ints]
  exact ⟨sz64' (by rw [List.length_map]; omega), q⟩
theorem mm_tup {t a : Ma} {N : List Int} {l : List (List Int)} (hN : N.length ≤ 100) (h : MT t N) (k : MM a l) : MM (aCons (mTup t) a) (N :: l) := fun τ M R q => w_ac (w_mt hN h (k τ M _ q))
theorem mm_rep {a : Ma} {l : List (List Int)} (k : MM a l) : MM (aCons (mOp oRepT (mTup (aCons (mC (.int 1)) aNil)) (mC (.int 6))) a) ([1, 1, 1, 1, 1, 1] :: l) := fun τ M R q => by
  refine w_ac (w_op (w_tup (w_ac (w_c (w_an ⟨sz1, w_c ?_⟩)))))
  rw [x_repT]
  exact ⟨⟨by simp, by omega, by omega, by simp⟩, k τ M _ q⟩
theorem w_lm {a : Ma} {l : List (List Int)} {τ : En} {M : Mem} {Q : Kt} (h : MM a l) (hl : l.length ≤ 100) (q : Q (.lst (l.map recD)) M) : mLst a τ M Q := by
  rw [x_lst]
  refine h τ M _ ?_
  rw [datas_ds]
  exact ⟨sz64' (by rw [List.length_map]; omega), q⟩
def m1 : List (List Int) := [[100], [101], [99, 1], [100, 1], [98, 1], [15, 15], [15, 16], [16, 15], [84, 2], [85, 2], [127, 1]]
def m2 : List (List Int) := [[3, 3, 3, 3]]
def m3 : List (List Int) := [[3, 3, 3, 3, 1], [1, 1, 1, 1, 1, 1], [1, 1, 1, 1, 1, 7], [1, 1, 1, 1, 1, 8], [63, 3], [64, 3], [50, 51]]
def m4 : List (List Int) := [[0, 101]]
def m5 : List (List Int) := [[0, 100], [1000000000000000000000000000000], [1000000000000000000000000000000, 0, 1], [0, 0, 100, 0], [0, 15, 0, 15], [0, 15, 0, 16], [51, 4]]
def m6 : List (List Int) := [[255]]
def m7 : List (List Int) := [[50, 50], [2, 84, 0], [5, 5, 6], [5, 6, 6], [7, 7, 3], [7, 7, 4], [1, 127], [0, 0, 0, 0, 0, 100]]
def m8 : List (List Int) := [[31, 7]]
def menu : List (List Int) := m1 ++ m2 ++ m3 ++ m4 ++ m5 ++ m6 ++ m7 ++ m8
theorem menu_ok : ∀ N ∈ menu, 1 ≤ N.length ∧ N.length ≤ 6 ∧ (∀ n ∈ N, 0 ≤ n ∧ n ≤ 1000000000000000000000000000000) ∧ 0 < N.sum ∧
    ∀ i ∈ List.range N.length, (-18446744073709551616 < prd (N.take i) ∧ prd (N.take i) < 18446744073709551616) ∨ (-18446744073709551616 < N.getD i 0 + 1 ∧ N.getD i 0 + 1 < 18446744073709551616) := by decide +kernel
theorem menu_cm {N : List Int} (h : N ∈ menu) : CmN N := fun i n hn => by
  have hi : i < N.length := (List.getElem?_eq_some_iff.mp hn).1
  have := (menu_ok N h).2.2.2.2 i (List.mem_range.mpr hi)
  rw [List.getD_eq_getElem?_getD, hn] at this
  unfold CMul
  simpa using this
abbrev Ed (l : List (List Int)) : En := [some (.mr 1), some (.d (.list (l.map recD)))]
theorem ed_cat {a b : List (List Int)} {M : Mem} {Q : Kt} (h : a.length + b.length ≤ 100) (q : Q (.d (.list ((a ++ b).map recD))) M) : oAdd (.d (.list (a.map recD))) (.d (.list (b.map recD))) M Q := by
  refine Wm.w_catL (sz64' (by rw [List.length_map, List.length_map]; omega)) ?_
  rw [← List.map_append]
  exact q
theorem sp_edge {D : List Cell} {Q : T → List Cell → Prop} (hD : Pl.RI D) (q : ∀ N D', N ∈ menu → Pl.RI D' → Q (.d (recD N)) D') : d__law_edge [.mr 1] D Q := by
  refine ⟨rfl, ?_⟩
  suffices key : ∀ E : Es, (∀ N D', N ∈ menu → Pl.RI D' → E.rt (.d (recD N)) ⟨D', []⟩) → b__law_edge_8 E [some (.mr 1), none] ⟨D, []⟩ from key _ fun N D' hN hD' => ⟨rfl, q N D' hN hD'⟩
  intro E q
  refine w_seq (w_set (w_lm (l := m1) ?_ (by decide) ?_))
  · unfold m1
    repeat' (first | exact mm_nil | refine mm_tup (by decide) ?_ ?_ | exact mt_nil | refine mt_int ?_)
  suffices key : b__law_edge_7 E (Ed m1) ⟨D, []⟩ from key
  refine w_seq (w_set (w_op ⟨_, rfl, w_lm (l := m2) ?_ (by decide) (ed_cat (by decide) ?_)⟩))
  · unfold m2
    repeat' (first | exact mm_nil | refine mm_tup (by decide) ?_ ?_ | exact mt_nil | refine mt_int ?_)
  suffices key : b__law_edge_6 E (Ed (m1 ++ m2)) ⟨D, []⟩ from key
  refine w_seq (w_set (w_op ⟨_, rfl, w_lm (l := m3) ?_ (by decide) (ed_cat (by decide) ?_)⟩))
  · unfold m3
    refine mm_tup (by decide) ?_ (mm_rep ?_)
    repeat' (first | exact mm_nil | refine mm_tup (by decide) ?_ ?_ | exact mt_nil | refine mt_int ?_)
    repeat' (first | exact mm_nil | refine mm_tup (by decide) ?_ ?_ | exact mt_nil | refine mt_int ?_)
  suffices key : b__law_edge_5 E (Ed (m1 ++ m2 ++ m3)) ⟨D, []⟩ from key
  refine w_seq (w_set (w_op ⟨_, rfl, w_lm (l := m4) ?_ (by decide) (ed_cat (by decide) ?_)⟩))
  · unfold m4
    repeat' (first | exact mm_nil | refine mm_tup (by decide) ?_ ?_ | exact mt_nil | refine mt_int ?_)
  suffices key : b__law_edge_4 E (Ed (m1 ++ m2 ++ m3 ++ m4)) ⟨D, []⟩ from key
  refine w_seq (w_set (w_op ⟨_, rfl, w_lm (l := m5) ?_ (by decide) (ed_cat (by decide) ?_)⟩))
  · unfold m5
    refine mm_tup (by decide) (mt_int (mt_int mt_nil)) (mm_tup (by decide) (mt_pow mt_nil) (mm_tup (by decide) (mt_pow (mt_int (mt_int mt_nil))) ?_))
    repeat' (first | exact mm_nil | refine mm_tup (by decide) ?_ ?_ | exact mt_nil | refine mt_int ?_)
  suffices key : b__law_edge_3 E (Ed (m1 ++ m2 ++ m3 ++ m4 ++ m5)) ⟨D, []⟩ from key
  refine w_seq (w_set (w_op ⟨_, rfl, w_lm (l := m6) ?_ (by decide) (ed_cat (by decide) ?_)⟩))
  · unfold m6
    repeat' (first | exact mm_nil | refine mm_tup (by decide) ?_ ?_ | exact mt_nil | refine mt_int ?_)
  suffices key : b__law_edge_2 E (Ed (m1 ++ m2 ++ m3 ++ m4 ++ m5 ++ m6)) ⟨D, []⟩ from key
  refine w_seq (w_set (w_op ⟨_, rfl, w_lm (l := m7) ?_ (by decide) (ed_cat (by decide) ?_)⟩))
  · unfold m7
    repeat' (first | exact mm_nil | refine mm_tup (by decide) ?_ ?_ | exact mt_nil | refine mt_int ?_)
  suffices key : b__law_edge_1 E (Ed (m1 ++ m2 ++ m3 ++ m4 ++ m5 ++ m6 ++ m7)) ⟨D, []⟩ from key
  refine w_seq (w_set (w_op ⟨_, rfl, w_lm (l := m8) ?_ (by decide) (ed_cat (by decide) ?_)⟩))
  · unfold m8
    repeat' (first | exact mm_nil | refine mm_tup (by decide) ?_ ?_ | exact mt_nil | refine mt_int ?_)
  suffices key : b__law_edge_0 E (Ed menu) ⟨D, []⟩ from key
  refine w_ret (w_call (w_ac ⟨.mr 1, rfl, w_ac ⟨_, rfl, w_an ⟨by simp, Pl.sp_pick hD (by decide) (by decide) fun x D1 hx hD1 => ?_⟩⟩⟩))
  obtain ⟨N, hN, rfl⟩ := List.mem_map.mp hx
  exact q N D1 hN hD1
abbrev Ev (ns : List Int) (a b c d e : Option T) : En := [some (.scr ns), some (.mr 1), a, b, c, d, e]
theorem law_5 {E : Es} {ns : List Int} {i : Nat} {D C : List Cell} {a2 a3 a5 a6 : Option T} (hD : Pl.RI D)
    (q : ∀ D' a5 a6, Pl.RI D' → E.nx (Ev ns a2 a3 (some (.int (i : Int))) a5 a6) ⟨D' ++ C, []⟩) :
    b_law_5 E (Ev ns a2 a3 (some (.int (i : Int))) a5 a6) ⟨D ++ C, []⟩ := by
  refine w_seq (w_set (w_call (w_ac ⟨.mr 1, rfl, w_an (w_callC hD (by simp [noL, T.lo]) (sp_edge hD fun N D1 hN hD1 => ⟨(ri2 hD1).1, ?_⟩))⟩)))
  obtain ⟨l1, l6, r2, r3, _⟩ := menu_ok N hN
  suffices key : b_law_4 E (Ev ns a2 a3 (some (.int (i : Int))) (some (.d (recD N))) a6) ⟨D1 ++ C, []⟩ from key
  refine w_seq (w_set (w_call (w_ac ⟨.mr 1, rfl, w_ac (w_call (w_ac ⟨.d (recD N), rfl, w_an ?_⟩))⟩)))
  show fLen [.d (.tuple (N.map .int))] _ _
  rw [x_lent, List.length_map]
  refine w_ac (w_call (w_ac ⟨.mr 1, rfl, w_an (w_callC hD1 (by simp [noL, T.lo]) (sp_steps hD1 fun S D3 s1 s2 s3 hD3 => ⟨(ri2 hD3).1, ?_⟩))⟩))
  refine w_ac (w_op ⟨.int (i : Int), rfl, w_c (w_eqFI ?_)⟩)
  refine w_an (w_callC hD3 (by simp [noL, T.lo]) (sp_book hD3 s1 s2 s3 (by omega) (by omega) fun K D4 g hK hD4 => ⟨(ri2 hD4).1, ?_⟩))
  have gn : GN K N := ⟨by omega, r2, pos_ex (fun n hn => (r2 n hn).1) r3⟩
  suffices key : b_law_3 E (Ev ns a2 a3 (some (.int (i : Int))) (some (.d (recD N))) (some (.d (bkD K)))) ⟨D4 ++ C, []⟩ from key
  refine w_if (w_bnot (w_test (w_call (w_ac ⟨.d (bkD K), rfl, w_ac ⟨.d (recD N), rfl, w_ac (w_op ⟨.int (i : Int), rfl, w_c (w_eqFI ?_)⟩)⟩⟩))))
  refine w_an (w_callC hD4 (by simp [noL, T.lo]) (sp_is_right g gn (menu_cm hN) ⟨(ri2 hD4).1, true, rfl, ifF (by simp) (w_next ?_)⟩))
  exact q D4 _ _ hD4
theorem law_8 {E : Es} {ns : List Int} {D C : List Cell} {a2 a3 a4 a5 a6 : Option T} (hD : Pl.RI D) (q : ∀ M, E.rt (.bl true) M) : b_law_8 E (Ev ns a2 a3 a4 a5 a6) ⟨D ++ C, []⟩ := by
  refine w_seq (w_if (w_bnot (w_test (w_call (w_ac ⟨.mr 1, rfl, w_an (w_callC hD (by simp [noL, T.lo]) (sp_apart hD fun D1 hD1 => ⟨(ri2 hD1).1, true, rfl, ifF (by simp) (w_next ?_)⟩))⟩)))))
  suffices key : b_law_7 E (Ev ns a2 a3 a4 a5 a6) ⟨D1 ++ C, []⟩ from key
  refine w_seq (w_for ?_)
  rw [x_irange]
  refine w_ac (w_c (w_an ⟨by decide, ?_⟩))
  suffices key : ∀ E2 : Es, (∀ τ M, E2.nx τ M) → goFor (gN 4) b_law_5 E2 (rangeT 4) (Ev ns a2 a3 a4 a5 a6) ⟨D1 ++ C, []⟩ from key _ fun τ M => by
    show b_law_6 E τ M
    exact w_ret (w_c (q M))
  intro E2 k2
  refine for_all (fun i τ M => ∃ D' a4 a5 a6, M = ⟨D' ++ C, []⟩ ∧ Pl.RI D' ∧ τ = Ev ns a2 a3 a4 a5 a6) ⟨D1, _, _, _, rfl, hD1, rfl⟩ ?_ ?_
  · rintro i τ M t R ht ⟨D', b4, b5, b6, rfl, hD', rfl⟩ k
    obtain ⟨hi, rfl⟩ := range_at ht
    rw [x_gn]
    suffices key : ∀ E : Es, (∀ D' a5 a6, Pl.RI D' → E.nx (Ev ns a2 a3 (some (.int (i : Int))) a5 a6) ⟨D' ++ C, []⟩) → b_law_5 E (Ev ns a2 a3 (some (.int (i : Int))) b5 b6) ⟨D' ++ C, []⟩ from key _ fun D' a5 a6 hD' => k _ _ ⟨D', _, _, _, rfl, hD', rfl⟩
    intro E q
    exact law_5 hD' q
  · intro τ M _
    exact k2 τ M
theorem x_lcR {n i : Nat} {ds ts : List T} {t : T} {m : Me} {τ0 : En} {Q : List PyData → Mem → Prop} {acc : List PyData} {M : Mem} : goLcR n ds (gN i) bYes m τ0 Q (t :: ts) acc M =
    (if true = true then m (τ0.set i (some t)) M fun y M3 => (match y with
      | .d z => acc.length < sizeLine ∧ M3.D[n]? = some (.lst ds) ∧ goLcR n ds (gN i) bYes m τ0 Q ts (acc ++ [z]) M3
      | _ => False) else M.D[n]? = some (.lst ds) ∧ goLcR n ds (gN i) bYes m τ0 Q ts acc M) := rfl
theorem x_lcR0 {n : Nat} {ds : List T} {g : Mg} {c : Mb} {m : Me} {τ0 : En} {Q : List PyData → Mem → Prop} {acc : List PyData} {M : Mem} : goLcR n ds g c m τ0 Q [] acc M = Q acc M := rfl
theorem lcR_1 {n i : Nat} {ds ts : List T} {t : T} {m : Me} {τ0 : En} {Q : List PyData → Mem → Prop} {acc : List PyData} {M : Mem} (h : m (τ0.set i (some t)) M fun y M3 => (match y with
      | .d z => acc.length < sizeLine ∧ M3.D[n]? = some (.lst ds) ∧ goLcR n ds (gN i) bYes m τ0 Q ts (acc ++ [z]) M3
      | _ => False)) : goLcR n ds (gN i) bYes m τ0 Q (t :: ts) acc M := by
  rw [x_lcR, if_pos rfl]
  exact h
theorem w_newD {r : Ma} {τ : En} {M : Mem} {Q : Kt} (h : r τ M fun ts M1 => ((∀ t ∈ ts, noL t = true) ∧ ts.length ≤ sizeLine) ∧ Q (.mr M1.D.length) { M1 with D := M1.D ++ [.lst ts] }) : mNewD r τ M Q := h
theorem w_isNm {k : Nat} {M : Mem} {Q : Kt} (q : Q (.bl false) M) : oIsN (.mr k) (.d .none) M Q := ⟨rfl, q⟩
theorem gbA : GB [(4, 4), (2, 2)] := ⟨by simp, by simp, fun k hk => by
  simp at hk
  rcases hk with rfl | rfl
  · exact ⟨⟨by decide, by decide⟩, by unfold Al; decide⟩
  · exact ⟨⟨by decide, by decide⟩, by unfold Al; decide⟩⟩
theorem gbB : GB [(1, 1)] := ⟨by simp, by simp, fun k hk => by
  simp at hk
  subst hk
  exact ⟨⟨by decide, by decide⟩, by unfold Al; decide⟩⟩
theorem gnA : GN [(4, 4), (2, 2)] [15, 16] := ⟨rfl, by decide, ⟨15, by simp, by omega⟩⟩
theorem gnB : GN [(1, 1)] [101] := ⟨rfl, by decide, ⟨101, by simp, by omega⟩⟩
theorem gnC : GN [(1, 1)] [1000000000000000000000000000000] := ⟨rfl, by decide, ⟨1000000000000000000000000000000, by simp, by omega⟩⟩
theorem fwA : fewx [15, 16] = some 256 := by decide +kernel
theorem fwB : fewx [101] = some 100 := by decide +kernel
theorem fwC : fewx [1000000000000000000000000000000] = some 100 := by decide +kernel
theorem sh_fff : SeqAt.shaped (.list [.bool false, .bool false, .bool false]) = true := by decide +kernel
theorem ok_lim : OkShow (.list [.int 256, .int 100, .int 100]) := (sw_list (sw_cons (sw_int (i := 256) (by omega)) (sw_cons (sw_int (i := 100) (by omega)) (sw_one (sw_int (i := 100) (by omega)))))).ok (by omega) (by omega)
abbrev cA : Cell := .exc "limit" (tm 256)
abbrev cB : Cell := .exc "limit" (tm 100)
theorem law_9 {E : Es} {ns : List Int} {c0 c1 : Cell} {a4 a5 a6 : Option T} (hD : Pl.RI [c0, c1]) (q : ∀ M, E.rt (.bl true) M) :
    b_law_9 E (Ev ns (some (.mr 4)) none a4 a5 a6) ⟨[c0, c1, cA, cB, .lst [.mr 2, .mr 3, .mr 5], cB], []⟩ := by
  refine w_seq (w_if (w_bor (w_test (w_op ⟨.mr 4, rfl, 4, _, rfl, rfl, ?_⟩))))
  show goLcR 4 _ (gN 3) bYes _ (Ev ns (some (.mr 4)) none a4 a5 a6) _ _ _ _
  refine lcR_1 (w_op ⟨.mr 2, rfl, w_c (w_isNm ⟨sz64' (by simp), rfl, ?_⟩)⟩)
  refine lcR_1 (w_op ⟨.mr 3, rfl, w_c (w_isNm ⟨sz64' (by simp), rfl, ?_⟩)⟩)
  refine lcR_1 (w_op ⟨.mr 5, rfl, w_c (w_isNm ⟨sz64' (by simp), rfl, ?_⟩)⟩)
  refine (?_ : mOp oMul (mLst (aCons (mC (.bool false)) aNil)) (mC (.int 3)) _ _ _)
  refine w_op (w_lst (w_ac (w_c (w_an ⟨sz1, w_c ⟨⟨by omega, by omega, sz64' (by simp)⟩, ?_⟩⟩))))
  show oEq true (.d (.list [.bool false, .bool false, .bool false])) (.d (.list [.bool false, .bool false, .bool false])) _ _
  rw [x_eq (a := .list [.bool false, .bool false, .bool false]) (b := .list [.bool false, .bool false, .bool false]) rfl rfl sh_fff sh_fff (fun _ z => nomatch z), SeqAt.eqv_refl _ (Bool.and_eq_true_iff.mp sh_fff).1]
  refine ⟨false, rfl, ifF (by simp) ?_⟩
  refine w_test (w_op (w_call (w_ac ⟨.mr 4, rfl, 4, _, rfl, rfl, ?_⟩)))
  show goLcR 4 _ (gN 3) bYes _ (Ev ns (some (.mr 4)) none a4 a5 a6) _ _ _ _
  refine lcR_1 ⟨2, tm 256, .int 256, rfl, rfl, rfl, sz64' (by simp), rfl, ?_⟩
  refine lcR_1 ⟨3, tm 100, .int 100, rfl, rfl, rfl, sz64' (by simp), rfl, ?_⟩
  refine lcR_1 ⟨5, tm 100, .int 100, rfl, rfl, rfl, sz64' (by simp), rfl, ?_⟩
  rw [x_lcR0]
  show aNil _ _ _
  refine w_an ?_
  show fRepr [.d (.list [.int 256, .int 100, .int 100])] _ _
  refine w_shw ok_lim ?_
  refine w_call (w_ac (w_lst (w_ac (w_c (w_ac (w_c (w_ac (w_c (w_an ⟨three_ok, w_an (w_shw ok_lim (w_neS ⟨_, rfl, ifF (by simp) (w_next ?_)⟩))⟩)))))))))
  suffices key : ∀ C, b_law_8 E (Ev ns (some (.mr 4)) none a4 a5 a6) ⟨[c0, c1] ++ C, []⟩ from key _
  intro C
  exact law_8 hD q
def MP (a : Ma) (K : Bk6) : Prop := ∀ (τ : En) (M : Mem) (R : List T → Mem → Prop), R ((K.map kd).map T.d) M → a τ M R
theorem mp_nil : MP aNil [] := fun _ _ _ h => h
theorem mp_cons {x y : Int} {K : Bk6} {a : Ma} (h : MP a K) : MP (aCons (mTup (aCons (mC (.int x)) (aCons (mC (.int y)) aNil))) a) ((x, y) :: K) := fun τ M R q => w_ac (w_tup (w_ac (w_c (w_ac (w_c (w_an ⟨two_ok, h τ M _ q⟩))))))
theorem w_mp {a : Ma} {K : Bk6} {τ : En} {M : Mem} {Q : Kt} (hl : K.length ≤ 100) (h : MP a K) (q : Q (.d (bkD K)) M) : mTup a τ M Q := by
  refine w_tup (h τ M _ ?_)
  rw [datas_ds]
  exact ⟨sz64' (by rw [List.length_map]; omega), q⟩
theorem law_10 {E : Es} {ns : List Int} {c0 c1 : Cell} (hD : Pl.RI [c0, c1]) (q : ∀ M, E.rt (.bl true) M) :
    b_law_10 E (Ev ns (some (.mr 4)) none none none none) ⟨[c0, c1, cA, cB, .lst [.mr 2, .mr 3]], []⟩ := by
  refine w_seq (w_drop (w_meth ⟨.mr 4, rfl, ⟨_, rfl⟩, ?_⟩))
  refine w_ac (w_call (w_ac (w_mp (K := [(1, 1)]) (by decide) (mp_cons mp_nil) (w_ac (w_mt (N := [1000000000000000000000000000000]) (by decide) (mt_pow mt_nil) (w_an ⟨by simp [noL], ?_⟩))))))
  refine sp_refusal gbB gnC fwC ?_
  refine w_an ⟨rfl, sz64' (by simp), ?_⟩
  suffices key : b_law_9 E (Ev ns (some (.mr 4)) none none none none) ⟨[c0, c1, cA, cB, .lst [.mr 2, .mr 3, .mr 5], cB], []⟩ from key
  exact law_9 hD q
theorem law_11 {E : Es} {ns : List Int} {c0 c1 : Cell} (hD : Pl.RI [c0, c1]) (q : ∀ M, E.rt (.bl true) M) :
    b_law_11 E (Ev ns none none none none none) ⟨[c0, c1], []⟩ := by
  refine w_seq (w_set (w_newD ?_))
  refine w_ac (w_call (w_ac (w_mp (K := [(4, 4), (2, 2)]) (by decide) (mp_cons (mp_cons mp_nil)) (w_ac (w_mt (N := [15, 16]) (by decide) (mt_int (mt_int mt_nil)) (w_an ⟨by simp [noL], ?_⟩))))))
  refine sp_refusal gbA gnA fwA ?_
  refine w_ac (w_call (w_ac (w_mp (K := [(1, 1)]) (by decide) (mp_cons mp_nil) (w_ac (w_mt (N := [101]) (by decide) (mt_int mt_nil) (w_an ⟨by simp [noL], ?_⟩))))))
  refine sp_refusal gbB gnB fwB ?_
  refine w_an ⟨⟨by simp [noL], two_ok⟩, ?_⟩
  suffices key : b_law_10 E (Ev ns (some (.mr 4)) none none none none) ⟨[c0, c1, cA, cB, .lst [.mr 2, .mr 3]], []⟩ from key
  exact law_10 hD q
theorem law_12 {E : Es} {ns : List Int} (h : ns.length ≤ 63) (q : ∀ M, E.rt (.bl true) M) : b_law_12 E [some (.scr ns), none, none, none, none, none, none] ⟨[], []⟩ := by
  refine w_seq (w_set (w_call (w_ac ⟨.scr ns, rfl, w_an ⟨by simp, Pl.sp_pool h fun D hD => ?_⟩⟩)))
  suffices key : b_law_11 E (Ev ns none none none none none) ⟨D, []⟩ from key
  obtain ⟨c0, c1, rfl⟩ : ∃ c0 c1, D = [c0, c1] := by
    obtain ⟨gr, mx, tn, rfl, _⟩ := hD.ex
    exact ⟨_, _, rfl⟩
  exact law_11 hD q
theorem law_true (ns : List Int) (h : ns.length ≤ 63) : d_law [.scr ns] [] fun t _ => t = T.bl true := by
  refine ⟨rfl, ?_⟩
  refine law_12 (E := { nx := fun _ M => clo 0 M.D ∧ T.non = T.bl true, rt := fun t M => (∃ x, t = .d x) ∧ clo 0 M.D ∧ t = T.bl true }) h fun M => ?_
  exact ⟨⟨_, rfl⟩, rfl, rfl⟩
end K37
set_option Elab.async false
set_option linter.all false
set_option maxRecDepth 100000
open PySem PySem.W PyProof.Rows
set_option maxHeartbeats 0 in
theorem PySem.Challenge.cw_fallingfields_k37_bounds_of_least_wholes_holds : PySem.Challenge.rw_fallingfields_k37_bounds_of_least_wholes.Holds := by
  w_on; o_law; k_head; (case hw => w_witness2)
  k_fill
  refine L3.walkG (l := PySem.Challenge.rw_fallingfields_k37_bounds_of_least_wholes) (n := 63) (k := 9) (x := "script") (m := K37.d_law) rfl (by decide) rfl ⟨rfl, by decide, by decide⟩ (fun w h Y => PySem.W.kIn_of Y) ?F K37.law_true
  case F =>
    intro w mg fa h KX G hmg
    refine' K37.all_mk KX G hmg ?a0 ?l0 ?c0 ?k0 ?a1 ?l1 ?c1 ?k1 ?a2 ?l2 ?c2 ?k2 ?a3 ?l3 ?c3 ?k3 ?a4 ?l4 ?c4 ?k4 ?a5 ?l5 ?c5 ?k5 ?a6 ?l6 ?c6 ?k6 ?a7 ?l7 ?c7 ?k7 ?a8 ?l8 ?c8 ?k8 ?a9 ?l9 ?c9 ?k9 ?a10 ?l10 ?c10 ?k10 ?a11 ?l11 ?c11 ?k11 ?a12 ?l12 ?c12 ?k12 ?a13 ?l13 ?c13 ?k13 ?a14 ?l14 ?c14 ?k14 ?a15 ?l15 ?c15 ?k15 ?a16 ?l16 ?c16 ?k16 ?a17 ?l17 ?c17 ?k17 ?a18 ?l18 ?c18 ?k18 ?a19 ?l19 ?c19 ?k19 ?a20 ?l20 ?c20 ?k20 ?a21 ?l21 ?c21 ?k21 ?a22 ?l22 ?c22 ?k22 ?a23 ?l23 ?c23 ?k23 ?a24 ?l24 ?c24 ?k24 ?a25 ?l25 ?c25 ?k25 ?a26 ?l26 ?c26 ?k26 ?a27 ?l27 ?c27 ?k27 ?a28 ?l28 ?c28 ?k28 ?a29 ?l29 ?c29 ?k29 ?a30 ?l30 ?c30 ?k30 ?a31 ?l31 ?c31 ?k31 ?a32 ?l32 ?c32 ?k32 ?z_enumerate ?z_max ?z_tuple ?z_sum ?z_min ?z_range ?z_abs ?z_int ?z_len ?z_isinstance ?z_repr ?z_bool ?g_MAX_ROW ?g_MAX_STATES ?xa_TooMany ?xk_TooMany ?xs_TooMany ?xt_TooMany ?xi_TooMany ?xg_TooMany ?xh_TooMany ?xc_TooMany ?xm_TooMany ?xsp ?xtk ?xp_TooMany_TooMany ?xa_FieldsError ?xk_FieldsError ?xs_FieldsError ?xt_FieldsError ?xi_FieldsError ?xg_FieldsError ?xh_FieldsError ?xc_FieldsError ?xm_FieldsError ?xp_TooMany_FieldsError ?xd_TooMany ?xn_TooMany_limit ?yhiC_TooMany ?yhtI_TooMany ?yhlC_TooMany ?yhvb_TooMany ?yhsa_TooMany ?yhlI_TooMany ?yhhcd_TooMany ?yhlD_TooMany ?yhhvs_TooMany ?yhhfile_TooMany ?yhlc_TooMany ?yhmro_TooMany ?yany ?yhsup_TooMany ?yhsb_TooMany ?yhexi_TooMany ?yhfl_TooMany ?ysup ?ytop ?yhT_TooMany ?yhhb_TooMany
    (case a0 => k_is); (case l0 => k_is); (case c0 => k_is); (case k0 => k_is); (case a1 => k_is); (case l1 => k_is); (case c1 => k_is); (case k1 => k_is); (case a2 => k_is); (case l2 => k_is); (case c2 => k_is); (case k2 => k_is); (case a3 => k_is); (case l3 => k_is); (case c3 => k_is); (case k3 => k_is); (case a4 => k_is); (case l4 => k_is); (case c4 => k_is); (case k4 => k_is); (case a5 => k_is); (case l5 => k_is); (case c5 => k_is); (case k5 => k_is); (case a6 => k_is); (case l6 => k_is); (case c6 => k_is); (case k6 => k_is); (case a7 => k_is); (case l7 => k_is); (case c7 => k_is); (case k7 => k_is); (case a8 => k_is); (case l8 => k_is); (case c8 => k_is); (case k8 => k_is); (case a9 => k_is); (case l9 => k_is); (case c9 => k_is); (case k9 => k_is); (case a10 => k_is); (case l10 => k_is); (case c10 => k_is); (case k10 => k_is); (case a11 => k_is); (case l11 => k_is); (case c11 => k_is); (case k11 => k_is); (case a12 => k_is); (case l12 => k_is); (case c12 => k_is); (case k12 => k_is); (case a13 => k_is); (case l13 => k_is); (case c13 => k_is); (case k13 => k_is); (case a14 => k_is); (case l14 => k_is); (case c14 => k_is); (case k14 => k_is); (case a15 => k_is); (case l15 => k_is); (case c15 => k_is); (case k15 => k_is); (case a16 => k_is); (case l16 => k_is); (case c16 => k_is); (case k16 => k_is); (case a17 => k_is); (case l17 => k_is); (case c17 => k_is); (case k17 => k_is); (case a18 => k_is); (case l18 => k_is); (case c18 => k_is); (case k18 => k_is); (case a19 => k_is); (case l19 => k_is); (case c19 => k_is); (case k19 => k_is); (case a20 => k_is); (case l20 => k_is); (case c20 => k_is); (case k20 => k_is); (case a21 => k_is); (case l21 => k_is); (case c21 => k_is); (case k21 => k_is); (case a22 => k_is); (case l22 => k_is); (case c22 => k_is); (case k22 => k_is); (case a23 => k_is); (case l23 => k_is); (case c23 => k_is); (case k23 => k_is); (case a24 => k_is); (case l24 => k_is); (case c24 => k_is); (case k24 => k_is); (case a25 => k_is); (case l25 => k_is); (case c25 => k_is); (case k25 => k_is); (case a26 => k_is); (case l26 => k_is); (case c26 => k_is); (case k26 => k_is); (case a27 => k_is); (case l27 => k_is); (case c27 => k_is); (case k27 => k_is); (case a28 => k_is); (case l28 => k_is); (case c28 => k_is); (case k28 => k_is); (case a29 => k_is); (case l29 => k_is); (case c29 => k_is); (case k29 => k_is); (case a30 => k_is); (case l30 => k_is); (case c30 => k_is); (case k30 => k_is); (case a31 => k_is); (case l31 => k_is); (case c31 => k_is); (case k31 => k_is); (case a32 => k_is); (case l32 => k_is); (case c32 => k_is); (case k32 => k_is); (case z_enumerate => k_is); (case z_max => k_is); (case z_tuple => k_is); (case z_sum => k_is); (case z_min => k_is); (case z_range => k_is); (case z_abs => k_is); (case z_int => k_is); (case z_len => k_is); (case z_isinstance => k_is); (case z_repr => k_is); (case z_bool => k_is); (case g_MAX_ROW => k_is); (case g_MAX_STATES => k_is); (case xa_TooMany => k_is); (case xk_TooMany => k_is); (case xs_TooMany => k_is); (case xt_TooMany => k_is); (case xi_TooMany => k_is); (case xg_TooMany => k_is); (case xh_TooMany => k_is); (case xc_TooMany => k_is); (case xm_TooMany => k_is); (case xsp => k_is); (case xtk => k_is); (case xp_TooMany_TooMany => (first | rfl | k_is)); (case xa_FieldsError => k_is); (case xk_FieldsError => k_is); (case xs_FieldsError => k_is); (case xt_FieldsError => k_is); (case xi_FieldsError => k_is); (case xg_FieldsError => k_is); (case xh_FieldsError => k_is); (case xc_FieldsError => k_is); (case xm_FieldsError => k_is); (case xp_TooMany_FieldsError => (first | rfl | k_is)); (case xd_TooMany => k_is); (case xn_TooMany_limit => k_is); (case yhiC_TooMany => k_is); (case yhtI_TooMany => k_is); (case yhlC_TooMany => k_is); (case yhvb_TooMany => (first | rfl | decide +kernel)); (case yhsa_TooMany => k_is); (case yhlI_TooMany => k_is); (case yhhcd_TooMany => k_is); (case yhlD_TooMany => k_is); (case yhhvs_TooMany => rfl); (case yhhfile_TooMany => (first | rfl | decide +kernel)); (case yhlc_TooMany => k_is); (case yhmro_TooMany => k_is); (case yany => k_is); (case yhsup_TooMany => ks_is); (case yhsb_TooMany => k_is); (case yhexi_TooMany => kx_is); (case yhfl_TooMany => k_is); (case ysup => k_is); (case ytop => (first | rfl | decide +kernel)); (case yhT_TooMany => exact ⟨⟨_, rfl, rfl⟩, by decide, rfl, rfl, rfl, rfl, by decide, rfl, rfl, rfl, rfl, rfl, fun _ => rfl, fun _ => ⟨_, rfl⟩, fun _ => rfl, fun _ => rfl⟩); (case yhhb_TooMany => exact L2.Binds.all fun us hl => match us, hl with | [_, _], _ => rfl)
