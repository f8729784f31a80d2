import PyProof.Rows.All
import Wide.All
import OpenK.AllK
import Wide.FinOn
import HandS.ForMost
import HandS.Wide
import HandS.Walk
import PyProof.ReprRoads
import KE.KeyNested
import HandS.TupAny
import HandS.TupMul
import HandS.SetFor
import KE.GoesNew
import KE.GoesMore
import KE.BitLaws
import HandS.More
import HandS.Conv
import HandS.Text
import HandS.FStr
import HandS.IsInst
import HandS.Deep
import HandS.Strs
import HandS.SortOrd
import HandS.SortRule
import HandS.TupSets
import HandS.Style
import HandS.Exc
import HandS.ExcOwn
import HandS.TryOnly
import HandS.WordsExc
import HandS.ExcField
import KE.KExcIs
import PyProof.DictRoadsH
import PyProof.Rows.TupDisplay
import HandS.Dict
import KE.KDictPairs
import KE.DatumOrd
import PySem.Challenge.RW_fallingfields_k36_whole_least_rows_judge
set_option Elab.async false
set_option linter.all false
set_option maxRecDepth 100000
/-! L3: what the defs do, told over plain trees. -/
namespace L3
open PySem PySem.Spec L2

/-! ### values told as trees; lists that change by their numbers -/
/-- an exception: its class by its name, the one field that it has -/
structure Exn where
  cls : Str
  arg : Option (Str × PyData) := none
inductive T where
  | d (x : PyData)
  | mr (i : Nat)
  | lr (i : Nat)
  | scr (ns : List Int)
  | wt (xs : List PyData)
  | exo (a : Addr) (cls : Value) (d : Option Addr) (e : Exn)
abbrev T.int (i : Int) : T := .d (.int i)
abbrev T.bl (b : Bool) : T := .d (.bool b)
abbrev T.non : T := .d .none
abbrev T.str (x : Str) : T := .d (.str x)
abbrev T.lst (x : List PyData) : T := .d (.list x)
abbrev T.tup (x : List PyData) : T := .d (.tuple x)
inductive Cell where
  | lst (ts : List T)
  | dct (kvs : List (Key × T))
  | dnk (kvs : List (NestedKey × T))
structure Mem where
  D : List Cell
  L : List (Option (List PyData))

/-- a tuple that is known to have no names of its own -/
def TupC (K : PySem.W.Frag) (G : Hp) (a : Addr) (xs : List V) : Prop := (∃ o : Obj, G a = some (.frz o (.tup xs)) ∧ o.dict = none) ∨
  ∃ o its n, List.lookup a K = some o ∧ o.cls = Value.type "tuple" ∧ o.dict = none ∧ o.data = Data.seq its n ∧ its.size ≤ sizeLine ∧ Vals xs its.toList
theorem TupC.t {K : PySem.W.Frag} {G : Hp} {a : Addr} {xs : List V} : TupC K G a xs → SqT K G a xs
  | .inl ⟨o, e, _⟩ => .inl (.inr ⟨o, e⟩)
  | .inr ⟨o, its, n, h1, h2, _, h3, h4, h5⟩ => .inr ⟨o, its, n, h1, h2, h3, h4, h5⟩
theorem TupC.mono {K : PySem.W.Frag} {G G' : Hp} (g : ∀ a o, G a = some o → G' a = some o) {a : Addr} {xs : List V} : TupC K G a xs → TupC K G' a xs
  | .inl ⟨o, e, h⟩ => .inl ⟨o, g _ _ e, h⟩
  | .inr h => .inr h

mutual
inductive Rp (K : PySem.W.Frag) (G : Hp) : V → PyData → Prop
  | non : Rp K G .non .none
  | bl (b : Bool) : Rp K G (.bl b) (.bool b)
  | int (i : Int) : Rp K G (.int i) (.int i)
  | str (x : Str) : Rp K G (.str x) (.str x)
  | lst {a : Addr} {xs : List V} {ds : List PyData} : G a = some (.lst xs) → RpA K G xs ds → Rp K G (.ref a) (.list ds)
  | tup {a : Addr} {xs : List V} {ds : List PyData} : TupC K G a xs → RpA K G xs ds → Rp K G (.ref a) (.tuple ds)
inductive RpA (K : PySem.W.Frag) (G : Hp) : List V → List PyData → Prop
  | nil : RpA K G [] []
  | cons {v : V} {vs : List V} {d : PyData} {ds : List PyData} : Rp K G v d → RpA K G vs ds → RpA K G (v :: vs) (d :: ds)
end

/-- what stands frozen, the deck's addresses, the frame's own -/
structure Bk where
  G : Hp
  r : List Addr
  l : List Addr

/-- what an exception's own dict d holds -/
def ExR (K : PySem.W.Frag) (G : Hp) (d : Option Addr) (e : Exn) : Prop := match e.arg with
  | none => d = none
  | some (f, x) => ∃ dd v, d = some dd ∧ G dd = some (.xd [(f, v)]) ∧ Rp K G v x
mutual
/-- a key that no text is in, not too deep: its hash is the same in each world -/
def okKey : Nat → NestedKey → Bool
  | _, .none => true
  | _, .num _ => true
  | _, .text _ => false
  | 0, .tup _ => false
  | n + 1, .tup ks => okKeys n ks
def okKeys : Nat → List NestedKey → Bool
  | _, [] => true
  | n, k :: ks => okKey n k && okKeys n ks
end
/-- a dict at a with the keys, the keys' own addresses, the values of es -/
def DNok (a : Addr) (es : List (NestedKey × Addr × V)) (h : Heap) : Prop := es.length ≤ sizeLine ∧ (a == sysModules) = false ∧ (es.map (·.1)).Nodup ∧
  ∃ (w : World) (xs : List (NestedKey × Addr × Value)), Paired (fun (p : NestedKey × Addr × V) (q : NestedKey × Addr × Value) => p.1 = q.1 ∧ p.2.1 = q.2.1 ∧ RelV p.2.2 q.2.2) es xs ∧
    ∃ o ds ep, h.get? a = some o ∧ o.ExactDict ∧ o.data = .dict ds ep ∧ ds.toList = xs.map fun x => (⟨x.1.hash w, .ref x.2.1, x.2.2⟩ : DictEntry)
def Rt (K : PySem.W.Frag) (B : Bk) : V → T → Prop
  | v, .d x => Rp K B.G v x
  | v, .mr i => ∃ a, v = .ref a ∧ B.r[i]? = some a
  | v, .lr i => ∃ a, v = .ref a ∧ B.l[i]? = some a
  | v, .scr ns => ∃ a, v = .ref a ∧ SqL K B.G a (ns.map V.int)
  | v, .wt ds => ∃ a xs, v = .ref a ∧ SqT K B.G a xs ∧ RpA K B.G xs ds
  | v, .exo a _ d e => v = .ref a ∧ ExR K B.G d e

def CellAt (K : PySem.W.Frag) (B : Bk) (H : Hp) (a : Addr) : Cell → Prop
  | .lst ts => ∃ xs, H a = some (.lst xs) ∧ Paired (Rt K { B with l := [] }) xs ts
  | .dct kvs => ∃ vs, H a = some (.dK vs) ∧ Paired (fun (p : Key × V) (q : Key × T) => p.1 = q.1 ∧ Rt K { B with l := [] } p.2 q.2) vs kvs
  | .dnk kvs => ∃ es, H a = some (.ext (DNok a es)) ∧ Paired (fun (p : NestedKey × Addr × V) (q : NestedKey × T) => p.1 = q.1 ∧ okKey 8 q.1 = true ∧ Rp K B.G (.ref p.2.1) q.1.data ∧ Rt K { B with l := [] } p.2.2 q.2) es kvs

/-- the world: the heap H holds the memory M by the book B -/
structure Wd (K : PySem.W.Frag) (B : Bk) (M : Mem) (H : Hp) : Prop where
  le : ∀ a o, B.G a = some o → H a = some o
  rlen : B.r.length = M.D.length
  llen : B.l.length = M.L.length
  nd : (B.r ++ B.l).Nodup
  dc : ∀ (i : Nat) (a : Addr) (c : Cell), B.r[i]? = some a → M.D[i]? = some c → B.G a = none ∧ CellAt K B H a c
  lc : ∀ (i : Nat) (a : Addr) (ds : List PyData), B.l[i]? = some a → M.L[i]? = some (some ds) → B.G a = none ∧ ∃ xs, H a = some (.lst xs) ∧ RpA K B.G xs ds
  tr : ∀ a, a ∈ B.r ++ B.l → H a ≠ none

structure Ext (B : Bk) (H : Hp) (B' : Bk) (H' : Hp) : Prop where
  g : ∀ a o, B.G a = some o → B'.G a = some o
  r : B.r <+: B'.r
  l : B.l <+: B'.l
  fr : ∀ a o, H a = some o → a ∉ B.r → a ∉ B.l → H' a = some o
  tr : ∀ a, H' a = none → H a = none
  rn : ∀ a, a ∈ B'.r → a ∈ B.r ∨ H a = none
  ln : ∀ a, a ∈ B'.l → a ∈ B.l ∨ H a = none
  gf : ∀ a o, B'.G a = some o → B.G a = some o ∨ H a = none ∨ a ∈ B.l

theorem Ext.refl (B : Bk) (H : Hp) : Ext B H B H :=
  ⟨fun _ _ e => e, List.prefix_refl _, List.prefix_refl _, fun _ _ e _ _ => e, fun _ e => e, fun _ e => .inl e, fun _ e => .inl e, fun _ _ e => .inl e⟩
theorem Ext.trans {B B1 B2 : Bk} {H H1 H2 : Hp} (x : Ext B H B1 H1) (y : Ext B1 H1 B2 H2) : Ext B H B2 H2 where
  g a o e := y.g a o (x.g a o e)
  r := x.r.trans y.r
  l := x.l.trans y.l
  fr a o e nr nl := by
    refine y.fr a o (x.fr a o e nr nl) (fun z => ?_) (fun z => ?_)
    · rcases x.rn a z with q | q
      · exact nr q
      · rw [e] at q; cases q
    · rcases x.ln a z with q | q
      · exact nl q
      · rw [e] at q; cases q
  tr a e := x.tr a (y.tr a e)
  rn a e := by
    rcases y.rn a e with q | q
    · exact x.rn a q
    · exact .inr (x.tr a q)
  ln a e := by
    rcases y.ln a e with q | q
    · exact x.ln a q
    · exact .inr (x.tr a q)
  gf a o e := by
    rcases y.gf a o e with q | q | q
    · exact x.gf a o q
    · exact .inr (.inl (x.tr a q))
    · rcases x.ln a q with z | z
      · exact .inr (.inr z)
      · exact .inr (.inl z)

mutual
theorem Rp.mono {K : PySem.W.Frag} {G G' : Hp} (g : ∀ a o, G a = some o → G' a = some o) : ∀ {v : V} {x : PyData}, Rp K G v x → Rp K G' v x
  | _, _, .non => .non
  | _, _, .bl b => .bl b
  | _, _, .int i => .int i
  | _, _, .str x => .str x
  | _, _, .lst e q => .lst (g _ _ e) (RpA.mono g q)
  | _, _, .tup e q => .tup (e.mono g) (RpA.mono g q)
theorem RpA.mono {K : PySem.W.Frag} {G G' : Hp} (g : ∀ a o, G a = some o → G' a = some o) : ∀ {v : List V} {x : List PyData}, RpA K G v x → RpA K G' v x
  | _, _, .nil => .nil
  | _, _, .cons p q => .cons (Rp.mono g p) (RpA.mono g q)
end
theorem SqL.mono {K : PySem.W.Frag} {G G' : Hp} (g : ∀ a o, G a = some o → G' a = some o) {a : Addr} {xs : List V} (e : SqL K G a xs) : SqL K G' a xs := by
  rcases e with e | e
  · rcases e with e | ⟨o, e⟩
    · exact .inl (.inl (g _ _ e))
    · exact .inl (.inr ⟨o, g _ _ e⟩)
  · exact .inr e
theorem SqT.mono0 {K : PySem.W.Frag} {G G' : Hp} (g : ∀ a o, G a = some o → G' a = some o) {a : Addr} {xs : List V} (e : SqT K G a xs) : SqT K G' a xs := by
  rcases e with e | e
  · rcases e with e | ⟨o, e⟩
    · exact .inl (.inl (g _ _ e))
    · exact .inl (.inr ⟨o, g _ _ e⟩)
  · exact .inr e
/-- what a clean tuple is in a greater heap -/
theorem SqT.mono {K : PySem.W.Frag} {G G' : Hp} (g : ∀ a o, G a = some o → G' a = some o) {a : Addr} {xs : List V} (e : TupC K G a xs) : SqT K G' a xs := (e.mono g).t
theorem get_prefix {α : Type} {a b : List α} (p : a <+: b) {i : Nat} {x : α} (e : a[i]? = some x) : b[i]? = some x := by
  obtain ⟨c, rfl⟩ := p
  rw [List.getElem?_append_left (by
    rcases Nat.lt_or_ge i a.length with q | q
    · exact q
    · rw [List.getElem?_eq_none q] at e; cases e)]
  exact e
theorem ExR.mono {K : PySem.W.Frag} {G G' : Hp} (g : ∀ a o, G a = some o → G' a = some o) {d : Option Addr} {e : Exn} (h : ExR K G d e) : ExR K G' d e := by
  unfold ExR at h ⊢
  split at h
  · exact h
  · obtain ⟨dd, v, h1, h2, h3⟩ := h
    exact ⟨dd, v, h1, g _ _ h2, Rp.mono g h3⟩
theorem Rt.mono' {K : PySem.W.Frag} {B B' : Bk} (g : ∀ a o, B.G a = some o → B'.G a = some o) (r : B.r <+: B'.r) (l : B.l <+: B'.l) {v : V} {t : T} (h : Rt K B v t) : Rt K B' v t := by
  cases t with
  | d x => exact Rp.mono g h
  | mr i => obtain ⟨a, e, q⟩ := h; exact ⟨a, e, get_prefix r q⟩
  | lr i => obtain ⟨a, e, q⟩ := h; exact ⟨a, e, get_prefix l q⟩
  | scr ns => obtain ⟨a, e, q⟩ := h; exact ⟨a, e, SqL.mono g q⟩
  | wt xs => obtain ⟨a, vs, e, q, r⟩ := h; exact ⟨a, vs, e, SqT.mono0 g q, RpA.mono g r⟩
  | exo a c d e => exact ⟨h.1, h.2.mono g⟩
theorem Rt.mono {K : PySem.W.Frag} {B B' : Bk} {H H' : Hp} (x : Ext B H B' H') {v : V} {t : T} (h : Rt K B v t) : Rt K B' v t := Rt.mono' x.g x.r x.l h
theorem Paired.imp {α β : Type} {F F' : α → β → Prop} (f : ∀ a b, F a b → F' a b) : ∀ {l : List α} {m : List β}, Paired F l m → Paired F' l m
  | _, _, .nil => .nil
  | _, _, .cons h q => .cons (f _ _ h) (Paired.imp f q)
theorem Rts.mono {K : PySem.W.Frag} {B B' : Bk} {H H' : Hp} (x : Ext B H B' H') {v : List V} {t : List T} (h : Paired (Rt K B) v t) : Paired (Rt K B') v t := Paired.imp (fun _ _ q => Rt.mono x q) h

/-! ### slots -/
abbrev En := List (Option T)
structure Sl (K : PySem.W.Frag) (B : Bk) (σ : St) (τ : En) : Prop where
  len : σ.length = τ.length
  at_ : ∀ (i : Nat) (t : T), τ[i]? = some (some t) → ∃ v, σ[i]? = some (some v) ∧ Rt K B v t
theorem Sl.mono {K : PySem.W.Frag} {B B' : Bk} {H H' : Hp} (x : Ext B H B' H') {σ : St} {τ : En} (s : Sl K B σ τ) : Sl K B' σ τ :=
  ⟨s.len, fun i t e => let ⟨v, h, q⟩ := s.at_ i t e; ⟨v, h, Rt.mono x q⟩⟩
theorem Sl.set {K : PySem.W.Frag} {B : Bk} {σ : St} {τ : En} (s : Sl K B σ τ) (i : Nat) {v : V} {t : T} (q : Rt K B v t) : Sl K B (σ.set i (some v)) (τ.set i (some t)) := by
  refine ⟨by rw [List.length_set, List.length_set, s.len], fun j u e => ?_⟩
  by_cases h : i = j
  · subst h
    rcases Nat.lt_or_ge i τ.length with z | z
    · rw [List.getElem?_set_self z] at e
      cases e
      exact ⟨v, by rw [List.getElem?_set_self (by rw [s.len]; exact z)], q⟩
    · rw [List.getElem?_eq_none (by rw [List.length_set]; exact z)] at e
      cases e
  · rw [List.getElem?_set_ne h] at e
    obtain ⟨w, h1, h2⟩ := s.at_ j u e
    exact ⟨w, by rw [List.getElem?_set_ne h]; exact h1, h2⟩
theorem Sl.clr {K : PySem.W.Frag} {B : Bk} {σ : St} {τ : En} (s : Sl K B σ τ) (i : Nat) : Sl K B (σ.set i none) (τ.set i none) := by
  refine ⟨by rw [List.length_set, List.length_set, s.len], fun j u e => ?_⟩
  by_cases h : i = j
  · subst h
    rcases Nat.lt_or_ge i τ.length with z | z
    · rw [List.getElem?_set_self z] at e
      cases e
    · rw [List.getElem?_eq_none (by rw [List.length_set]; exact z)] at e
      cases e
  · rw [List.getElem?_set_ne h] at e
    obtain ⟨w, h1, h2⟩ := s.at_ j u e
    exact ⟨w, by rw [List.getElem?_set_ne h]; exact h1, h2⟩
def wipeT (τ : En) : List Nat → En
  | [] => τ
  | v :: vs => (wipeT τ vs).set v none
theorem Sl.wipe {K : PySem.W.Frag} {B : Bk} {σ : St} {τ : En} (s : Sl K B σ τ) : ∀ vs : List Nat, Sl K B (L2.wipe σ vs) (wipeT τ vs)
  | [] => s
  | v :: vs => (Sl.wipe s vs).clr v

/-! ### readings over trees -/
abbrev Kt := T → Mem → Prop
abbrev Me := En → Mem → Kt → Prop
abbrev Mb := En → Mem → (Bool → Mem → Prop) → Prop
abbrev Ma := En → Mem → (List T → Mem → Prop) → Prop
structure Es where
  nx : En → Mem → Prop
  rt : Kt
  bk : En → Mem → Prop := fun _ _ => False
  ct : En → Mem → Prop := fun _ _ => False
abbrev Ms := Es → En → Mem → Prop
abbrev Mg := T → En → Mem → (En → Mem → Prop) → Prop

def rE (K : PySem.W.Frag) (m : Me) : TE := fun σ H Q' => ∃ τ M B Q, m τ M Q ∧ Wd K B M H ∧ Sl K B σ τ ∧ ∀ v t M' B' H', Q t M' → Wd K B' M' H' → Ext B H B' H' → Rt K B' v t → Q' v H'
def rB (K : PySem.W.Frag) (m : Mb) : TT := fun σ H Q' => ∃ τ M B Q, m τ M Q ∧ Wd K B M H ∧ Sl K B σ τ ∧ ∀ b M' B' H', Q b M' → Wd K B' M' H' → Ext B H B' H' → Q' b H'
def rA (K : PySem.W.Frag) (m : Ma) : TA := fun σ H Q' => ∃ τ M B Q, m τ M Q ∧ Wd K B M H ∧ Sl K B σ τ ∧ ∀ v t M' B' H', Q t M' → Wd K B' M' H' → Ext B H B' H' → Paired (Rt K B') v t → Q' v H'
/-- what is wanted behind a statement, told over trees -/
structure Go (K : PySem.W.Frag) (E : Es) (D : Ends) (B : Bk) (H : Hp) : Prop where
  nx : ∀ τ' M' B' σ' H', E.nx τ' M' → Wd K B' M' H' → Ext B H B' H' → Sl K B' σ' τ' → D.nx σ' H'
  rt : ∀ v t M' B' H', E.rt t M' → Wd K B' M' H' → Ext B H B' H' → Rt K B' v t → D.rt v H'
  bk : ∀ τ' M' B' σ' H', E.bk τ' M' → Wd K B' M' H' → Ext B H B' H' → Sl K B' σ' τ' → D.bk σ' H'
  ct : ∀ τ' M' B' σ' H', E.ct τ' M' → Wd K B' M' H' → Ext B H B' H' → Sl K B' σ' τ' → D.ct σ' H'
theorem Go.ext {K : PySem.W.Frag} {E : Es} {D : Ends} {B B1 : Bk} {H H1 : Hp} (x : Ext B H B1 H1) (g : Go K E D B H) : Go K E D B1 H1 :=
  ⟨fun t m b s h q w e => g.nx t m b s h q w (x.trans e), fun v t m b h q w e => g.rt v t m b h q w (x.trans e), fun t m b s h q w e => g.bk t m b s h q w (x.trans e), fun t m b s h q w e => g.ct t m b s h q w (x.trans e)⟩
def rS (K : PySem.W.Frag) (m : Ms) : TS := fun D σ H => ∃ E : Es, ∃ τ M B, m E τ M ∧ Wd K B M H ∧ Sl K B σ τ ∧ Go K E D B H
/-- alike but for the slots os -/
structure Ag (os : List Nat) (σ σ' : St) : Prop where
  len : σ'.length = σ.length
  at_ : ∀ j : Nat, j ∉ os → σ'[j]? = σ[j]?
theorem Ag.trans {o o' : List Nat} {a b c : St} (x : Ag o a b) (y : Ag o' b c) : Ag (o ++ o') a c :=
  ⟨y.len.trans x.len, fun j n => (y.at_ j fun z => n (List.mem_append_right _ z)).trans (x.at_ j fun z => n (List.mem_append_left _ z))⟩
theorem wipe_at (σ : St) (j : Nat) : ∀ vs : List Nat, (L2.wipe σ vs)[j]? = if j ∈ vs then (if j < σ.length then some none else none) else σ[j]?
  | [] => by simp [L2.wipe]
  | v :: vs => by
    unfold L2.wipe
    by_cases h : v = j
    · subst h
      rw [if_pos (by simp)]
      by_cases q : v < σ.length
      · rw [List.getElem?_set_self (by rw [wipe_length]; exact q), if_pos q]
      · rw [List.getElem?_eq_none (by rw [List.length_set, wipe_length]; omega), if_neg q]
    · rw [List.getElem?_set_ne h, wipe_at σ j vs]
      by_cases q : j ∈ vs
      · rw [if_pos q, if_pos (List.mem_cons_of_mem _ q)]
      · rw [if_neg q, if_neg]
        intro z
        rcases List.mem_cons.mp z with z | z
        · exact h z.symm
        · exact q z
theorem Ag.wipe {os vs : List Nat} {σ σ' : St} (sub : ∀ j ∈ os, j ∈ vs) (x : Ag os (L2.wipe σ vs) σ') : L2.wipe σ' vs = L2.wipe σ vs := by
  apply List.ext_getElem?
  intro j
  have hl : σ'.length = σ.length := x.len.trans (wipe_length σ vs)
  rw [wipe_at, wipe_at, hl]
  by_cases h : j ∈ vs
  · rw [if_pos h, if_pos h]
  · rw [if_neg h, if_neg h, x.at_ j fun z => h (sub j z), wipe_at, if_neg h]
def rG (K : PySem.W.Frag) (os : List Nat) (m : Mg) : TG := fun v σ H Q' => ∃ t τ M B Q, m t τ M Q ∧ Wd K B M H ∧ Sl K B σ τ ∧ Rt K B v t ∧ ∀ τ' M' B' σ' H', Q τ' M' → Wd K B' M' H' → Ext B H B' H' → Sl K B' σ' τ' → Ag os σ σ' → Q' σ' H'

abbrev ME (X : Cx) (e : Expr) (m : Me) : Prop := PE X e (rE X.K m)
abbrev MB (X : Cx) (e : Expr) (m : Mb) : Prop := PT X e (rB X.K m)
abbrev MA (X : Cx) (e : List Expr) (m : Ma) : Prop := PA X e (rA X.K m)
abbrev MS (X : Cx) (e : Stmt) (m : Ms) : Prop := PS X e (rS X.K m)
abbrev MSs (X : Cx) (e : List Stmt) (m : Ms) : Prop := PSs X e (rS X.K m)
abbrev MG (X : Cx) (e : Expr) (os : List Nat) (m : Mg) : Prop := PG X e (rG X.K os m)

theorem PE.of {X : Cx} {e : Expr} {t t' : TE} (h : PE X e t) (w : ∀ σ H Q, t' σ H Q → t σ H Q) : PE X e t' := ⟨fun _ _ _ _ _ iv q => h.run _ _ _ _ _ iv (w _ _ _ q)⟩
theorem PT.of {X : Cx} {e : Expr} {t t' : TT} (h : PT X e t) (w : ∀ σ H Q, t' σ H Q → t σ H Q) : PT X e t' := ⟨fun _ _ _ _ _ iv q => h.run _ _ _ _ _ iv (w _ _ _ q)⟩
theorem PW.of {X : Cx} {e : Expr} {t t' : TT} (h : PW X e t) (w : ∀ σ H Q, t' σ H Q → t σ H Q) : PW X e t' := ⟨fun _ _ _ _ _ _ iv q => h.run _ _ _ _ _ _ iv (w _ _ _ q)⟩
theorem PA.of {X : Cx} {e : List Expr} {t t' : TA} (h : PA X e t) (w : ∀ σ H Q, t' σ H Q → t σ H Q) : PA X e t' := ⟨fun _ _ _ _ _ _ iv q => h.run _ _ _ _ _ _ iv (w _ _ _ q)⟩
theorem PS.of {X : Cx} {e : Stmt} {t t' : TS} (h : PS X e t) (w : ∀ D σ H, t' D σ H → t D σ H) : PS X e t' := ⟨fun _ _ _ _ _ iv q => h.run _ _ _ _ _ iv (w _ _ _ q)⟩
theorem PSs.of {X : Cx} {e : List Stmt} {t t' : TS} (h : PSs X e t) (w : ∀ D σ H, t' D σ H → t D σ H) : PSs X e t' := ⟨fun _ _ _ _ _ iv q => h.run _ _ _ _ _ iv (w _ _ _ q)⟩
theorem PG.of {X : Cx} {e : Expr} {t t' : TG} (h : PG X e t) (w : ∀ v σ H Q, t' v σ H Q → t v σ H Q) : PG X e t' := ⟨fun _ _ _ _ _ _ _ iv rv q => h.run _ _ _ _ _ _ _ iv rv (w _ _ _ _ q)⟩

section
variable {X : Cx} {a b c e : Expr} {es : List Expr} {ma mb mc m : Me} {pos : Pos}

/-! ### names, constants -/
def mVar (i : Nat) : Me := fun τ M Q => ∃ t, τ[i]? = some (some t) ∧ Q t M
def mC (x : PyData) : Me := fun _ M Q => Q (.d x) M
theorem me_var {i : Nat} {x : Str} (h : PE X (.Name x pos) (tVar i)) : ME X (.Name x pos) (mVar i) := PE.of h fun σ H Q' ⟨τ, M, B, Q, ⟨t, ht, q⟩, w, s, k⟩ => by
  obtain ⟨v, hv, r⟩ := s.at_ i t ht
  exact ⟨v, hv, k v t M B H q w (.refl _ _) r⟩
theorem me_const {v : V} {x : PyData} (h : PE X e (tC v)) (hr : ∀ G, Rp X.K G v x) : ME X e (mC x) := PE.of h fun σ H Q' ⟨τ, M, B, Q, q, w, s, k⟩ => k v (.d x) M B H q w (.refl _ _) (hr _)
theorem me_int {i : Int} {j : Nat} : ME X (.Constant (.int i) j pos) (mC (.int i)) := me_const pe_int fun _ => .int i
theorem me_bl {i : Bool} {j : Nat} : ME X (.Constant (.bool i) j pos) (mC (.bool i)) := me_const pe_bl fun _ => .bl i
theorem me_non {j : Nat} : ME X (.Constant .none j pos) (mC .none) := me_const pe_non fun _ => .non
theorem me_str {i : Str} {j : Nat} : ME X (.Constant (.str i) j pos) (mC (.str i)) := me_const pe_str fun _ => .str i

/-! ### operators -/
abbrev F2 := T → T → Mem → Kt → Prop
/-- an operation by values is told by f -/
def OpL (K : PySem.W.Frag) (r : R2) (f : F2) : Prop := ∀ x y t u M B H Q Q', f t u M Q → Wd K B M H → Rt K B x t → Rt K B y u →
  (∀ v t' M' B' H', Q t' M' → Wd K B' M' H' → Ext B H B' H' → Rt K B' v t' → Q' v H') → r x y H Q'
def mOp (f : F2) (ma mb : Me) : Me := fun τ M Q => ma τ M fun x M1 => mb τ M1 fun y M2 => f x y M2 Q
theorem two {K : PySem.W.Frag} {r : R2} {f : F2} (ho : OpL K r f) {σ : St} {H : Hp} {Q' : VK} (h : rE K (mOp f ma mb) σ H Q') : tOp r (rE K ma) (rE K mb) σ H Q' := by
  obtain ⟨τ, M, B, Q, h, w, s, k⟩ := h
  refine ⟨τ, M, B, _, h, w, s, fun x t M1 B1 H1 h1 w1 e1 r1 => ⟨τ, M1, B1, _, h1, w1, s.mono e1, fun y u M2 B2 H2 h2 w2 e2 r2 => ?_⟩⟩
  exact ho x y t u M2 B2 H2 Q Q' h2 w2 (Rt.mono e2 r1) r2 fun v t' M' B' H' q w' e' r' => k v t' M' B' H' q w' (e1.trans (e2.trans e')) r'
theorem me_op {op : Operator} {r : R2} {f : F2} (ho : OpR X (binaryOp op) r) (hl : OpL X.K r f) (ha : ME X a ma) (hb : ME X b mb) : ME X (.BinOp a op b pos) (mOp f ma mb) := PE.of (pe_op ho ha hb) fun _ _ _ h => two hl h
theorem me_cmp {op : CmpOp} {r : R2} {f : F2} (ho : OpR X (compareOp op) r) (hl : OpL X.K r f) (ha : ME X a ma) (hb : ME X b mb) (hm : behindInMarks op b = false) : ME X (.Compare a [op] [b] pos) (mOp f ma mb) := PE.of (pe_cmpR ho ha hb hm) fun _ _ _ h => two hl h
/-- a value as a test -/
def mTest (m : Me) : Mb := fun τ M Q => m τ M fun x M1 => ∃ k, x = .d (.bool k) ∧ Q k M1
theorem mb_cmp {op : CmpOp} {r : R2} {f : F2} (ho : OpR X (compareOp op) r) (hl : OpL X.K r f) (ha : ME X a ma) (hb : ME X b mb) (hm : behindInMarks op b = false) : MB X (.Compare a [op] [b] pos) (mTest (mOp f ma mb)) := by
  refine PT.of (pt_cmpR ho ha hb hm) fun σ H Q' ⟨τ, M, B, Q, h, w, s, k⟩ => ?_
  refine two hl ⟨τ, M, B, _, h, w, s, fun v t M' B' H' ⟨k2, e, q⟩ w' e' r' => ?_⟩
  subst e
  cases r'
  exact ⟨k2, rfl, k k2 M' B' H' q w' e'⟩
end
end L3

set_option Elab.async false
set_option linter.all false
set_option maxRecDepth 100000
namespace L3
open PySem PySem.Spec L2

/-! ### the world changes -/
section
variable {K : PySem.W.Frag} {B : Bk} {M : Mem} {H : Hp}
mutual
theorem Rp.dp {G : Hp} : ∀ {v : V} {x : PyData}, Rp K G v x → Dp K G v x
  | _, _, .non => .non
  | _, _, .bl b => .bl b
  | _, _, .int i => .int i
  | _, _, .str x => .str x
  | _, _, .lst e q => .lst (.inl (.inl e)) (RpA.dp q)
  | _, _, .tup e q => .tup e.t (RpA.dp q)
theorem RpA.dp {G : Hp} : ∀ {v : List V} {x : List PyData}, RpA K G v x → DpAll K G v x
  | _, _, .nil => .nil
  | _, _, .cons p q => .cons (Rp.dp p) (RpA.dp q)
end
theorem Wd.rp (w : Wd K B M H) {v : V} {x : PyData} (h : Rp K B.G v x) : Rp K H v x := Rp.mono w.le h
theorem Wd.rpa (w : Wd K B M H) {v : List V} {x : List PyData} (h : RpA K B.G v x) : RpA K H v x := RpA.mono w.le h
theorem RpA.length {G : Hp} : ∀ {v : List V} {x : List PyData}, RpA K G v x → v.length = x.length
  | _, _, .nil => rfl
  | _, _, .cons _ q => by rw [List.length_cons, List.length_cons, RpA.length q]
theorem RpA.append {G : Hp} : ∀ {v w : List V} {x y : List PyData}, RpA K G v x → RpA K G w y → RpA K G (v ++ w) (x ++ y)
  | _, _, _, _, .nil, q => q
  | _, _, _, _, .cons p q, r => .cons p (RpA.append q r)
theorem RpA.get {G : Hp} : ∀ {v : List V} {x : List PyData} {i : Nat} {d : PyData}, RpA K G v x → x[i]? = some d → ∃ u, v[i]? = some u ∧ Rp K G u d
  | _, _, _, _, .nil, e => by simp at e
  | _, _, 0, _, .cons p _, e => by simp at e; subst e; exact ⟨_, rfl, p⟩
  | _, _, i + 1, _, .cons _ q, e => by
    obtain ⟨u, h1, h2⟩ := RpA.get (i := i) q (by simpa using e)
    exact ⟨u, by simpa using h1, h2⟩
theorem RpA.set {G : Hp} {u : V} {d : PyData} (r : Rp K G u d) : ∀ {v : List V} {x : List PyData} (i : Nat), RpA K G v x → RpA K G (v.set i u) (x.set i d)
  | _, _, _, .nil => .nil
  | _, _, 0, .cons _ q => .cons r q
  | _, _, i + 1, .cons p q => .cons p (RpA.set r i q)
theorem RpA.take {G : Hp} : ∀ {v : List V} {x : List PyData} (n : Nat), RpA K G v x → RpA K G (v.take n) (x.take n)
  | _, _, 0, _ => .nil
  | _, _, _ + 1, .nil => .nil
  | _, _, n + 1, .cons p q => .cons p (RpA.take n q)
theorem RpA.drop {G : Hp} : ∀ {v : List V} {x : List PyData} (n : Nat), RpA K G v x → RpA K G (v.drop n) (x.drop n)
  | _, _, 0, r => r
  | _, _, _ + 1, .nil => .nil
  | _, _, n + 1, .cons _ q => RpA.drop n q
theorem RpA.eraseIdx {G : Hp} : ∀ {v : List V} {x : List PyData} (n : Nat), RpA K G v x → RpA K G (v.eraseIdx n) (x.eraseIdx n)
  | _, _, _, .nil => .nil
  | _, _, 0, .cons _ q => q
  | _, _, n + 1, .cons p q => .cons p (RpA.eraseIdx n q)
theorem RpA.dropLast {G : Hp} {v : List V} {x : List PyData} (h : RpA K G v x) : RpA K G v.dropLast x.dropLast := by
  rw [List.dropLast_eq_take, List.dropLast_eq_take, RpA.length h]
  exact RpA.take _ h
theorem RpA.ints {G : Hp} : ∀ {v : List V} {ns : List Int}, RpA K G v (ns.map PyData.int) → v = ns.map V.int
  | _, [], .nil => rfl
  | _, _ :: _, .cons (.int _) q => by rw [RpA.ints q]; rfl
theorem RpA.of_ints {G : Hp} : ∀ ns : List Int, RpA K G (ns.map V.int) (ns.map PyData.int)
  | [] => .nil
  | n :: ns => .cons (.int n) (RpA.of_ints ns)
theorem RpA.rep {G : Hp} {v : List V} {x : List PyData} (h : RpA K G v x) : ∀ n : Nat, RpA K G (List.replicate n v).flatten (List.replicate n x).flatten
  | 0 => .nil
  | n + 1 => by
    rw [List.replicate_succ, List.replicate_succ, List.flatten_cons, List.flatten_cons]
    exact RpA.append h (RpA.rep h n)
/-- values that all are trees -/
def datas : List T → Option (List PyData)
  | [] => some []
  | .d x :: r => (datas r).map (x :: ·)
  | _ :: _ => none
theorem datas_rpa : ∀ {xs : List V} {ts : List T} {ds : List PyData}, Paired (Rt K B) xs ts → datas ts = some ds → RpA K B.G xs ds
  | _, _, _, .nil, e => by
    cases e
    exact .nil
  | _, _, _, .cons (b := t) p q, e => by
    cases t with
    | d x =>
      unfold datas at e
      cases h : datas _ with
      | none => rw [h] at e; cases e
      | some r =>
        rw [h] at e
        cases e
        exact .cons p (datas_rpa q h)
    | mr i => cases e
    | lr i => cases e
    | scr ns => cases e
    | wt xs => cases e
    | exo a c d e' => cases e

theorem Wd.fresh (w : Wd K B M H) {p : Addr} (hp : H p = none) : B.G p = none ∧ p ∉ B.r ∧ p ∉ B.l := by
  refine ⟨?_, fun z => ?_, fun z => ?_⟩
  · cases e : B.G p with
    | none => rfl
    | some o => rw [w.le _ _ e] at hp; cases hp
  · exact w.tr p (List.mem_append_left _ z) hp
  · exact w.tr p (List.mem_append_right _ z) hp
theorem upd_keep {G : Hp} {p : Addr} {o : HO} (h : G p = none) : ∀ a u, G a = some u → upd G p o a = some u := fun a u e => by
  rw [upd_ne (ne_of_none e h)]
  exact e
theorem CellAt.mono {B' : Bk} {H' : Hp} {a : Addr} {c : Cell} (g : ∀ a o, B.G a = some o → B'.G a = some o) (r : B.r <+: B'.r) (e : H' a = H a) (h : CellAt K B H a c) : CellAt K B' H' a c := by
  have f : ∀ v t, Rt K { B with l := [] } v t → Rt K { B' with l := [] } v t := fun v t q => Rt.mono' (B := { B with l := [] }) (B' := { B' with l := [] }) g r (List.prefix_refl _) q
  cases c with
  | lst ts =>
    obtain ⟨xs, h1, h2⟩ := h
    exact ⟨xs, e.trans h1, Paired.imp f h2⟩
  | dct kvs =>
    obtain ⟨xs, h1, h2⟩ := h
    exact ⟨xs, e.trans h1, Paired.imp (fun _ _ q => ⟨q.1, f _ _ q.2⟩) h2⟩
  | dnk kvs =>
    obtain ⟨xs, h1, h2⟩ := h
    exact ⟨xs, e.trans h1, Paired.imp (fun _ _ q => ⟨q.1, q.2.1, Rp.mono g q.2.2.1, f _ _ q.2.2.2⟩) h2⟩
theorem mem_of_get {α : Type} {l : List α} {i : Nat} {a : α} (e : l[i]? = some a) : a ∈ l := List.mem_of_getElem? e
/-- a new object that never changes -/
theorem Wd.alloc (w : Wd K B M H) {p : Addr} (hp : H p = none) (o : HO) : Wd K { B with G := upd B.G p o } M (upd H p o) ∧ Ext B H { B with G := upd B.G p o } (upd H p o) := by
  obtain ⟨hG, hr, hl⟩ := w.fresh hp
  have ne : ∀ {a : Addr}, a ∈ B.r ++ B.l → a ≠ p := fun {a} h z => by
    subst z
    exact w.tr _ h hp
  refine ⟨⟨fun a u e => ?_, w.rlen, w.llen, w.nd, fun i a c h1 h2 => ?_, fun i a ds h1 h2 => ?_, fun a ha => ?_⟩, ⟨upd_keep hG, List.prefix_refl _, List.prefix_refl _, fun a u e _ _ => upd_keep hp a u e, fun a e => ?_, fun a e => .inl e, fun a e => .inl e, fun a u e => ?_⟩⟩
  · by_cases z : a = p
    · subst z
      have e' : upd B.G a o a = some u := e
      rw [upd_same] at e' ⊢
      exact e'
    · have e' : upd B.G p o a = some u := e
      rw [upd_ne z] at e' ⊢
      exact w.le a u e'
  · obtain ⟨q1, q2⟩ := w.dc i a c h1 h2
    have na := ne (List.mem_append_left _ (mem_of_get h1))
    exact ⟨(upd_ne na).trans q1, CellAt.mono (upd_keep hG) (List.prefix_refl _) (upd_ne na) q2⟩
  · obtain ⟨q1, xs, q2, q3⟩ := w.lc i a ds h1 h2
    have na := ne (List.mem_append_right _ (mem_of_get h1))
    exact ⟨(upd_ne na).trans q1, xs, (upd_ne na).trans q2, RpA.mono (upd_keep hG) q3⟩
  · rw [upd_ne (ne ha)]
    exact w.tr a ha
  · by_cases z : a = p
    · subst z
      exact hp
    · rw [upd_ne z] at e
      exact e
  · by_cases z : a = p
    · subst z
      exact .inr (.inl hp)
    · have e' : upd B.G p o a = some u := e
      rw [upd_ne z] at e'
      exact .inl e'
theorem nodup_snoc {α : Type} {l : List α} {a : α} (h : l.Nodup) (n : a ∉ l) : (l ++ [a]).Nodup := by
  rw [List.nodup_append]
  refine ⟨h, by simp, fun x hx y hy => ?_⟩
  rw [List.mem_singleton] at hy
  subst hy
  intro z
  subst z
  exact n hx
/-- a new list of the frame's own -/
theorem Wd.newL (w : Wd K B M H) {p : Addr} (hp : H p = none) {xs : List V} {ds : List PyData} (h : RpA K B.G xs ds) :
    Wd K { B with l := B.l ++ [p] } { M with L := M.L ++ [some ds] } (upd H p (.lst xs)) ∧ Ext B H { B with l := B.l ++ [p] } (upd H p (.lst xs)) := by
  obtain ⟨hG, hr, hl⟩ := w.fresh hp
  have ne : ∀ {a : Addr}, a ∈ B.r ++ B.l → a ≠ p := fun {a} h z => by
    subst z
    exact w.tr _ h hp
  refine ⟨⟨fun a u e => upd_keep hp a u (w.le a u e), w.rlen, by simp [w.llen], ?_, fun i a c h1 h2 => ?_, fun i a es h1 h2 => ?_, fun a ha => ?_⟩, ⟨fun a u e => e, List.prefix_refl _, List.prefix_append _ _, fun a u e _ _ => upd_keep hp a u e, fun a e => ?_, fun a e => .inl e, fun a e => ?_, fun a u e => .inl e⟩⟩
  · show (B.r ++ (B.l ++ [p])).Nodup
    rw [← List.append_assoc]
    exact nodup_snoc w.nd fun z => ne z rfl
  · obtain ⟨q1, q2⟩ := w.dc i a c h1 h2
    have na := ne (List.mem_append_left _ (mem_of_get h1))
    exact ⟨q1, CellAt.mono (fun _ _ e => e) (List.prefix_refl _) (upd_ne na) q2⟩
  · have h1' : (B.l ++ [p])[i]? = some a := h1
    have h2' : (M.L ++ [some ds])[i]? = some (some es) := h2
    rcases Nat.lt_or_ge i B.l.length with z | z
    · rw [List.getElem?_append_left z] at h1'
      rw [List.getElem?_append_left (by rw [← w.llen]; exact z)] at h2'
      obtain ⟨q1, ys, q2, q3⟩ := w.lc i a es h1' h2'
      exact ⟨q1, ys, (upd_ne (ne (List.mem_append_right _ (mem_of_get h1')))).trans q2, q3⟩
    · rw [List.getElem?_append_right z] at h1'
      rw [List.getElem?_append_right (by rw [← w.llen]; exact z), ← w.llen] at h2'
      cases j : i - B.l.length with
      | succ k => rw [j] at h1'; simp at h1'
      | zero =>
        rw [j] at h1' h2'
        simp only [List.getElem?_cons_zero, Option.some.injEq] at h1' h2'
        subst h1'
        subst h2'
        exact ⟨hG, xs, upd_same, h⟩
  · have ha' : a ∈ B.r ++ (B.l ++ [p]) := ha
    rw [← List.append_assoc] at ha'
    rcases List.mem_append.mp ha' with z | z
    · rw [upd_ne (ne z)]
      exact w.tr a z
    · rw [List.mem_singleton] at z
      subst z
      rw [upd_same]
      exact fun q => nomatch q
  · by_cases z : a = p
    · subst z
      exact hp
    · rw [upd_ne z] at e
      exact e
  · rcases List.mem_append.mp e with z | z
    · exact .inl z
    · rw [List.mem_singleton] at z
      subst z
      exact .inr hp
theorem nodup_get {α : Type} : ∀ {l : List α} {i j : Nat} {a : α}, l.Nodup → l[i]? = some a → l[j]? = some a → i = j
  | [], _, _, _, _, e, _ => by simp at e
  | x :: l, 0, 0, _, _, _, _ => rfl
  | x :: l, 0, j + 1, a, n, e, f => by
    rw [List.getElem?_cons_zero] at e
    cases e
    rw [List.getElem?_cons_succ] at f
    exact absurd (mem_of_get f) (List.nodup_cons.mp n).1
  | x :: l, i + 1, 0, a, n, e, f => by
    rw [List.getElem?_cons_zero] at f
    cases f
    rw [List.getElem?_cons_succ] at e
    exact absurd (mem_of_get e) (List.nodup_cons.mp n).1
  | x :: l, i + 1, j + 1, a, n, e, f => by
    rw [List.getElem?_cons_succ] at e f
    rw [nodup_get (List.nodup_cons.mp n).2 e f]
theorem Wd.rl (w : Wd K B M H) {a : Addr} (h1 : a ∈ B.r) (h2 : a ∈ B.l) : False := (List.nodup_append.mp w.nd).2.2 a h1 a h2 rfl
/-- one of the frame's own lists is written -/
theorem Wd.setL (w : Wd K B M H) {i : Nat} {p : Addr} (hp : B.l[i]? = some p) {ds0 : List PyData} (h0 : M.L[i]? = some (some ds0)) {xs : List V} {ds : List PyData} (h : RpA K B.G xs ds) :
    Wd K B { M with L := M.L.set i (some ds) } (upd H p (.lst xs)) ∧ Ext B H B (upd H p (.lst xs)) := by
  obtain ⟨hG, _⟩ := w.lc i p ds0 hp h0
  have pl := mem_of_get hp
  refine ⟨⟨fun a u e => ?_, w.rlen, by simp [w.llen], w.nd, fun j a c h1 h2 => ?_, fun j a es h1 h2 => ?_, fun a ha => ?_⟩, ⟨fun a u e => e, List.prefix_refl _, List.prefix_refl _, fun a u e _ n => ?_, fun a e => ?_, fun a e => .inl e, fun a e => .inl e, fun a u e => .inl e⟩⟩
  · rw [upd_ne (ne_of_none e hG)]
    exact w.le a u e
  · obtain ⟨q1, q2⟩ := w.dc j a c h1 h2
    have na : a ≠ p := fun z => by
      subst z
      exact w.rl (mem_of_get h1) pl
    exact ⟨q1, CellAt.mono (fun _ _ e => e) (List.prefix_refl _) (upd_ne na) q2⟩
  · by_cases z : i = j
    · subst z
      rw [hp] at h1
      cases h1
      have lt : i < M.L.length := by
        rcases Nat.lt_or_ge i M.L.length with q | q
        · exact q
        · rw [List.getElem?_eq_none q] at h0; cases h0
      have h2' : (M.L.set i (some ds))[i]? = some (some es) := h2
      rw [List.getElem?_set_self lt] at h2'
      cases h2'
      exact ⟨hG, xs, upd_same, h⟩
    · have h2' : (M.L.set i (some ds))[j]? = some (some es) := h2
      rw [List.getElem?_set_ne z] at h2'
      obtain ⟨q1, ys, q2, q3⟩ := w.lc j a es h1 h2'
      refine ⟨q1, ys, (upd_ne fun y => z ?_).trans q2, q3⟩
      subst y
      exact nodup_get (List.nodup_append.mp w.nd).2.1 hp h1
  · by_cases z : a = p
    · subst z
      rw [upd_same]
      exact fun q => nomatch q
    · rw [upd_ne z]
      exact w.tr a ha
  · rw [upd_ne fun z => n (by subst z; exact pl)]
    exact e
  · by_cases z : a = p
    · subst z
      rw [upd_same] at e
      cases e
    · rw [upd_ne z] at e
      exact e
/-- one of the frame's own lists never changes any more -/
theorem Wd.freeze (w : Wd K B M H) {i : Nat} {p : Addr} (hp : B.l[i]? = some p) {ds : List PyData} (h0 : M.L[i]? = some (some ds)) :
    ∃ B', Wd K B' { M with L := M.L.set i none } H ∧ Ext B H B' H ∧ Rp K B'.G (.ref p) (.list ds) := by
  obtain ⟨hG, xs, e0, h⟩ := w.lc i p ds hp h0
  have pl := mem_of_get hp
  refine ⟨{ B with G := upd B.G p (.lst xs) }, ⟨fun a u e => ?_, w.rlen, by simp [w.llen], w.nd, fun j a c h1 h2 => ?_, fun j a es h1 h2 => ?_, w.tr⟩, ⟨upd_keep hG, List.prefix_refl _, List.prefix_refl _, fun a u e _ n => e, fun a e => e, fun a e => .inl e, fun a e => .inl e, fun a u e => ?_⟩, .lst upd_same (RpA.mono (upd_keep hG) h)⟩
  · by_cases z : a = p
    · subst z
      rw [show ({ B with G := upd B.G a (.lst xs) } : Bk).G = upd B.G a (.lst xs) from rfl, upd_same] at e
      rw [e0]
      exact e
    · have e' : upd B.G p (.lst xs) a = some u := e
      rw [upd_ne z] at e'
      exact w.le a u e'
  · obtain ⟨q1, q2⟩ := w.dc j a c h1 h2
    have na : a ≠ p := fun z => by
      subst z
      exact w.rl (mem_of_get h1) pl
    exact ⟨(upd_ne na).trans q1, CellAt.mono (upd_keep hG) (List.prefix_refl _) rfl q2⟩
  · by_cases z : i = j
    · subst z
      have lt : i < M.L.length := by
        rcases Nat.lt_or_ge i M.L.length with q | q
        · exact q
        · rw [List.getElem?_eq_none q] at h0; cases h0
      have h2' : (M.L.set i none)[i]? = some (some es) := h2
      rw [List.getElem?_set_self lt] at h2'
      cases h2'
    · have h2' : (M.L.set i none)[j]? = some (some es) := h2
      rw [List.getElem?_set_ne z] at h2'
      obtain ⟨q1, ys, q2, q3⟩ := w.lc j a es h1 h2'
      refine ⟨(upd_ne fun y => z ?_).trans q1, ys, q2, RpA.mono (upd_keep hG) q3⟩
      subst y
      exact nodup_get (List.nodup_append.mp w.nd).2.1 hp h1
  · by_cases z : a = p
    · subst z
      exact .inr (.inr pl)
    · have e' : upd B.G p (.lst xs) a = some u := e
      rw [upd_ne z] at e'
      exact .inl e'
/-- a new object of the deck -/
theorem Wd.newD (w : Wd K B M H) {p : Addr} (hp : H p = none) {o : HO} {c : Cell} (h : ∀ H', H' p = some o → CellAt K { B with r := B.r ++ [p] } H' p c) :
    Wd K { B with r := B.r ++ [p] } { M with D := M.D ++ [c] } (upd H p o) ∧ Ext B H { B with r := B.r ++ [p] } (upd H p o) := by
  obtain ⟨hG, hr, hl⟩ := w.fresh hp
  have ne : ∀ {a : Addr}, a ∈ B.r ++ B.l → a ≠ p := fun {a} ha z => by
    rw [z] at ha
    exact w.tr _ ha hp
  refine ⟨⟨fun a u e => upd_keep hp a u (w.le a u e), by simp [w.rlen], w.llen, ?_, fun i a c' h1 h2 => ?_, fun i a es h1 h2 => ?_, fun a ha => ?_⟩, ⟨fun a u e => e, List.prefix_append _ _, List.prefix_refl _, fun a u e _ _ => upd_keep hp a u e, fun a e => ?_, fun a e => ?_, fun a e => .inl e, fun a u e => .inl e⟩⟩
  · show ((B.r ++ [p]) ++ B.l).Nodup
    rw [List.nodup_append]
    obtain ⟨n1, n2, n3⟩ := List.nodup_append.mp w.nd
    refine ⟨nodup_snoc n1 hr, n2, fun x hx y hy z => ?_⟩
    rcases List.mem_append.mp hx with q | q
    · exact n3 x q y hy z
    · rw [List.mem_singleton] at q
      subst z
      subst q
      exact hl hy
  · have h1' : (B.r ++ [p])[i]? = some a := h1
    have h2' : (M.D ++ [c])[i]? = some c' := h2
    rcases Nat.lt_or_ge i B.r.length with z | z
    · rw [List.getElem?_append_left z] at h1'
      rw [List.getElem?_append_left (by rw [← w.rlen]; exact z)] at h2'
      obtain ⟨q1, q2⟩ := w.dc i a c' h1' h2'
      exact ⟨q1, CellAt.mono (B := B) (B' := { B with r := B.r ++ [p] }) (fun _ _ e => e) (List.prefix_append _ _) (upd_ne (ne (List.mem_append_left _ (mem_of_get h1')))) q2⟩
    · rw [List.getElem?_append_right z] at h1'
      rw [List.getElem?_append_right (by rw [← w.rlen]; exact z), ← w.rlen] at h2'
      cases j : i - B.r.length with
      | succ k => rw [j] at h1'; simp at h1'
      | zero =>
        rw [j] at h1' h2'
        simp only [List.getElem?_cons_zero, Option.some.injEq] at h1' h2'
        subst h1'
        subst h2'
        exact ⟨hG, h _ upd_same⟩
  · obtain ⟨q1, ys, q2, q3⟩ := w.lc i a es h1 h2
    exact ⟨q1, ys, (upd_ne (ne (List.mem_append_right _ (mem_of_get h1)))).trans q2, q3⟩
  · have ha' : a ∈ (B.r ++ [p]) ++ B.l := ha
    rcases List.mem_append.mp ha' with z | z
    · rcases List.mem_append.mp z with z | z
      · rw [upd_ne (ne (List.mem_append_left _ z))]
        exact w.tr a (List.mem_append_left _ z)
      · rw [List.mem_singleton] at z
        subst z
        rw [upd_same]
        exact fun q => nomatch q
    · rw [upd_ne (ne (List.mem_append_right _ z))]
      exact w.tr a (List.mem_append_right _ z)
  · by_cases z : a = p
    · subst z
      exact hp
    · rw [upd_ne z] at e
      exact e
  · rcases List.mem_append.mp e with z | z
    · exact .inl z
    · rw [List.mem_singleton] at z
      subst z
      exact .inr hp
/-- an object of the deck is written -/
theorem Wd.setD (w : Wd K B M H) {i : Nat} {p : Addr} (hp : B.r[i]? = some p) {c0 : Cell} (h0 : M.D[i]? = some c0) {o : HO} {c : Cell} (h : ∀ H', H' p = some o → CellAt K B H' p c) :
    Wd K B { M with D := M.D.set i c } (upd H p o) ∧ Ext B H B (upd H p o) := by
  obtain ⟨hG, _⟩ := w.dc i p c0 hp h0
  have pl := mem_of_get hp
  refine ⟨⟨fun a u e => ?_, by simp [w.rlen], w.llen, w.nd, fun j a c' h1 h2 => ?_, fun j a es h1 h2 => ?_, fun a ha => ?_⟩, ⟨fun a u e => e, List.prefix_refl _, List.prefix_refl _, fun a u e n _ => ?_, fun a e => ?_, fun a e => .inl e, fun a e => .inl e, fun a u e => .inl e⟩⟩
  · rw [upd_ne (ne_of_none e hG)]
    exact w.le a u e
  · by_cases z : i = j
    · subst z
      rw [hp] at h1
      cases h1
      have lt : i < M.D.length := by
        rcases Nat.lt_or_ge i M.D.length with q | q
        · exact q
        · rw [List.getElem?_eq_none q] at h0; cases h0
      have h2' : (M.D.set i c)[i]? = some c' := h2
      rw [List.getElem?_set_self lt] at h2'
      cases h2'
      exact ⟨hG, h _ upd_same⟩
    · have h2' : (M.D.set i c)[j]? = some c' := h2
      rw [List.getElem?_set_ne z] at h2'
      obtain ⟨q1, q2⟩ := w.dc j a c' h1 h2'
      refine ⟨q1, CellAt.mono (fun _ _ e => e) (List.prefix_refl _) (upd_ne fun y => z ?_) q2⟩
      subst y
      exact nodup_get (List.nodup_append.mp w.nd).1 hp h1
  · obtain ⟨q1, ys, q2, q3⟩ := w.lc j a es h1 h2
    refine ⟨q1, ys, (upd_ne fun z => ?_).trans q2, q3⟩
    subst z
    exact w.rl pl (mem_of_get h1)
  · by_cases z : a = p
    · subst z
      rw [upd_same]
      exact fun q => nomatch q
    · rw [upd_ne z]
      exact w.tr a ha
  · rw [upd_ne fun z => n (by subst z; exact pl)]
    exact e
  · by_cases z : a = p
    · subst z
      rw [upd_same] at e
      cases e
    · rw [upd_ne z] at e
      exact e
end
end L3

set_option Elab.async false
set_option linter.all false
set_option maxRecDepth 100000
/-! clean tuples: the rules that make them, once more, with what they are known to be -/
namespace L3
open PySem PySem.Spec L2 PyProof.Rows
def nuT (us : List Value) : Obj := { cls := .type "tuple", data := .seq us.toArray }
theorem okC {P : Program} {w : World} {H : Hp} {h : Heap} {a : Addr} {us : List Value} {xs : List V} (z : xs.length ≤ sizeLine) (r : Vals xs us) (e : h.get? a = some (nuT us)) : ObjOk P w H h a (.frz (nuT us) (.tup xs)) := by
  unfold L2.ObjOk
  refine ⟨e, ?_⟩
  unfold L2.ObjOk
  exact ⟨z, us, r, _, e, rfl, 0, rfl⟩
section
variable {X : Cx} {es : List Expr} {t : TA} {pos : Pos}
def tTupC (t : TA) : TE := fun σ H Q => t σ H fun xs H1 => xs.length ≤ sizeLine ∧ ∀ (p : Addr) (o : Obj), H1 p = none → o.dict = none → Q (.ref p) (upd H1 p (.frz o (.tup xs)))
theorem pe_tupC {x1 : Nat} (h : PA X es t) : PE X (.Tuple es x1 pos) (tTupC t) := ⟨fun pins s σ H Q I hq => by
  refine wpAny_Tuple_spliced (thn (h.run pos pins s σ H (fun xs H1 => xs.length ≤ sizeLine ∧ ∀ (p : Addr) (o : Obj), H1 p = none → o.dict = none → Q (.ref p) (upd H1 p (.frz o (.tup xs)))) I hq) fun us s1 ⟨xs, H1, I1, r, z, q⟩ => ?_)
  refine ⟨by rw [← r.length]; exact z, ?_⟩
  exact ⟨.ref s1.heap.objs.size, upd H1 s1.heap.objs.size (.frz (nuT us) (.tup xs)), I1.laid (fun b u e => Heap.get?_push_of_some _ e) (Nat.le_refl _) (okC z r (Heap.get?_push_size _ rfl)), rfl, q _ _ (I1.hok.fresh (Nat.le_refl _)) rfl⟩⟩
def rCatC (K : PySem.W.Frag) : R2 := fun x y H Q => ∃ a b xs ys, x = .ref a ∧ y = .ref b ∧ SqT K H a xs ∧ SqT K H b ys ∧ xs.length + ys.length ≤ sizeLine ∧ (xs = [] → Q (.ref b) H) ∧ (xs ≠ [] → ys = [] → Q (.ref a) H) ∧
  (xs ≠ [] → ys ≠ [] → ∀ (p : Addr) (o : Obj), H p = none → o.dict = none → Q (.ref p) (upd H p (.frz o (.tup (xs ++ ys)))))
theorem op_catC : OpR X (binaryOp .Add) (rCatC X.K) := by
  intro pins s σ H x y v u Q I rx ry h
  obtain ⟨a, b, xs, ys, rfl, rfl, ha, hb, hz, q0, q1, q2⟩ := h
  by_cases hx : xs = []
  · exact op_catA pins s σ H (.ref a) (.ref b) v u Q I rx ry ⟨a, b, xs, ys, rfl, rfl, ha, hb, hz, q0, q1, fun z => absurd hx z⟩
  · cases rx
    cases ry
    obtain ⟨us, r1, p1, _⟩ := I.tuple ha
    obtain ⟨vs, r2, p2, _⟩ := I.tuple hb
    refine HT.cat_tup p1 p2 (fun z => hx ?_) (fun z => ?_) (fun z => ?_) (by rw [← r1.length, ← r2.length]; exact hz)
    · subst z
      cases r1
      rfl
    · subst z
      cases r2
      exact ⟨.ref a, H, I, rfl, q1 hx rfl⟩
    · have hy : ys ≠ [] := fun e => by
        subst e
        cases r2
        exact z rfl
      exact ⟨.ref s.heap.objs.size, upd H s.heap.objs.size (.frz (nuT (us ++ vs)) (.tup (xs ++ ys))), I.laid (fun b u e => Heap.get?_push_of_some _ e) (Nat.le_refl _) (okC (by rw [List.length_append]; exact hz) (Vals.append r1 r2) (Heap.get?_push_size _ rfl)), rfl, q2 hx hy _ _ (I.hok.fresh (Nat.le_refl _)) rfl⟩
def rSlC (K : PySem.W.Frag) : V → Option Int → Option Int → Hp → VK → Prop := fun x lo hi H Q => ∃ a xs, x = .ref a ∧ SqT K H a xs ∧ (HT.sIx xs.length 0 lo = 0 ∧ HT.sIx xs.length xs.length hi = xs.length → Q (.ref a) H) ∧
  (¬(HT.sIx xs.length 0 lo = 0 ∧ HT.sIx xs.length xs.length hi = xs.length) → ∀ (p : Addr) (o : Obj), H p = none → o.dict = none → Q (.ref p) (upd H p (.frz o (.tup (cutV xs lo hi)))))
theorem sl_tupC : SlR X (rSlC X.K) := by
  intro pins s σ H x v vl vu lo hi sl Q I rx hs pl pu h
  obtain ⟨a, xs, rfl, ha, q1, q2⟩ := h
  by_cases hw : HT.sIx xs.length 0 lo = 0 ∧ HT.sIx xs.length xs.length hi = xs.length
  · exact sl_tupA pins s σ H (.ref a) v vl vu lo hi sl Q I rx hs pl pu ⟨a, xs, rfl, ha, q1, fun z => absurd hw z⟩
  · cases rx
    obtain ⟨us, r1, p1, hz⟩ := I.tuple ha
    have e : us.toArray.size = xs.length := by rw [r1.length]; simp
    have p2 := p1
    obtain ⟨o, ho, hc, _⟩ := p2
    refine ⟨"tuple", "tuple.__getitem__", slot_tuple_getitem.lookup, ⟨o, ho, hc⟩, HT.getItem_tuple_cut p1 hs pl pu (by rw [e]; exact hw) ?_ (by rw [e]; exact hz)⟩
    rw [e]
    have r3 : Vals (cutV xs lo hi) (List.take (HT.sIx xs.length xs.length hi - HT.sIx xs.length 0 lo) (List.drop (HT.sIx xs.length 0 lo) us)) := Vals.take _ (Vals.drop _ r1)
    exact ⟨.ref s.heap.objs.size, upd H s.heap.objs.size (.frz (nuT _) (.tup (cutV xs lo hi))), I.laid (fun b u e => Heap.get?_push_of_some _ e) (Nat.le_refl _) (okC (by
      unfold cutV
      rw [List.length_take, List.length_drop]
      omega) r3 (Heap.get?_push_size _ rfl)), rfl, q2 hw _ _ (I.hok.fresh (Nat.le_refl _)) rfl⟩
theorem call_tupleC : CallR X (.type "tuple") fun xs H Q => ∃ p ys, xs = [V.ref p] ∧ ((SqL X.K H p ys ∧ ∀ (l : Addr) (o : Obj), H l = none → o.dict = none → Q (.ref l) (upd H l (.frz o (.tup ys)))) ∨ (SqT X.K H p ys ∧ Q (.ref p) H)) := by
  intro pins s σ H xs us Q I r h
  obtain ⟨p, ys, rfl, h⟩ := h
  rcases h with ⟨hl, q⟩ | h
  · rw [Vals.ref1 r]
    obtain ⟨its, rv, pl, hz⟩ := I.list hl
    obtain ⟨o, n, h1, h2⟩ := pl
    refine call_tuple_list (items := its.toArray) ⟨o, h1, h2.1, n, h2.2.2⟩ (fun h' hk => ?_) (by simpa [← rv.length] using hz)
    have I2 := I.kept (t' := s.toks) hk
    exact ⟨.ref h'.objs.size, upd H h'.objs.size (.frz (nuT its) (.tup ys)), I2.laid (fun b u e => Heap.get?_push_of_some _ e) (Nat.le_refl _) (okC hz rv (Heap.get?_push_size _ rfl)), rfl, q _ _ (I2.hok.fresh (Nat.le_refl _)) rfl⟩
  · exact call_tuple_of pins s σ H _ us Q I r ⟨p, ys, rfl, .inr h⟩
/-- t * n, n from 2 on -/
def rRepC (K : PySem.W.Frag) : R2 := fun x y H Q => ∃ l k xs, x = .ref l ∧ y = .int k ∧ SqT K H l xs ∧ xs ≠ [] ∧ 2 ≤ k ∧ k ≤ 1000 ∧ xs.length ≤ 1000 ∧ ∀ (p : Addr) (o : Obj), H p = none → o.dict = none → Q (.ref p) (upd H p (.frz o (.tup (List.replicate k.toNat xs).flatten)))
theorem vals_rep {xs : List V} {us : List Value} (r : Vals xs us) : ∀ n : Nat, Vals (List.replicate n xs).flatten (List.replicate n us).flatten
  | 0 => .nil
  | n + 1 => by
    rw [List.replicate_succ, List.replicate_succ, List.flatten_cons, List.flatten_cons]
    exact Vals.append r (vals_rep r n)
theorem foldl_rep (us : List Value) : ∀ (n : Nat) (a : Array Value), (List.replicate n us.toArray).foldl (fun x1 x2 => x1 ++ x2) a = a ++ (List.replicate n us).flatten.toArray
  | 0, a => by simp
  | n + 1, a => by
    rw [List.replicate_succ, List.foldl_cons, foldl_rep us n, List.replicate_succ, List.flatten_cons]
    simp
theorem op_repC : OpR X (binaryOp .Mult) (rRepC X.K) := by
  intro pins s σ H x y v u Q I rx ry h
  obtain ⟨l, k, xs, rfl, rfl, hT, hne, k2, k3, hl, q⟩ := h
  cases rx
  obtain ⟨t, rfl⟩ := ry
  obtain ⟨its, r, ⟨⟨cls, dd, data, sl⟩, ho, hc, n, hd⟩, hs⟩ := I.tuple hT
  simp only at hc hd
  subst hc hd
  have hlen := r.length
  have hi : its.toArray.isEmpty = false := by
    cases r with
    | nil => exact absurd rfl hne
    | cons _ _ => rfl
  have hsz : its.toArray.size = xs.length := by rw [hlen]; simp
  have hm : (xs.length : Int) * k ≤ 1000 * 1000 := Int.mul_le_mul (by omega) k3 (by omega) (by omega)
  have hm0 : 0 ≤ (xs.length : Int) * k := Int.mul_nonneg (by omega) (by omega)
  have hf : ((List.replicate k.toNat xs).flatten).length ≤ sizeLine := by
    rw [List.length_flatten, List.map_replicate, List.sum_replicate_nat]
    have : k.toNat * xs.length ≤ 1000 * 1000 := Nat.mul_le_mul (by omega) hl
    exact Nat.le_trans this (by decide)
  have r3 := vals_rep r k.toNat
  have e3 : (List.foldl (fun x1 x2 => x1 ++ x2) #[] (List.replicate k.toNat its.toArray)) = ((List.replicate k.toNat its).flatten).toArray := by
    rw [foldl_rep]
    simp
  refine wpAny_binaryOp_repeat_ref (T := "tuple") (U := "int") (by decide) ⟨_, ho, rfl⟩ (fun s' => typeIs_int s' k t) noFill_tuple_mul F.fills_int_mul F.slot_int_rmul repeat_tuple F.slot_int_index.lookup
    (call_meets F.slot_int_rmul (typeIs_int s k t) F.entry_int_rmul (F.args_int_rmul_2 _ _) (int_rmul_tuple k t l its.toArray n dd sl)
      ⟨ho, rfl, ⟨_, ho, rfl⟩, call_meets F.slot_tuple_mul ⟨_, ho, rfl⟩ F.entry_tuple_mul (F.args_tuple_mul_2 _ _) (tuple_mulW l its.toArray n dd sl k t (by simp; omega) (by rw [hi]; simp; omega) (by rw [hi]; simp; omega) (by rw [hsz]; omega) ?_ ?_) ⟨ho, ?_⟩⟩)
  · unfold Builtin.Tuple.tupleTooMany
    rw [hsz]
    refine decide_eq_false ?_
    have : (sizeLine : Int) ≥ 1000 * 1000 := by decide
    omega
  · rw [e3]
    have := r3.length
    simp only [List.size_toArray]
    omega
  · rw [e3]
    exact ⟨.ref s.heap.objs.size, upd H s.heap.objs.size (.frz (nuT _) (.tup (List.replicate k.toNat xs).flatten)), I.laid (fun b u e => Heap.get?_push_of_some _ e) (Nat.le_refl _) (okC hf r3 (Heap.get?_push_size _ rfl)), rfl, q _ _ (I.hok.fresh (Nat.le_refl _)) rfl⟩

/-! ### count -/
theorem ints_get : ∀ {vs : List Value} {ns : List Int}, IntsAre vs ns → ∀ (i : Nat) (h1 : i < vs.length) (h2 : i < ns.length), ∃ t, vs[i] = Value.int ns[i] t
  | _, _, .nil, i, h1, _ => absurd h1 (Nat.not_lt_zero i)
  | _, _, .cons n t q, 0, _, _ => ⟨t, rfl⟩
  | _, _, .cons n t q, i + 1, h1, h2 => ints_get q i (Nat.lt_of_succ_lt_succ h1) (Nat.lt_of_succ_lt_succ h2)
theorem loop_count {prog : Program} {w : World} {A : Around} {E : Value → Shared → Prop} {s : Shared} {items : Array Value} {ns : List Int} {k : Int} {f : (a : Value) → a ∈ items → Nat → Sem (ForInStep Nat)} (hi : IntsAre items.toList ns)
    (hf : ∀ a m acc p t, a = Value.int p t → ∀ Q : ForInStep Nat → Shared → Prop, Q (.yield (if p = k then acc + 1 else acc)) s → wpAny (model prog w) A (f a m acc) Q E s) :
    ∀ (i : Nat) (h : i ≤ items.size) (acc : Nat) (Q : Nat → Shared → Prop), Q (acc + (ns.drop (items.size - i)).count k) s → wpAny (model prog w) A (Array.forIn'.loop items f i h acc) Q E s
  | 0, h, acc, Q, q => by
    unfold Array.forIn'.loop
    have hl : ns.length = items.size := by
      have h2 := hi.length
      simpa using h2.symm
    rw [Nat.sub_zero, ← hl, List.drop_length] at q
    exact wpAny_pure q
  | i + 1, h, acc, Q, q => by
    have hl : ns.length = items.size := by
      have h2 := hi.length
      simpa using h2.symm
    unfold Array.forIn'.loop
    have hj : items.size - 1 - i < items.size := by omega
    obtain ⟨t, ht⟩ : ∃ t, items[items.size - 1 - i] = Value.int (ns[items.size - 1 - i]'(by omega)) t := ints_get hi _ (by simpa using hj) (by omega)
    refine wpAny_bind (hf _ _ acc _ t ht _ ?_)
    refine loop_count hi hf i _ _ Q ?_
    have e : items.size - (i + 1) = items.size - 1 - i := by omega
    have e2 : items.size - i = items.size - 1 - i + 1 := by omega
    rw [e, List.drop_eq_getElem_cons (by omega), List.count_cons, ← e2] at q
    by_cases hk : ns[items.size - 1 - i]'(by omega) = k
    · rw [if_pos hk]
      rw [beq_iff_eq.mpr hk, if_pos rfl] at q
      have e3 : acc + 1 + List.count k (List.drop (items.size - i) ns) = acc + (List.count k (List.drop (items.size - i) ns) + 1) := by omega
      rw [e3]
      exact q
    · rw [if_neg hk]
      have hk2 : (ns[items.size - 1 - i]'(by omega) == k) = false := beq_false_of_ne hk
      rw [hk2] at q
      simpa using q
theorem tuple_count (l : Addr) (items : Array Value) (n : Nat) (dd : Option Addr) (sl : Array (Option Value)) (ns : List Int) (k : Int) (u : Tok) (hi : IntsAre items.toList ns) :
    Meets (Builtin.«tuple.count» ⟨[.ref l, .int k u], []⟩) (fun _ R s => s.heap.get? l = some { cls := .type "tuple", dict := dd, data := .seq items n, slots := sl } ∧
      ∀ t tk, R (.ok (.ret (Value.int (ns.count k : Nat) t))) { s with toks := tk }) :=
  .of_wp fun prog w A R s h => by
    obtain ⟨hl, h⟩ := h
    wp_walk using wpAny_tupleItemsOf hl rfl
    refine loop_count (k := k) hi (fun a m acc p t ha Q q => ?_) items.size (Nat.le_refl _) 0 _ ?_
    · subst ha
      refine wpAny_bind (SeqAt.EqAt.int_int p t k u prog w _ _ ?_)
      by_cases hp : p = k
      · rw [beq_iff_eq.mpr hp, if_pos rfl]
        rw [if_pos hp] at q
        exact wpAny_pure q
      · rw [beq_false_of_ne hp, if_neg Bool.false_ne_true]
        rw [if_neg hp] at q
        exact wpAny_pure q
    · rw [Nat.sub_self, List.drop_zero, Nat.zero_add]
      wp_walk
      exact ⟨_, rfl, h _ _⟩
theorem tupC_is {pins : List (Addr × Obj)} {σ : L2.St} {H : Hp} {s : Shared} {a : Addr} {xs : List V} (I : Inv X pins σ H s) (h : TupC X.K H a xs) : s.TypeIs (.ref a) "tuple" ∧ ∃ ob, s.heap.get? a = some ob ∧ ob.dict = none := by
  rcases h with ⟨o, e, hd⟩ | ⟨o, its, n, h1, h2, h3, h4, h5, h6⟩
  · have ok := I.hok a _ e
    unfold L2.ObjOk at ok
    obtain ⟨g, t⟩ := ok
    unfold L2.ObjOk at t
    obtain ⟨_, us, _, o2, g2, c2, _⟩ := t
    exact ⟨⟨o2, g2, c2⟩, o, g, hd⟩
  · have := tyV_is (v := .ref a) (T := "tuple") (x := .ref a) I rfl (.inr (.inl ⟨rfl, o, h1, h2, h3⟩))
    exact ⟨this.1, this.2 a rfl⟩
def tCnt (K : PySem.W.Frag) (to : TE) (t : TA) : TE := fun σ H Q => to σ H fun x H1 => ∃ a xs, x = .ref a ∧ TupC K H1 a xs ∧ t σ H1 fun vs H2 => ∃ (ns : List Int) (k : Int), vs = [.int k] ∧ SqT K H2 a (ns.map V.int) ∧ Q (.int (ns.count k : Nat)) H2
theorem pe_tcount {o e : Expr} {to : TE} {t : TA} {apos cpos : Pos} (ho : PE X o to) (ha : PA X [e] t)
    (hbase : attributeBase o "count" X.env (eval o X.env) = eval o X.env := by rfl)
    (hfew : ((backTo cpos (starEach [e] X.env)).all (fun x => !x.1) && (backToKw cpos (keywordEach [] X.env)).all (fun x => x.1.isSome) && decide (([e] : List Expr).length + ([] : List Keyword).length + (if ([] : List Keyword).isEmpty then 0 else 1) < 30)) = true := by rfl)
    (hline : (apos.endLine == cpos.line) = true := by rfl) (hs : starEach [e] X.env = (false, eval e X.env) :: starEach [] X.env := by rfl) (hpl : (backTo cpos (starEach [] X.env)).any (·.1) = false := by rfl) :
    PE X (.Call (.Attribute o "count" apos) [e] [] cpos) (tCnt X.K to t) := ⟨fun pins s σ H Q I h => by
  refine wpAny_Call_method_late hbase hfew hline rfl (thn (ho.run pins s σ H (fun x H1 => ∃ a xs, x = .ref a ∧ TupC X.K H1 a xs ∧ t σ H1 fun vs H2 => ∃ (ns : List Int) (k : Int), vs = [.int k] ∧ SqT X.K H2 a (ns.map V.int) ∧ Q (.int (ns.count k : Nat)) H2) I h) fun v s1 ⟨x, H1, I1, r1, a, xs, ex, hT, q1⟩ => ?_)
  subst ex
  cases r1
  obtain ⟨h1, ob, h2, h3⟩ := tupC_is I1 hT
  refine ⟨"tuple", "tuple.count", F.plainAttrs_tuple, F.slot_tuple_count, F.type_tuple_count, h1, fun b hb => ?_, ?_⟩
  · cases hb
    exact ⟨ob, h2, h3⟩
  · have hA := ha.run cpos pins s1 σ H1 (fun vs H2 => ∃ (ns : List Int) (k : Int), vs = [.int k] ∧ SqT X.K H2 a (ns.map V.int) ∧ Q (.int (ns.count k : Nat)) H2) I1 q1
    rw [hs] at hA ⊢
    refine Calls.callWith_builtin (by
      show (false || (backTo cpos (starEach [] X.env)).any (·.1)) = false
      rw [hpl]
      rfl) (Calls.evalArgs_plain (thn hA fun us s2 ⟨vs, H2, I2, r2, ns, k, e2, hq, q2⟩ => ?_))
    subst e2
    obtain ⟨u, rfl, ru⟩ := Vals.one r2
    obtain ⟨t0, rfl⟩ := ru
    obtain ⟨its, rv, ⟨⟨cls, dd, data, sl⟩, hg, hc, n, hd⟩, _⟩ := I2.tuple hq
    simp only at hc hd
    subst hc hd
    refine call_meets F.slot_tuple_count ⟨_, hg, rfl⟩ F.entry_tuple_count (F.args_tuple_count_2 _ _) (tuple_count a its.toArray n dd sl ns k t0 (by simpa using ints_of_vals rv)) ⟨hg, fun t tk => ?_⟩
    exact ⟨.int (ns.count k : Nat), H2, I2.kept (t' := tk) fun _ _ z => z, ⟨t, rfl⟩, q2⟩⟩
end
end L3

set_option Elab.async false
set_option linter.all false
set_option maxRecDepth 100000
namespace L3
open PySem PySem.Spec L2

theorem OpR.or {X : Cx} {f : Value → Value → Sem Value} {r q : R2} (h : OpR X f r) (k : OpR X f q) : OpR X f (fun x y H Q => r x y H Q ∨ q x y H Q) := by
  intro pn sh sg hp a b va vb W iv ra rb z
  exact z.elim (h pn sh sg hp a b va vb W iv ra rb) (k pn sh sg hp a b va vb W iv ra rb)
theorem CallR.or {X : Cx} {f : Value} {r q : List V → Hp → VK → Prop} (h : CallR X f r) (k : CallR X f q) : CallR X f (fun x H Q => r x H Q ∨ q x H Q) := by
  intro pn sh sg hp a va W iv ra z
  exact z.elim (h pn sh sg hp a va W iv ra) (k pn sh sg hp a va W iv ra)

/-- what a value is now, as a tree -/
def now (t : T) (M : Mem) : Option PyData := match t with
  | .d x => some x
  | .lr i => match M.L[i]? with
    | some (some ds) => some (.list ds)
    | _ => none
  | .mr i => match M.D[i]? with
    | some (.lst ts) => (datas ts).map .list
    | _ => none
  | .scr ns => some (.list (ns.map .int))
  | .wt _ => none
  | .exo .. => none

section
variable {K : PySem.W.Frag} {B : Bk} {M : Mem} {H : Hp}
theorem Wd.dpNow (w : Wd K B M H) {v : V} {t : T} {x : PyData} (r : Rt K B v t) (e : now t M = some x) : Dp K H v x := by
  cases t with
  | d y => cases e; exact Rp.dp (w.rp r)
  | lr i =>
    obtain ⟨a, rfl, ha⟩ := r
    unfold now at e
    cases h : M.L[i]? with
    | none => simp [h] at e
    | some o =>
      cases o with
      | none => simp [h] at e
      | some ds =>
        simp only [h] at e
        cases e
        obtain ⟨_, xs, h1, h2⟩ := w.lc i a ds ha h
        exact .lst (.inl (.inl h1)) (RpA.dp (w.rpa h2))
  | mr i =>
    obtain ⟨a, rfl, ha⟩ := r
    unfold now at e
    cases h : M.D[i]? with
    | none => simp [h] at e
    | some o =>
      cases o with
      | dct _ => simp [h] at e
      | dnk _ => simp [h] at e
      | lst ts =>
        simp only [h] at e
        cases q : datas ts with
        | none => rw [q] at e; cases e
        | some ds =>
          rw [q] at e
          cases e
          obtain ⟨_, xs, h1, h2⟩ := w.dc i a _ ha h
          exact .lst (.inl (.inl h1)) (RpA.dp (w.rpa (datas_rpa (B := { B with l := [] }) h2 q)))
  | scr ns =>
    obtain ⟨a, rfl, ha⟩ := r
    cases e
    refine .lst (SqL.mono w.le ha) ?_
    exact RpA.dp (G := H) (RpA.of_ints ns)
  | wt xs => cases e
  | exo a c d e' => cases e
end

/-! ### operators -/
def oI (C : Int → Int → Prop) (g : Int → Int → PyData) : F2 := fun x y M Q => match x, y with
  | .d (.int i), .d (.int j) => C i j ∧ Q (.d (g i j)) M
  | _, _ => False
theorem opl_I {K : PySem.W.Frag} {C : Int → Int → Prop} {gV : Int → Int → V} {g : Int → Int → PyData} (hg : ∀ i j G, Rp K G (gV i j) (g i j)) : OpL K (rI C gV) (oI C g) := by
  intro x y t u M B H Q Q' h w rx ry k
  unfold oI at h
  split at h
  · cases rx
    cases ry
    obtain ⟨c, q⟩ := h
    exact ⟨_, _, rfl, rfl, c, k _ _ M B H q w (.refl _ _) (hg _ _ _)⟩
  · exact h.elim
theorem opl_I0 {K : PySem.W.Frag} {gV : Int → Int → V} {g : Int → Int → PyData} (hg : ∀ i j G, Rp K G (gV i j) (g i j)) : OpL K (rI0 gV) (oI (fun _ _ => True) g) := by
  intro x y t u M B H Q Q' h w rx ry k
  obtain ⟨i, j, e1, e2, _, q⟩ := opl_I (C := fun _ _ => True) hg x y t u M B H Q Q' h w rx ry k
  exact ⟨i, j, e1, e2, q⟩
theorem opl_not {K : PySem.W.Frag} {r : R2} : OpL K r (fun _ _ _ _ => False) := fun _ _ _ _ _ _ _ _ _ h _ _ _ _ => h.elim

def oAdd : F2 := fun x y M Q => match x, y with
  | .d (.int i), .d (.int j) => Q (.int (i + j)) M
  | .d (.str a), .d (.str b) => a.length + b.length ≤ sizeLine ∧ Q (.str (a ++ b)) M
  | .d (.list a), .d (.list b) => a.length + b.length ≤ sizeLine ∧ Q (.lst (a ++ b)) M
  | .d (.tuple a), .d (.tuple b) => a.length + b.length ≤ sizeLine ∧ Q (.tup (a ++ b)) M
  | _, _ => False
def rAdd (K : PySem.W.Frag) : R2 := fun x y H Q => rI0 (fun i j => .int (i + j)) x y H Q ∨ ((∃ i j, x = .str i ∧ y = .str j ∧ i.length + j.length ≤ sizeLine ∧ Q (.str (i ++ j)) H) ∨ (rCat x y H Q ∨ rCatC K x y H Q))
theorem opr_add {X : Cx} : OpR X (binaryOp .Add) (rAdd X.K) := op_add.or (op_add_str.or (op_cat.or op_catC))
theorem opl_add {K : PySem.W.Frag} : OpL K (rAdd K) oAdd := by
  intro x y t u M B H Q Q' h w rx ry k
  unfold oAdd at h
  split at h
  · cases rx
    cases ry
    exact .inl ⟨_, _, rfl, rfl, k _ _ M B H h w (.refl _ _) (.int _)⟩
  · cases rx
    cases ry
    exact .inr (.inl ⟨_, _, rfl, rfl, h.1, k _ _ M B H h.2 w (.refl _ _) (.str _)⟩)
  · cases rx with
    | lst e1 q1 =>
      cases ry with
      | lst e2 q2 =>
        refine .inr (.inr (.inl ⟨_, _, _, _, rfl, rfl, w.le _ _ e1, w.le _ _ e2, ?_, fun p hp => ?_⟩))
        · rw [RpA.length q1, RpA.length q2]
          exact h.1
        · obtain ⟨w', x'⟩ := w.alloc hp (.lst (_ ++ _))
          exact k _ _ M _ _ h.2 w' x' (.lst upd_same (RpA.mono x'.g (RpA.append q1 q2)))
  · cases rx with
    | tup e1 q1 =>
      cases ry with
      | tup e2 q2 =>
        obtain ⟨hl, q⟩ := h
        refine .inr (.inr (.inr ⟨_, _, _, _, rfl, rfl, SqT.mono w.le e1, SqT.mono w.le e2, ?_, fun z => ?_, fun _ z => ?_, fun _ z p o hp ho => ?_⟩))
        · rw [RpA.length q1, RpA.length q2]
          exact hl
        · subst z
          cases q1
          exact k _ _ M B H q w (.refl _ _) (.tup e2 q2)
        · subst z
          cases q2
          rw [List.append_nil] at q
          exact k _ _ M B H q w (.refl _ _) (.tup e1 q1)
        · obtain ⟨w', x'⟩ := w.alloc hp (.frz o (.tup (_ ++ _)))
          exact k _ _ M _ _ q w' x' (.tup (.inl ⟨o, upd_same, ho⟩) (RpA.mono x'.g (RpA.append q1 q2)))
  · exact h.elim

def oMul : F2 := fun x y M Q => match x, y with
  | .d (.int i), .d (.int j) => CMul i j ∧ Q (.int (i * j)) M
  | .d (.list a), .d (.int j) => (-(2 ^ 63) ≤ j ∧ j < 2 ^ 63 ∧ a.length * j.toNat ≤ sizeLine) ∧ Q (.lst (List.replicate j.toNat a).flatten) M
  | _, _ => False
def rMul : R2 := fun x y H Q => rI CMul (fun i j => .int (i * j)) x y H Q ∨ rRep x y H Q
theorem opr_mul {X : Cx} : OpR X (binaryOp .Mult) rMul := op_mul.or op_rep
theorem opl_mul {K : PySem.W.Frag} : OpL K rMul oMul := by
  intro x y t u M B H Q Q' h w rx ry k
  unfold oMul at h
  split at h
  · cases rx
    cases ry
    exact .inl ⟨_, _, rfl, rfl, h.1, k _ _ M B H h.2 w (.refl _ _) (.int _)⟩
  · cases rx with
    | lst e1 q1 =>
      cases ry
      obtain ⟨⟨h1, h2, h3⟩, q⟩ := h
      refine .inr ⟨_, _, _, rfl, rfl, w.le _ _ e1, h1, h2, ?_, fun p hp => ?_⟩
      · rw [RpA.length q1]
        exact h3
      · obtain ⟨w', x'⟩ := w.alloc hp (.lst _)
        exact k _ _ M _ _ q w' x' (.lst upd_same (RpA.mono x'.g (RpA.rep q1 _)))
  · exact h.elim

/-- ==, != -/
def oEq (n : Bool) : F2 := fun x y M Q => match x, y with
  | .d (.str a), .d (.str b) => Q (.bl (if n then !decide (a = b) else decide (a = b))) M
  | _, _ => match now x M, now y M with
    | some a, some b => (SeqAt.shaped a = true ∧ SeqAt.shaped b = true) ∧ Q (.bl (if n then !PyData.eqv a b else PyData.eqv a b)) M
    | _, _ => False
def rEqs (K : PySem.W.Frag) : R2 := fun x y H Q => rEq x y H Q ∨ rEqD K x y H Q
def rNes (K : PySem.W.Frag) : R2 := fun x y H Q => rNe x y H Q ∨ rNeD K x y H Q
theorem dec_str {a b : Str} : decide (V.str a = V.str b) = decide (a = b) := by
  by_cases h : a = b
  · rw [h, decide_eq_true rfl, decide_eq_true rfl]
  · rw [decide_eq_false h, decide_eq_false fun z => h (V.str.inj z)]
theorem opl_eq {K : PySem.W.Frag} : OpL K (rEqs K) (oEq false) := by
  intro x y t u M B H Q Q' h w rx ry k
  unfold oEq at h
  split at h
  · cases rx
    cases ry
    exact .inl ⟨rfl, by rw [dec_str]; exact k _ _ M B H h w (.refl _ _) (.bl _)⟩
  · split at h
    · rename_i a b e1 e2
      exact .inr ⟨a, b, w.dpNow rx e1, w.dpNow ry e2, h.1.1, h.1.2, k _ _ M B H h.2 w (.refl _ _) (.bl _)⟩
    · exact h.elim
theorem opl_ne {K : PySem.W.Frag} : OpL K (rNes K) (oEq true) := by
  intro x y t u M B H Q Q' h w rx ry k
  unfold oEq at h
  split at h
  · cases rx
    cases ry
    exact .inl ⟨rfl, by rw [dec_str]; exact k _ _ M B H h w (.refl _ _) (.bl _)⟩
  · split at h
    · rename_i a b e1 e2
      exact .inr ⟨a, b, w.dpNow rx e1, w.dpNow ry e2, h.1.1, h.1.2, k _ _ M B H h.2 w (.refl _ _) (.bl _)⟩
    · exact h.elim
theorem opr_eq {X : Cx} (hu : X.A.units + 64 < cLine) : OpR X (compareOp .Eq) (rEqs X.K) := op_eq.or (op_eqD hu)
theorem opr_ne {X : Cx} (hu : X.A.units + 64 < cLine) : OpR X (compareOp .NotEq) (rNes X.K) := op_ne.or (op_neD hu)

/-! ### one operand -/
abbrev F1 := T → Mem → Kt → Prop
def mUn (f : F1) (m : Me) : Me := fun τ M Q => m τ M fun x M1 => f x M1 Q
def oNeg : F1 := fun x M Q => match x with
  | .d (.int i) => Q (.int (-i)) M
  | _ => False
section
variable {X : Cx} {a b c e : Expr} {es : List Expr} {ma mb mc m : Me} {pos : Pos}
theorem me_neg (ha : ME X a ma) : ME X (.UnaryOp .USub a pos) (mUn oNeg ma) := PE.of (pe_un un_neg ha) fun σ H Q' ⟨τ, M, B, Q, h, w, s, k⟩ => by
  refine ⟨τ, M, B, _, h, w, s, fun v t M1 B1 H1 h1 w1 e1 r1 => ?_⟩
  unfold oNeg at h1
  split at h1
  · cases r1
    exact ⟨_, rfl, k _ _ M1 B1 H1 h1 w1 e1 (.int _)⟩
  · exact h1.elim

/-! ### tests -/
theorem mb_val (h : ME X e m) (he : ∀ whole, isTrue e X.env whole = (do let v ← whole; standAt e.pos; holding [v] (truthy v)) := by intro _; rfl) : MB X e (mTest m) := PT.of (pt_val h he) fun σ H Q' ⟨τ, M, B, Q, h, w, s, k⟩ => by
  refine ⟨τ, M, B, _, h, w, s, fun v t M1 B1 H1 h1 w1 e1 r1 => ?_⟩
  obtain ⟨b, rfl, q⟩ := h1
  cases r1
  exact ⟨b, rfl, k b M1 B1 H1 q w1 e1⟩
abbrev MW (X : Cx) (e : Expr) (m : Mb) : Prop := PW X e (rB X.K m)
def bAnd (t u : Mb) : Mb := fun τ M Q => t τ M fun b M1 => if b = true then u τ M1 Q else Q false M1
def bOr (t u : Mb) : Mb := fun τ M Q => t τ M fun b M1 => if b = true then Q true M1 else u τ M1 Q
def bNot (t : Mb) : Mb := fun τ M Q => t τ M fun b M1 => Q (!b) M1
variable {ta tb tc : Mb}
theorem MW.toB (h : MW X e ta) : MB X e ta := PW.pt h
theorem mw_and1 (h : MB X a ta) : MW X (.BoolOp .And [a] pos) ta := pw_and1 h
theorem mw_or1 (h : MB X a ta) : MW X (.BoolOp .Or [a] pos) ta := pw_or1 h
theorem mw_and {rest : List Expr} (h : MB X a ta) (g : MW X (.BoolOp .And (b :: rest) pos) tb) : MW X (.BoolOp .And (a :: b :: rest) pos) (bAnd ta tb) := PW.of (pw_and h g) fun σ H Q' ⟨τ, M, B, Q, h, w, s, k⟩ => by
  refine ⟨τ, M, B, _, h, w, s, fun v M1 B1 H1 h1 w1 e1 => ?_⟩
  cases v with
  | true => exact ⟨τ, M1, B1, Q, h1, w1, s.mono e1, fun v M2 B2 H2 h2 w2 e2 => k v M2 B2 H2 h2 w2 (e1.trans e2)⟩
  | false => exact k _ M1 B1 H1 h1 w1 e1
theorem mw_or {rest : List Expr} (h : MB X a ta) (g : MW X (.BoolOp .Or (b :: rest) pos) tb) : MW X (.BoolOp .Or (a :: b :: rest) pos) (bOr ta tb) := PW.of (pw_or h g) fun σ H Q' ⟨τ, M, B, Q, h, w, s, k⟩ => by
  refine ⟨τ, M, B, _, h, w, s, fun v M1 B1 H1 h1 w1 e1 => ?_⟩
  cases v with
  | false => exact ⟨τ, M1, B1, Q, h1, w1, s.mono e1, fun v M2 B2 H2 h2 w2 e2 => k v M2 B2 H2 h2 w2 (e1.trans e2)⟩
  | true => exact k _ M1 B1 H1 h1 w1 e1
theorem mb_not (h : MB X a ta) : MB X (.UnaryOp .Not a pos) (bNot ta) := PT.of (pt_not h) fun σ H Q' ⟨τ, M, B, Q, h, w, s, k⟩ => by
  exact ⟨τ, M, B, _, h, w, s, fun v M1 B1 H1 h1 w1 e1 => k _ M1 B1 H1 h1 w1 e1⟩
/-- and, or, not as values (of bools) -/
def mAnd (x y : Me) : Me := fun τ M Q => x τ M fun t M1 => match t with
  | .d (.bool true) => y τ M1 Q
  | .d (.bool false) => Q (.bl false) M1
  | _ => False
def mOr (x y : Me) : Me := fun τ M Q => x τ M fun t M1 => match t with
  | .d (.bool true) => Q (.bl true) M1
  | .d (.bool false) => y τ M1 Q
  | _ => False
def mNot (x : Me) : Me := fun τ M Q => x τ M fun t M1 => match t with
  | .d (.bool b) => Q (.bl (!b)) M1
  | _ => False
theorem me_one {op : PySem.BoolOp} (h : ME X a ma) : ME X (.BoolOp op [a] pos) ma := pe_one h
theorem me_and {rest : List Expr} (h : ME X a ma) (g : ME X (.BoolOp .And (b :: rest) pos) mb) : ME X (.BoolOp .And (a :: b :: rest) pos) (mAnd ma mb) := PE.of (pe_and h g) fun σ H Q' ⟨τ, M, B, Q, h, w, s, k⟩ => by
  refine ⟨τ, M, B, _, h, w, s, fun v t M1 B1 H1 h1 w1 e1 r1 => ?_⟩
  split at h1
  · cases r1
    exact ⟨true, rfl, ⟨τ, M1, B1, Q, h1, w1, s.mono e1, fun v t M2 B2 H2 h2 w2 e2 => k v t M2 B2 H2 h2 w2 (e1.trans e2)⟩⟩
  · cases r1
    exact ⟨false, rfl, k _ _ M1 B1 H1 h1 w1 e1 (.bl _)⟩
  · exact h1.elim
theorem me_or {rest : List Expr} (h : ME X a ma) (g : ME X (.BoolOp .Or (b :: rest) pos) mb) : ME X (.BoolOp .Or (a :: b :: rest) pos) (mOr ma mb) := PE.of (pe_or h g) fun σ H Q' ⟨τ, M, B, Q, h, w, s, k⟩ => by
  refine ⟨τ, M, B, _, h, w, s, fun v t M1 B1 H1 h1 w1 e1 r1 => ?_⟩
  split at h1
  · cases r1
    exact ⟨true, rfl, k _ _ M1 B1 H1 h1 w1 e1 (.bl _)⟩
  · cases r1
    exact ⟨false, rfl, ⟨τ, M1, B1, Q, h1, w1, s.mono e1, fun v t M2 B2 H2 h2 w2 e2 => k v t M2 B2 H2 h2 w2 (e1.trans e2)⟩⟩
  · exact h1.elim
theorem me_not (h : ME X a ma) : ME X (.UnaryOp .Not a pos) (mNot ma) := PE.of (pe_not h) fun σ H Q' ⟨τ, M, B, Q, h, w, s, k⟩ => by
  refine ⟨τ, M, B, _, h, w, s, fun v t M1 B1 H1 h1 w1 e1 r1 => ?_⟩
  split at h1
  · cases r1
    exact ⟨_, rfl, k _ _ M1 B1 H1 h1 w1 e1 (.bl _)⟩
  · exact h1.elim
def mIte (c : Mb) (x y : Me) : Me := fun τ M Q => c τ M fun b M1 => if b = true then x τ M1 Q else y τ M1 Q
theorem me_ite (hc : MB X c ta) (ha : ME X a ma) (hb : ME X b mb) : ME X (.IfExp c a b pos) (mIte ta ma mb) := PE.of (pe_ifExp hc ha hb) fun σ H Q' ⟨τ, M, B, Q, h, w, s, k⟩ => by
  refine ⟨τ, M, B, _, h, w, s, fun v M1 B1 H1 h1 w1 e1 => ?_⟩
  cases v with
  | true => exact ⟨τ, M1, B1, Q, h1, w1, s.mono e1, fun v t M2 B2 H2 h2 w2 e2 => k v t M2 B2 H2 h2 w2 (e1.trans e2)⟩
  | false => exact ⟨τ, M1, B1, Q, h1, w1, s.mono e1, fun v t M2 B2 H2 h2 w2 e2 => k v t M2 B2 H2 h2 w2 (e1.trans e2)⟩
/-- a op b op' c -/
def mChain (f g : F2) (x y z : Me) : Me := fun τ M Q => x τ M fun a M1 => y τ M1 fun b M2 => f a b M2 fun t M3 => match t with
  | .d (.bool true) => z τ M3 fun c M4 => g b c M4 Q
  | .d (.bool false) => Q (.bl false) M3
  | _ => False
theorem chain_of {K : PySem.W.Frag} {r q : R2} {f g : F2} (h1 : OpL K r f) (h2 : OpL K q g) {σ : L2.St} {H : Hp} {Q' : VK} (h : rE K (mChain f g ma mb mc) σ H Q') : tChain r q (rE K ma) (rE K mb) (rE K mc) σ H Q' := by
  obtain ⟨τ, M, B, Q, h, w, s, k⟩ := h
  refine ⟨τ, M, B, _, h, w, s, fun x t M1 B1 H1 z1 w1 e1 r1 => ⟨τ, M1, B1, _, z1, w1, s.mono e1, fun y u M2 B2 H2 z2 w2 e2 r2 => ?_⟩⟩
  refine h1 x y t u M2 B2 H2 _ _ z2 w2 (Rt.mono e2 r1) r2 fun v t' M3 B3 H3 z3 w3 e3 r3 => ?_
  split at z3
  · cases r3
    refine ⟨true, rfl, ?_⟩
    refine ⟨τ, M3, B3, _, z3, w3, ((s.mono e1).mono e2).mono e3, fun y' u' M4 B4 H4 z4 w4 e4 r4 => ?_⟩
    exact h2 y y' u u' M4 B4 H4 Q Q' z4 w4 (Rt.mono e4 (Rt.mono e3 r2)) r4 fun v t M5 B5 H5 z5 w5 e5 => k v t M5 B5 H5 z5 w5 (((e1.trans e2).trans e3).trans (e4.trans e5))
  · cases r3
    exact ⟨false, rfl, k _ _ M3 B3 H3 z3 w3 ((e1.trans e2).trans e3) (.bl _)⟩
  · exact z3.elim
theorem me_chain {op op' : CmpOp} {r q : R2} {f g : F2} (ho : OpR X (compareOp op) r) (hl : OpL X.K r f) (ho' : OpR X (compareOp op') q) (hl' : OpL X.K q g) (ha : ME X a ma) (hb : ME X b mb) (hc : ME X c mc)
    (hm : lastMarks [op, op'] [b, c] = false := by with_unfolding_all rfl) : ME X (.Compare a [op, op'] [b, c] pos) (mChain f g ma mb mc) := PE.of (pe_chain ho ho' ha hb hc hm) fun _ _ _ h => chain_of hl hl' h
theorem mb_chain {op op' : CmpOp} {r q : R2} {f g : F2} (ho : OpR X (compareOp op) r) (hl : OpL X.K r f) (ho' : OpR X (compareOp op') q) (hl' : OpL X.K q g) (ha : ME X a ma) (hb : ME X b mb) (hc : ME X c mc)
    (hm : lastMarks [op, op'] [b, c] = false := by with_unfolding_all rfl) : MB X (.Compare a [op, op'] [b, c] pos) (mTest (mChain f g ma mb mc)) := PT.of (pt_chain ho ho' ha hb hc hm) fun σ H Q' ⟨τ, M, B, Q, h, w, s, k⟩ => by
  refine chain_of hl hl' ⟨τ, M, B, _, h, w, s, fun v t M' B' H' ⟨k2, e, q⟩ w' e' r' => ?_⟩
  subst e
  cases r'
  exact ⟨k2, rfl, k k2 M' B' H' q w' e'⟩

/-! ### argument lists, displays -/
def aNil : Ma := fun _ M Q => Q [] M
def aCons (m : Me) (r : Ma) : Ma := fun τ M Q => m τ M fun x M1 => r τ M1 fun xs M2 => Q (x :: xs) M2
variable {mr : Ma}
theorem ma_nil : MA X [] aNil := PA.of pa_nil fun σ H Q' ⟨τ, M, B, Q, h, w, s, k⟩ => k _ _ M B H h w (.refl _ _) .nil
theorem ma_cons (ha : ME X e m) (hr : MA X es mr) (hs : starEach (e :: es) X.env = (false, eval e X.env) :: starEach es X.env := by rfl) : MA X (e :: es) (aCons m mr) := PA.of (pa_cons ha hr hs) fun σ H Q' ⟨τ, M, B, Q, h, w, s, k⟩ => by
  refine ⟨τ, M, B, _, h, w, s, fun v t M1 B1 H1 h1 w1 e1 r1 => ⟨τ, M1, B1, _, h1, w1, s.mono e1, fun v2 t2 M2 B2 H2 h2 w2 e2 r2 => ?_⟩⟩
  exact k _ _ M2 B2 H2 h2 w2 (e1.trans e2) (.cons (Rt.mono e2 r1) r2)
def mTup (r : Ma) : Me := fun τ M Q => r τ M fun ts M1 => match datas ts with
  | some ds => ds.length ≤ sizeLine ∧ Q (.tup ds) M1
  | none => False
def mLst (r : Ma) : Me := fun τ M Q => r τ M fun ts M1 => match datas ts with
  | some ds => ds.length ≤ sizeLine ∧ Q (.lst ds) M1
  | none => False
/-- a list display that the frame changes itself -/
def mNewL (r : Ma) : Me := fun τ M Q => r τ M fun ts M1 => match datas ts with
  | some ds => ds.length ≤ sizeLine ∧ Q (.lr M1.L.length) { M1 with L := M1.L ++ [some ds] }
  | none => False
theorem me_tup {x1 : Nat} (h : MA X es mr) : ME X (.Tuple es x1 pos) (mTup mr) := PE.of (pe_tupC h) fun σ H Q' ⟨τ, M, B, Q, h, w, s, k⟩ => by
  refine ⟨τ, M, B, _, h, w, s, fun v t M1 B1 H1 h1 w1 e1 r1 => ?_⟩
  split at h1
  · rename_i ds hd
    have q := datas_rpa r1 hd
    refine ⟨by rw [RpA.length q]; exact h1.1, fun p o hp ho => ?_⟩
    obtain ⟨w2, e2⟩ := w1.alloc hp (.frz o (.tup v))
    exact k _ _ M1 _ _ h1.2 w2 (e1.trans e2) (.tup (.inl ⟨o, upd_same, ho⟩) (RpA.mono e2.g q))
  · exact h1.elim
theorem me_lst (h : MA X es mr) : ME X (.List es pos) (mLst mr) := PE.of (pe_lst h) fun σ H Q' ⟨τ, M, B, Q, h, w, s, k⟩ => by
  refine ⟨τ, M, B, _, h, w, s, fun v t M1 B1 H1 h1 w1 e1 r1 => ?_⟩
  split at h1
  · rename_i ds hd
    have q := datas_rpa r1 hd
    refine ⟨by rw [RpA.length q]; exact h1.1, fun p hp => ?_⟩
    obtain ⟨w2, e2⟩ := w1.alloc hp (.lst v)
    exact k _ _ M1 _ _ h1.2 w2 (e1.trans e2) (.lst upd_same (RpA.mono e2.g q))
  · exact h1.elim
theorem get_snoc {α : Type} {l : List α} {a : α} : (l ++ [a])[l.length]? = some a := by
  rw [List.getElem?_append_right (Nat.le_refl _), Nat.sub_self]
  rfl
theorem me_newL (h : MA X es mr) : ME X (.List es pos) (mNewL mr) := PE.of (pe_lst h) fun σ H Q' ⟨τ, M, B, Q, h, w, s, k⟩ => by
  refine ⟨τ, M, B, _, h, w, s, fun v t M1 B1 H1 h1 w1 e1 r1 => ?_⟩
  split at h1
  · rename_i ds hd
    have q := datas_rpa r1 hd
    refine ⟨by rw [RpA.length q]; exact h1.1, fun p hp => ?_⟩
    obtain ⟨w2, e2⟩ := w1.newL hp q
    exact k _ _ _ _ _ h1.2 w2 (e1.trans e2) ⟨p, rfl, by rw [← w1.llen]; exact get_snoc⟩
  · exact h1.elim
/-- a list that is the frame's own, from a list that never changes again (list(..), [.. for ..]): no -/
def mFrz (m : Me) : Me := fun τ M Q => m τ M fun t M1 => match t with
  | .lr i => (match M1.L[i]? with
    | some (some ds) => Q (.lst ds) { M1 with L := M1.L.set i none }
    | _ => False)
  | t => Q t M1
theorem me_frz (h : ME X e m) : ME X e (mFrz m) := PE.of h fun σ H Q' ⟨τ, M, B, Q, h, w, s, k⟩ => by
  refine ⟨τ, M, B, _, h, w, s, fun v t M1 B1 H1 h1 w1 e1 r1 => ?_⟩
  split at h1
  · split at h1
    · rename_i hL
      obtain ⟨a, rfl, ha⟩ := r1
      obtain ⟨B2, w2, e2, r2⟩ := w1.freeze ha hL
      exact k _ _ _ _ _ h1 w2 (e1.trans e2) r2
    · exact h1.elim
  · exact k _ _ M1 B1 H1 h1 w1 e1 r1
end
end L3

set_option Elab.async false
set_option linter.all false
set_option maxRecDepth 100000
namespace L3
open PySem PySem.Spec L2

/-! ### by place -/
theorem atI_of {α β : Type} {xs : List α} {ys : List β} {i : Int} {y : β} (hl : xs.length = ys.length) (e : atI ys i = some y) : ∃ j, ixN xs.length i = some j ∧ ixN ys.length i = some j ∧ ys[j]? = some y := by
  unfold atI at e
  cases h : ixN ys.length i with
  | none => rw [h] at e; cases e
  | some j =>
    rw [h] at e
    exact ⟨j, by rw [hl]; exact h, rfl, e⟩
theorem RpA.atI {K : PySem.W.Frag} {G : Hp} {xs : List V} {ds : List PyData} {i : Int} {d : PyData} (r : RpA K G xs ds) (e : L2.atI ds i = some d) : ∃ u, L2.atI xs i = some u ∧ Rp K G u d := by
  obtain ⟨j, h1, _, h3⟩ := atI_of (RpA.length r) e
  obtain ⟨u, h4, h5⟩ := RpA.get r h3
  exact ⟨u, by unfold L2.atI; rw [h1]; exact h4, h5⟩
theorem paired_len {α β : Type} {F : α → β → Prop} {l : List α} {m : List β} (h : Paired F l m) : l.length = m.length := by
  induction h with
  | nil => rfl
  | cons _ _ ih => rw [List.length_cons, List.length_cons, ih]
theorem paired_get {α β : Type} {F : α → β → Prop} {l : List α} {m : List β} (h : Paired F l m) : ∀ {i : Nat} {y : β}, m[i]? = some y → ∃ x, l[i]? = some x ∧ F x y := by
  induction h with
  | nil => intro i y e; simp at e
  | cons p _ ih =>
    intro i y e
    cases i with
    | zero => simp at e; subst e; exact ⟨_, rfl, p⟩
    | succ i => exact ih e
theorem paired_atI {α β : Type} {F : α → β → Prop} {l : List α} {m : List β} {i : Int} {y : β} (h : Paired F l m) (e : L2.atI m i = some y) : ∃ u, L2.atI l i = some u ∧ F u y := by
  obtain ⟨j, h1, _, h3⟩ := atI_of (paired_len h) e
  obtain ⟨u, h4, h5⟩ := paired_get h h3
  exact ⟨u, by unfold L2.atI; rw [h1]; exact h4, h5⟩
def oIx : F2 := fun x y M Q => match x, y with
  | .d (.list xs), .d (.int j) => ∃ t, atI xs j = some t ∧ Q (.d t) M
  | .d (.tuple xs), .d (.int j) => ∃ t, atI xs j = some t ∧ Q (.d t) M
  | .lr i, .d (.int j) => (match M.L[i]? with
    | some (some xs) => ∃ t, atI xs j = some t ∧ Q (.d t) M
    | _ => False)
  | .mr i, .d (.int j) => (match M.D[i]? with
    | some (.lst ts) => ∃ t, atI ts j = some t ∧ Q t M
    | _ => False)
  | _, _ => False
def rIx2 (K : PySem.W.Frag) : R2 := fun x y H Q => rIxL K x y H Q ∨ rIxT K x y H Q
theorem ixr {X : Cx} : IxR X (rIx2 X.K) := ix_list.or ix_tup
theorem opl_ix {K : PySem.W.Frag} : OpL K (rIx2 K) oIx := by
  intro x y t u M B H Q Q' h w rx ry k
  unfold oIx at h
  split at h
  · cases ry
    cases rx with
    | lst e q =>
      obtain ⟨d, h1, h2⟩ := h
      obtain ⟨v, h3, h4⟩ := RpA.atI q h1
      exact .inl ⟨_, _, _, v, rfl, rfl, .of (w.le _ _ e), h3, k _ _ M B H h2 w (.refl _ _) h4⟩
  · cases ry
    cases rx with
    | tup e q =>
      obtain ⟨d, h1, h2⟩ := h
      obtain ⟨v, h3, h4⟩ := RpA.atI q h1
      exact .inr ⟨_, _, _, v, rfl, rfl, SqT.mono w.le e, h3, k _ _ M B H h2 w (.refl _ _) h4⟩
  · split at h
    · rename_i hL
      cases ry
      obtain ⟨a, rfl, ha⟩ := rx
      obtain ⟨_, vs, e, q⟩ := w.lc _ _ _ ha hL
      obtain ⟨d, h1, h2⟩ := h
      obtain ⟨v, h3, h4⟩ := RpA.atI q h1
      exact .inl ⟨_, _, _, v, rfl, rfl, .of e, h3, k _ _ M B H h2 w (.refl _ _) h4⟩
    · exact h.elim
  · split at h
    · rename_i hD
      cases ry
      obtain ⟨a, rfl, ha⟩ := rx
      obtain ⟨_, vs, e, q⟩ := w.dc _ _ _ ha hD
      obtain ⟨d, h1, h2⟩ := h
      obtain ⟨v, h3, h4⟩ := paired_atI q h1
      refine .inl ⟨_, _, _, v, rfl, rfl, .of e, h3, k _ _ M B H h2 w (.refl _ _) ?_⟩
      exact Rt.mono' (B := { B with l := [] }) (B' := B) (fun _ _ e => e) (List.prefix_refl _) (List.nil_prefix) h4
    · exact h.elim
  · exact h.elim
section
variable {X : Cx} {a b c e : Expr} {es : List Expr} {ma mb mc m : Me} {pos : Pos} {mr : Ma}
theorem me_ix (ha : ME X a ma) (hb : ME X b mb) (hs : PlainIx b) : ME X (.Subscript a b pos) (mOp oIx ma mb) := PE.of (pe_ix ixr ha hb hs) fun _ _ _ h => two opl_ix h

/-! ### slices -/
def cutT {α : Type} (xs : List α) (lo hi : Option Int) : List α := (xs.drop (HT.sIx xs.length 0 lo)).take (HT.sIx xs.length xs.length hi - HT.sIx xs.length 0 lo)
theorem RpA.cut {K : PySem.W.Frag} {G : Hp} {xs : List V} {ds : List PyData} {lo hi : Option Int} (r : RpA K G xs ds) : RpA K G (cutV xs lo hi) (cutT ds lo hi) := by
  unfold cutV cutT
  rw [RpA.length r]
  exact RpA.take _ (RpA.drop _ r)
theorem cut_map {α β : Type} (f : α → β) (xs : List α) (lo hi : Option Int) : cutT (xs.map f) lo hi = (cutT xs lo hi).map f := by
  unfold cutT
  rw [List.length_map, List.map_take, List.map_drop]
theorem cutT_all {α : Type} {xs : List α} {lo hi : Option Int} (h : HT.sIx xs.length 0 lo = 0 ∧ HT.sIx xs.length xs.length hi = xs.length) : cutT xs lo hi = xs := by
  unfold cutT
  rw [h.1, h.2, List.drop_zero, Nat.sub_zero, List.take_length]
abbrev Mo := En → Mem → (Option Int → Mem → Prop) → Prop
def rO (K : PySem.W.Frag) (m : Mo) : TO := fun σ H Q' => ∃ τ M B Q, m τ M Q ∧ Wd K B M H ∧ Sl K B σ τ ∧ ∀ b M' B' H', Q b M' → Wd K B' M' H' → Ext B H B' H' → Q' b H'
theorem PO.of {e : Option Expr} {t t' : TO} (h : PO X e t) (w : ∀ σ H Q, t' σ H Q → t σ H Q) : PO X e t' := ⟨fun _ _ _ _ _ iv q => h.run _ _ _ _ _ iv (w _ _ _ q)⟩
def oNone : Mo := fun _ M Q => Q none M
def oPart (m : Me) : Mo := fun τ M Q => m τ M fun t M1 => match t with
  | .d (.int i) => Q (some i) M1
  | _ => False
theorem mo_none : PO X none (rO X.K oNone) := PO.of po_none fun σ H Q' ⟨τ, M, B, Q, h, w, s, k⟩ => k _ M B H h w (.refl _ _)
theorem mo_some (h : ME X e m) : PO X (some e) (rO X.K (oPart m)) := PO.of (po_some h) fun σ H Q' ⟨τ, M, B, Q, h, w, s, k⟩ => by
  refine ⟨τ, M, B, _, h, w, s, fun v t M1 B1 H1 h1 w1 e1 r1 => ?_⟩
  split at h1
  · cases r1
    exact ⟨_, rfl, k _ M1 B1 H1 h1 w1 e1⟩
  · exact h1.elim
def oSl (x : T) (lo hi : Option Int) (M : Mem) (Q : Kt) : Prop := match x with
  | .d (.list xs) => Q (.lst (cutT xs lo hi)) M
  | .d (.tuple xs) => Q (.tup (cutT xs lo hi)) M
  | .scr ns => Q (.lst ((cutT ns lo hi).map .int)) M
  | .lr i => (match M.L[i]? with
    | some (some xs) => Q (.lst (cutT xs lo hi)) M
    | _ => False)
  | _ => False
def mSl (m : Me) (lo hi : Mo) : Me := fun τ M Q => m τ M fun x M1 => lo τ M1 fun l M2 => hi τ M2 fun u M3 => oSl x l u M3 Q
theorem me_slice {lo hi : Option Expr} {ml mh : Mo} {p2 : Pos} (he : ME X e m) (hl : PO X lo (rO X.K ml)) (hu : PO X hi (rO X.K mh)) : ME X (.Subscript e (.Slice lo hi none p2) pos) (mSl m ml mh) := by
  refine PE.of (pe_slice (sl_list.or sl_tupC) he hl hu) fun σ H Q' ⟨τ, M, B, Q, h, w, s, k⟩ => ?_
  refine ⟨τ, M, B, _, h, w, s, fun v t M1 B1 H1 h1 w1 e1 r1 => ⟨τ, M1, B1, _, h1, w1, s.mono e1, fun l M2 B2 H2 h2 w2 e2 => ⟨τ, M2, B2, _, h2, w2, (s.mono e1).mono e2, fun u M3 B3 H3 h3 w3 e3 => ?_⟩⟩⟩
  have e123 := e1.trans (e2.trans e3)
  have r3 := Rt.mono e3 (Rt.mono e2 r1)
  unfold oSl at h3
  split at h3
  · cases r3 with
    | lst e q =>
      refine .inl ⟨_, _, rfl, .of (w3.le _ _ e), fun p hp => ?_⟩
      obtain ⟨w4, e4⟩ := w3.alloc hp (.lst _)
      exact k _ _ M3 _ _ h3 w4 (e123.trans e4) (.lst upd_same (RpA.mono e4.g (RpA.cut q)))
  · cases r3 with
    | tup e q =>
      refine .inr ⟨_, _, rfl, SqT.mono w3.le e, fun z => ?_, fun _ p o hp ho => ?_⟩
      · have z' := z
        rw [RpA.length q] at z'
        rw [cutT_all z'] at h3
        exact k _ _ M3 B3 H3 h3 w3 e123 (.tup e q)
      · obtain ⟨w4, e4⟩ := w3.alloc hp (.frz o (.tup _))
        exact k _ _ M3 _ _ h3 w4 (e123.trans e4) (.tup (.inl ⟨o, upd_same, ho⟩) (RpA.mono e4.g (RpA.cut q)))
  · obtain ⟨a, rfl, e⟩ := r3
    refine .inl ⟨_, _, rfl, SqL.mono w3.le e, fun p hp => ?_⟩
    obtain ⟨w4, e4⟩ := w3.alloc hp (.lst _)
    refine k _ _ M3 _ _ h3 w4 (e123.trans e4) (.lst upd_same ?_)
    rw [← cut_map]
    exact RpA.cut (RpA.of_ints _)
  · split at h3
    · rename_i hL
      obtain ⟨a, rfl, ha⟩ := r3
      obtain ⟨_, vs, e, q⟩ := w3.lc _ _ _ ha hL
      refine .inl ⟨_, _, rfl, .of e, fun p hp => ?_⟩
      obtain ⟨w4, e4⟩ := w3.alloc hp (.lst _)
      exact k _ _ M3 _ _ h3 w4 (e123.trans e4) (.lst upd_same (RpA.mono e4.g (RpA.cut q)))
    · exact h3.elim
  · exact h3.elim

/-! ### built-ins -/
abbrev FA := List T → Mem → Kt → Prop
def CaL (K : PySem.W.Frag) (r : List V → Hp → VK → Prop) (f : FA) : Prop := ∀ xs ts M B H Q Q', f ts M Q → Wd K B M H → Paired (Rt K B) xs ts →
  (∀ v t' M' B' H', Q t' M' → Wd K B' M' H' → Ext B H B' H' → Rt K B' v t' → Q' v H') → r xs H Q'
def mCall (f : FA) (r : Ma) : Me := fun τ M Q => r τ M fun ts M1 => f ts M1 Q
theorem call_of {K : PySem.W.Frag} {r : List V → Hp → VK → Prop} {f : FA} (hl : CaL K r f) {σ : L2.St} {H : Hp} {Q' : VK} (h : rE K (mCall f mr) σ H Q') : tCB r (rA K mr) σ H Q' := by
  obtain ⟨τ, M, B, Q, h, w, s, k⟩ := h
  exact ⟨τ, M, B, _, h, w, s, fun v t M1 B1 H1 h1 w1 e1 r1 => hl v t M1 B1 H1 Q Q' h1 w1 r1 fun v t M2 B2 H2 h2 w2 e2 => k v t M2 B2 H2 h2 w2 (e1.trans e2)⟩
theorem me_callB {x : Str} {p : Pos} {id : String} {r : List V → Hp → VK → Prop} {f : FA} (hc : CallR X (.builtin id) r) (hl : CaL X.K r f) (hg : Gl X x) (hm : X.mg x = none) (hv : bootBuiltins x = some (.builtin id)) (ha : MA X (e :: es) mr) (hn : x ≠ "__name__" := by decide) (hdb : (x == ("__debug__" : Str)) = false := by decide)
    (he : starEach (e :: es) X.env = (false, eval e X.env) :: starEach es X.env := by rfl) (hpl : (backTo pos (starEach es X.env)).any (·.1) = false := by rfl) : ME X (.Call (.Name x p) (e :: es) [] pos) (mCall f mr) := PE.of (pe_callB hc hg hm hv ha hn hdb he hpl) fun _ _ _ h => call_of hl h
theorem me_callTy {x : Str} {p : Pos} {id : String} {r : List V → Hp → VK → Prop} {f : FA} (hc : CallR X (.type id) r) (hl : CaL X.K r f) (hg : Gl X x) (hm : X.mg x = none) (hv : bootBuiltins x = some (.type id)) (ha : MA X (e :: es) mr) (hn : x ≠ "__name__" := by decide) (hdb : (x == ("__debug__" : Str)) = false := by decide)
    (he : starEach (e :: es) X.env = (false, eval e X.env) :: starEach es X.env := by rfl) (hpl : (backTo pos (starEach es X.env)).any (·.1) = false := by rfl) : ME X (.Call (.Name x p) (e :: es) [] pos) (mCall f mr) := PE.of (pe_callTy hc hg hm hv ha hn hdb he hpl) fun _ _ _ h => call_of hl h
end
section
variable {K : PySem.W.Frag}
theorem paired_one {F : V → T → Prop} {xs : List V} {t : T} (h : Paired F xs [t]) : ∃ v, xs = [v] ∧ F v t := by
  cases h with
  | cons p q =>
    cases q
    exact ⟨_, rfl, p⟩
theorem paired_two {F : V → T → Prop} {xs : List V} {t u : T} (h : Paired F xs [t, u]) : ∃ v w, xs = [v, w] ∧ F v t ∧ F w u := by
  cases h with
  | cons p q =>
    obtain ⟨w, rfl, r⟩ := paired_one q
    exact ⟨_, _, rfl, p, r⟩
theorem now_flat {t : T} {M : Mem} {x : PyData} (e : now t M = some x) : t = .d x ∨ ∃ xs, x = .list xs := by
  cases t with
  | d y => cases e; exact .inl rfl
  | lr i =>
    have e' : (match M.L[i]? with | some (some ds) => some (PyData.list ds) | _ => none) = some x := e
    split at e'
    · cases e'; exact .inr ⟨_, rfl⟩
    · cases e'
  | mr i =>
    have e' : (match M.D[i]? with | some (.lst ts) => (datas ts).map PyData.list | _ => none) = some x := e
    split at e'
    · rename_i ts _
      cases q : datas ts with
      | none => rw [q] at e'; cases e'
      | some ds => rw [q] at e'; cases e'; exact .inr ⟨_, rfl⟩
    · cases e'
  | scr ns => cases e; exact .inr ⟨_, rfl⟩
  | wt xs => cases e
  | exo a c d e' => cases e
/-- the list or the tuple that a value is now -/
theorem Wd.seq {B : Bk} {M : Mem} {H : Hp} (w : Wd K B M H) {v : V} {t : T} (r : Rt K B v t) :
    (∀ xs, now t M = some (.list xs) → ∃ p ys, v = .ref p ∧ SqL K H p ys ∧ RpA K B.G ys xs) ∧ (∀ xs, now t M = some (.tuple xs) → ∃ p ys, v = .ref p ∧ SqT K H p ys ∧ RpA K B.G ys xs) := by
  refine ⟨fun xs e => ?_, fun xs e => ?_⟩
  · cases t with
    | d y =>
      cases e
      cases r with
      | lst e q => exact ⟨_, _, rfl, .of (w.le _ _ e), q⟩
    | lr i =>
      obtain ⟨a, rfl, ha⟩ := r
      unfold now at e
      cases h : M.L[i]? with
      | none => simp [h] at e
      | some o =>
        cases o with
        | none => simp [h] at e
        | some ds =>
          simp only [h] at e
          cases e
          obtain ⟨_, vs, h1, h2⟩ := w.lc i a _ ha h
          exact ⟨_, _, rfl, .of h1, h2⟩
    | mr i =>
      obtain ⟨a, rfl, ha⟩ := r
      unfold now at e
      cases h : M.D[i]? with
      | none => simp [h] at e
      | some o =>
        cases o with
        | dct _ => simp [h] at e
        | dnk _ => simp [h] at e
        | lst ts =>
          simp only [h] at e
          cases q : datas ts with
          | none => rw [q] at e; cases e
          | some ds =>
            rw [q] at e
            cases e
            obtain ⟨_, vs, h1, h2⟩ := w.dc i a _ ha h
            exact ⟨_, _, rfl, .of h1, datas_rpa (B := { B with l := [] }) h2 q⟩
    | scr ns =>
      obtain ⟨a, rfl, ha⟩ := r
      cases e
      exact ⟨_, _, rfl, SqL.mono w.le ha, RpA.of_ints ns⟩
    | wt xs => cases e
    | exo a c d e' => cases e
  · rcases now_flat e with z | ⟨ys, z⟩
    · subst z
      cases r with
      | tup e q => exact ⟨_, _, rfl, SqT.mono w.le e, q⟩
    · cases z
/-- len -/
def fLen : FA := fun ts M Q => match ts with
  | [t] => (match now t M with
    | some (.list xs) => Q (.int xs.length) M
    | some (.tuple xs) => Q (.int xs.length) M
    | some (.str z) => z.length ≤ sizeLine ∧ Q (.int z.length) M
    | _ => False)
  | _ => False
def rLen (K : PySem.W.Frag) : List V → Hp → VK → Prop := fun xs H Q => (∃ p ys, xs = [.ref p] ∧ (SqL K H p ys ∨ SqT K H p ys) ∧ Q (.int ys.length) H) ∨ (∃ z, xs = [.str z] ∧ z.length ≤ sizeLine ∧ Q (.int z.length) H)
theorem cr_len {X : Cx} : CallR X (.builtin "len") (rLen X.K) := call_len_seq.or call_len_str
theorem cal_len : CaL K (rLen K) fLen := by
  intro xs ts M B H Q Q' h w r k
  unfold fLen at h
  split at h
  · obtain ⟨v, rfl, r1⟩ := paired_one r
    split at h
    · rename_i e
      obtain ⟨p, ys, rfl, h1, h2⟩ := (w.seq r1).1 _ e
      refine .inl ⟨p, ys, rfl, .inl h1, ?_⟩
      rw [RpA.length h2]
      exact k _ _ M B H h w (.refl _ _) (.int _)
    · rename_i e
      obtain ⟨p, ys, rfl, h1, h2⟩ := (w.seq r1).2 _ e
      refine .inl ⟨p, ys, rfl, .inr h1, ?_⟩
      rw [RpA.length h2]
      exact k _ _ M B H h w (.refl _ _) (.int _)
    · rename_i z e
      rcases now_flat e with y | ⟨ys, y⟩
      · subst y
        cases r1
        exact .inr ⟨_, rfl, h.1, k _ _ M B H h.2 w (.refl _ _) (.int _)⟩
      · cases y
    · exact h.elim
  · exact h.elim
/-- tuple(..) -/
def fTuple : FA := fun ts M Q => match ts with
  | [t] => (match now t M with
    | some (.list xs) => Q (.tup xs) M
    | some (.tuple xs) => Q (.tup xs) M
    | _ => False)
  | _ => False
def rTuple (K : PySem.W.Frag) : List V → Hp → VK → Prop := fun xs H Q => ∃ p ys, xs = [.ref p] ∧ ((SqL K H p ys ∧ ∀ (l : Addr) (o : Obj), H l = none → o.dict = none → Q (.ref l) (upd H l (.frz o (.tup ys)))) ∨ (SqT K H p ys ∧ Q (.ref p) H))
theorem now_tup {t : T} {M : Mem} {xs : List PyData} (e : now t M = some (.tuple xs)) : t = .d (.tuple xs) := by
  rcases now_flat e with z | ⟨ys, z⟩
  · exact z
  · cases z
theorem cal_tuple : CaL K (rTuple K) fTuple := by
  intro xs ts M B H Q Q' h w r k
  unfold fTuple at h
  split at h
  · obtain ⟨v, rfl, r1⟩ := paired_one r
    split at h
    · rename_i e
      obtain ⟨p, ys, rfl, h1, h2⟩ := (w.seq r1).1 _ e
      refine ⟨p, ys, rfl, .inl ⟨h1, fun l o hl ho => ?_⟩⟩
      obtain ⟨w4, e4⟩ := w.alloc hl (.frz o (.tup ys))
      exact k _ _ M _ _ h w4 e4 (.tup (.inl ⟨o, upd_same, ho⟩) (RpA.mono e4.g h2))
    · rename_i e
      have e0 := now_tup e
      subst e0
      obtain ⟨p, ys, rfl, h1, h2⟩ := (w.seq r1).2 _ e
      exact ⟨p, ys, rfl, .inr ⟨h1, k _ _ M B H h w (.refl _ _) r1⟩⟩
    · exact h.elim
  · exact h.elim
/-- list(..) that never changes again; that is the frame's own -/
def fList : FA := fun ts M Q => match ts with
  | [t] => (match now t M with
    | some (.list xs) => Q (.lst xs) M
    | some (.tuple xs) => Q (.lst xs) M
    | _ => False)
  | _ => False
def fListL : FA := fun ts M Q => match ts with
  | [t] => (match now t M with
    | some (.list xs) => Q (.lr M.L.length) { M with L := M.L ++ [some xs] }
    | some (.tuple xs) => Q (.lr M.L.length) { M with L := M.L ++ [some xs] }
    | _ => False)
  | _ => False
def rList (K : PySem.W.Frag) : List V → Hp → VK → Prop := fun xs H Q => ∃ p ys, xs = [.ref p] ∧ (SqL K H p ys ∨ SqT K H p ys) ∧ ∀ l, H l = none → Q (.ref l) (upd H l (.lst ys))
theorem cal_list : CaL K (rList K) fList := by
  intro xs ts M B H Q Q' h w r k
  unfold fList at h
  split at h
  · obtain ⟨v, rfl, r1⟩ := paired_one r
    split at h
    · rename_i e
      obtain ⟨p, ys, rfl, h1, h2⟩ := (w.seq r1).1 _ e
      refine ⟨p, ys, rfl, .inl h1, fun l hl => ?_⟩
      obtain ⟨w4, e4⟩ := w.alloc hl (.lst ys)
      exact k _ _ M _ _ h w4 e4 (.lst upd_same (RpA.mono e4.g h2))
    · rename_i e
      obtain ⟨p, ys, rfl, h1, h2⟩ := (w.seq r1).2 _ e
      refine ⟨p, ys, rfl, .inr h1, fun l hl => ?_⟩
      obtain ⟨w4, e4⟩ := w.alloc hl (.lst ys)
      exact k _ _ M _ _ h w4 e4 (.lst upd_same (RpA.mono e4.g h2))
    · exact h.elim
  · exact h.elim
theorem cal_listL : CaL K (rList K) fListL := by
  intro xs ts M B H Q Q' h w r k
  unfold fListL at h
  split at h
  · obtain ⟨v, rfl, r1⟩ := paired_one r
    split at h
    · rename_i e
      obtain ⟨p, ys, rfl, h1, h2⟩ := (w.seq r1).1 _ e
      refine ⟨p, ys, rfl, .inl h1, fun l hl => ?_⟩
      obtain ⟨w4, e4⟩ := w.newL hl h2
      exact k _ _ _ _ _ h w4 e4 ⟨l, rfl, by rw [← w.llen]; exact get_snoc⟩
    · rename_i e
      obtain ⟨p, ys, rfl, h1, h2⟩ := (w.seq r1).2 _ e
      refine ⟨p, ys, rfl, .inr h1, fun l hl => ?_⟩
      obtain ⟨w4, e4⟩ := w.newL hl h2
      exact k _ _ _ _ _ h w4 e4 ⟨l, rfl, by rw [← w.llen]; exact get_snoc⟩
    · exact h.elim
  · exact h.elim
/-- all ints -/
def intsOf : List PyData → Option (List Int)
  | [] => some []
  | .int i :: r => (intsOf r).map (i :: ·)
  | _ :: _ => none
theorem intsOf_eq : ∀ {ds : List PyData} {ns : List Int}, intsOf ds = some ns → ds = ns.map .int
  | [], _, e => by cases e; rfl
  | .int i :: r, ns, e => by
    unfold intsOf at e
    cases h : intsOf r with
    | none => rw [h] at e; cases e
    | some l =>
      rw [h] at e
      cases e
      rw [intsOf_eq h]
      rfl
  | .none :: _, _, e => by cases e
  | .bool _ :: _, _, e => by cases e
  | .str _ :: _, _, e => by cases e
  | .list _ :: _, _, e => by cases e
  | .tuple _ :: _, _, e => by cases e
  | .dict _ :: _, _, e => by cases e
theorem intsOf_map : ∀ ns : List Int, intsOf (ns.map .int) = some ns
  | [] => rfl
  | n :: r => by
    show (intsOf (r.map .int)).map (n :: ·) = _
    rw [intsOf_map r]
    rfl
/-- the ints of a list now -/
def nowI (t : T) (M : Mem) : Option (List Int) := match now t M with
  | some (.list xs) => intsOf xs
  | _ => none
theorem Wd.nowIs {B : Bk} {M : Mem} {H : Hp} (w : Wd K B M H) {v : V} {t : T} (r : Rt K B v t) {ns : List Int} (e : nowI t M = some ns) : ∃ p, v = .ref p ∧ SqL K H p (ns.map V.int) := by
  unfold nowI at e
  split at e
  · rename_i xs hx
    obtain ⟨p, ys, rfl, h1, h2⟩ := (w.seq r).1 _ hx
    rw [intsOf_eq e] at h2
    rw [RpA.ints h2] at h1
    exact ⟨p, rfl, h1⟩
  · cases e
def fMax : FA := fun ts M Q => match ts with
  | [.d (.int i), .d (.int j)] => Q (.int (if j > i then j else i)) M
  | [t] => (match nowI t M with
    | some ns => 0 < ns.length ∧ ∀ m, m ∈ ns → (∀ y, y ∈ ns → y ≤ m) → Q (.int m) M
    | none => False)
  | _ => False
def fMin : FA := fun ts M Q => match ts with
  | [.d (.int i), .d (.int j)] => Q (.int (if j < i then j else i)) M
  | [t] => (match nowI t M with
    | some ns => 0 < ns.length ∧ ∀ m, m ∈ ns → (∀ y, y ∈ ns → m ≤ y) → Q (.int m) M
    | none => False)
  | _ => False
def rMax2 (K : PySem.W.Frag) : List V → Hp → VK → Prop := fun xs H Q => (∃ i j, xs = [.int i, .int j] ∧ Q (.int (if j > i then j else i)) H) ∨ rMax K xs H Q
def rMin2 (K : PySem.W.Frag) : List V → Hp → VK → Prop := fun xs H Q => (∃ i j, xs = [.int i, .int j] ∧ Q (.int (if j < i then j else i)) H) ∨ rMin K xs H Q
theorem crl_max {X : Cx} (hc : X.calm = true) : CallR X (.builtin "max") (rMax2 X.K) := (call_max2 hc).or (cr_max hc)
theorem crl_min {X : Cx} (hc : X.calm = true) : CallR X (.builtin "min") (rMin2 X.K) := (call_min2 hc).or (cr_min hc)
theorem cal_max : CaL K (rMax2 K) fMax := by
  intro xs ts M B H Q Q' h w r k
  unfold fMax at h
  split at h
  · obtain ⟨v, u, rfl, r1, r2⟩ := paired_two r
    cases r1
    cases r2
    exact .inl ⟨_, _, rfl, k _ _ M B H h w (.refl _ _) (.int _)⟩
  · obtain ⟨v, rfl, r1⟩ := paired_one r
    split at h
    · rename_i ns e
      obtain ⟨p, rfl, h1⟩ := w.nowIs r1 e
      exact .inr ⟨p, ns, rfl, h1, h.1, fun m m1 m2 => k _ _ M B H (h.2 m m1 m2) w (.refl _ _) (.int _)⟩
    · exact h.elim
  · exact h.elim
theorem cal_min : CaL K (rMin2 K) fMin := by
  intro xs ts M B H Q Q' h w r k
  unfold fMin at h
  split at h
  · obtain ⟨v, u, rfl, r1, r2⟩ := paired_two r
    cases r1
    cases r2
    exact .inl ⟨_, _, rfl, k _ _ M B H h w (.refl _ _) (.int _)⟩
  · obtain ⟨v, rfl, r1⟩ := paired_one r
    split at h
    · rename_i ns e
      obtain ⟨p, rfl, h1⟩ := w.nowIs r1 e
      exact .inr ⟨p, ns, rfl, h1, h.1, fun m m1 m2 => k _ _ M B H (h.2 m m1 m2) w (.refl _ _) (.int _)⟩
    · exact h.elim
  · exact h.elim
def fSum : FA := fun ts M Q => match ts with
  | [t] => (match nowI t M with
    | some ns => Q (.int ns.sum) M
    | none => False)
  | _ => False
theorem cal_sum : CaL K (rSum K) fSum := by
  intro xs ts M B H Q Q' h w r k
  unfold fSum at h
  split at h
  · obtain ⟨v, rfl, r1⟩ := paired_one r
    split at h
    · rename_i ns e
      obtain ⟨p, rfl, h1⟩ := w.nowIs r1 e
      exact ⟨p, ns, rfl, h1, k _ _ M B H h w (.refl _ _) (.int _)⟩
    · exact h.elim
  · exact h.elim
def fInt : FA := fun ts M Q => match ts with
  | [.d (.int i)] => Q (.int i) M
  | [.d (.bool b)] => Q (.int (if b then 1 else 0)) M
  | _ => False
theorem cal_int : CaL K (fun xs H Q => (∃ i, xs = [V.int i] ∧ Q (.int i) H) ∨ ∃ k, xs = [V.bl k] ∧ Q (.int (if k then 1 else 0)) H) fInt := by
  intro xs ts M B H Q Q' h w r k
  unfold fInt at h
  split at h
  · obtain ⟨v, rfl, r1⟩ := paired_one r
    cases r1
    exact .inl ⟨_, rfl, k _ _ M B H h w (.refl _ _) (.int _)⟩
  · obtain ⟨v, rfl, r1⟩ := paired_one r
    cases r1
    exact .inr ⟨_, rfl, k _ _ M B H h w (.refl _ _) (.int _)⟩
  · exact h.elim
def fAbs : FA := fun ts M Q => match ts with
  | [.d (.int i)] => Q (.int (if i < 0 then -i else i)) M
  | _ => False
theorem cal_abs : CaL K (fun xs H Q => ∃ i, xs = [V.int i] ∧ Q (.int (if i < 0 then -i else i)) H) fAbs := by
  intro xs ts M B H Q Q' h w r k
  unfold fAbs at h
  split at h
  · obtain ⟨v, rfl, r1⟩ := paired_one r
    cases r1
    exact ⟨_, rfl, k _ _ M B H h w (.refl _ _) (.int _)⟩
  · exact h.elim
end
end L3

set_option Elab.async false
set_option linter.all false
set_option maxRecDepth 100000
namespace L3
open PySem PySem.Spec L2

/-! ### methods of lists -/
def noL : T → Bool
  | .lr _ => false
  | _ => true
def isL (t : T) (M : Mem) : Prop := match t with
  | .lr i => ∃ ds, M.L[i]? = some (some ds)
  | .mr i => ∃ ts, M.D[i]? = some (.lst ts)
  | .d (.list _) => True
  | _ => False
theorem Rt.deck {K : PySem.W.Frag} {B : Bk} {v : V} {t : T} (n : noL t = true) (r : Rt K B v t) : Rt K { B with l := [] } v t := by
  cases t with
  | lr i => cases n
  | d x => exact r
  | mr i => exact r
  | scr ns => exact r
  | wt xs => exact r
  | exo a c d e => exact r
theorem Rt.undeck {K : PySem.W.Frag} {B : Bk} {v : V} {t : T} (r : Rt K { B with l := [] } v t) : Rt K B v t := Rt.mono' (B := { B with l := [] }) (B' := B) (fun _ _ e => e) (List.prefix_refl _) (List.nil_prefix) r
theorem Wd.isL {K : PySem.W.Frag} {B : Bk} {M : Mem} {H : Hp} (w : Wd K B M H) {v : V} {t : T} (r : Rt K B v t) (h : L3.isL t M) : ∃ p xs, v = .ref p ∧ SqL K H p xs := by
  unfold L3.isL at h
  split at h
  · obtain ⟨ds, e⟩ := h
    obtain ⟨a, rfl, ha⟩ := r
    obtain ⟨_, xs, h1, _⟩ := w.lc _ _ _ ha e
    exact ⟨a, xs, rfl, .of h1⟩
  · obtain ⟨ts, e⟩ := h
    obtain ⟨a, rfl, ha⟩ := r
    obtain ⟨_, xs, h1, _⟩ := w.dc _ _ _ ha e
    exact ⟨a, xs, rfl, .of h1⟩
  · cases r with
    | lst e q => exact ⟨_, _, rfl, .of (w.le _ _ e)⟩
  · exact h.elim
def MeL (K : PySem.W.Frag) (r : V → List V → Hp → VK → Prop) (f : T → FA) : Prop := ∀ x xs t ts M B H Q Q', f t ts M Q → Wd K B M H → Rt K B x t → Paired (Rt K B) xs ts →
  (∀ v t' M' B' H', Q t' M' → Wd K B' M' H' → Ext B H B' H' → Rt K B' v t' → Q' v H') → r x xs H Q'
def mMeth (f : T → FA) (o : Me) (r : Ma) : Me := fun τ M Q => o τ M fun x M1 => isL x M1 ∧ r τ M1 fun ts M2 => f x ts M2 Q
def mMeth0 (f : T → FA) (o : Me) : Me := fun τ M Q => o τ M fun x M1 => isL x M1 ∧ f x [] M1 Q
section
variable {X : Cx} {o e : Expr} {es : List Expr} {mo m : Me} {mr : Ma} {name : Str} {id : String} {apos cpos : Pos} {r : V → List V → Hp → VK → Prop} {f : T → FA}
theorem me_lm (pa : PlainAttrs "list") (slot : Slot "list" name id) (hty : typeOf (.builtin id) = pure (.type "method_descriptor")) (hm : MtR X id r) (hl : MeL X.K r f) (ho : ME X o mo) (ha : MA X (e :: es) mr)
    (hbase : attributeBase o name X.env (eval o X.env) = eval o X.env := by rfl)
    (hfew : ((backTo cpos (starEach (e :: es) X.env)).all (fun x => !x.1) && (backToKw cpos (keywordEach [] X.env)).all (fun x => x.1.isSome) && decide ((e :: es).length + ([] : List Keyword).length + (if ([] : List Keyword).isEmpty then 0 else 1) < 30)) = true := by rfl)
    (hline : (apos.endLine == cpos.line) = true := by rfl) (hs : starEach (e :: es) X.env = (false, eval e X.env) :: starEach es X.env := by rfl) (hplain : (backTo cpos (starEach es X.env)).any (·.1) = false := by rfl) :
    ME X (.Call (.Attribute o name apos) (e :: es) [] cpos) (mMeth f mo mr) := by
  refine PE.of (pe_bm pa slot hty hm ho ha hbase hfew hline hs hplain) fun σ H Q' ⟨τ, M, B, Q, h, w, s, k⟩ => ?_
  refine ⟨τ, M, B, _, h, w, s, fun v t M1 B1 H1 h1 w1 e1 r1 => ?_⟩
  obtain ⟨p, xs, rfl, hq⟩ := w1.isL r1 h1.1
  refine ⟨.inl ⟨rfl, xs, hq⟩, τ, M1, B1, _, h1.2, w1, s.mono e1, fun vs ts M2 B2 H2 h2 w2 e2 r2 => ?_⟩
  exact hl _ vs t ts M2 B2 H2 Q Q' h2 w2 (Rt.mono e2 r1) r2 fun v t M3 B3 H3 h3 w3 e3 => k v t M3 B3 H3 h3 w3 (e1.trans (e2.trans e3))
theorem me_lm0 (pa : PlainAttrs "list") (slot : Slot "list" name id) (hty : typeOf (.builtin id) = pure (.type "method_descriptor")) (hm : MtR X id r) (hl : MeL X.K r f) (ho : ME X o mo)
    (hbase : attributeBase o name X.env (eval o X.env) = eval o X.env := by rfl) (hline : (apos.endLine == cpos.line) = true := by rfl) :
    ME X (.Call (.Attribute o name apos) [] [] cpos) (mMeth0 f mo) := by
  refine PE.of (pe_bm0 pa slot hty hm ho hbase hline) fun σ H Q' ⟨τ, M, B, Q, h, w, s, k⟩ => ?_
  refine ⟨τ, M, B, _, h, w, s, fun v t M1 B1 H1 h1 w1 e1 r1 => ?_⟩
  obtain ⟨p, xs, rfl, hq⟩ := w1.isL r1 h1.1
  refine ⟨.inl ⟨rfl, xs, hq⟩, ?_⟩
  exact hl _ [] t [] M1 B1 H1 Q Q' h1.2 w1 r1 .nil fun v t M3 B3 H3 h3 w3 e3 => k v t M3 B3 H3 h3 w3 (e1.trans e3)
end
def fApp (x : T) : FA := fun ts M Q => match x, ts with
  | .lr i, [.d z] => (match M.L[i]? with
    | some (some ds) => ds.length < sizeLine ∧ Q .non { M with L := M.L.set i (some (ds ++ [z])) }
    | _ => False)
  | .mr i, [t] => (match M.D[i]? with
    | some (.lst us) => noL t = true ∧ us.length < sizeLine ∧ Q .non { M with D := M.D.set i (.lst (us ++ [t])) }
    | _ => False)
  | _, _ => False
theorem paired_snoc {F : V → T → Prop} {xs : List V} {ts : List T} (h : Paired F xs ts) {x : V} {t : T} (q : F x t) : Paired F (xs ++ [x]) (ts ++ [t]) := PySem.Paired.snoc h q
theorem mel_app {K : PySem.W.Frag} : MeL K rAppend fApp := by
  intro x xs t ts M B H Q Q' h w rx rs k
  unfold fApp at h
  split at h
  · rename_i i z
    split at h
    · rename_i ds hL
      obtain ⟨v, rfl, r1⟩ := paired_one rs
      obtain ⟨a, rfl, ha⟩ := rx
      obtain ⟨_, vs, e, q⟩ := w.lc _ _ _ ha hL
      refine ⟨a, vs, v, rfl, rfl, e, by rw [RpA.length q]; exact h.1, ?_⟩
      obtain ⟨w2, e2⟩ := w.setL ha hL (RpA.append q (.cons r1 .nil))
      exact k _ _ _ _ _ h.2 w2 e2 .non
    · exact h.elim
  · rename_i i z
    split at h
    · rename_i us hD
      obtain ⟨v, rfl, r1⟩ := paired_one rs
      obtain ⟨a, rfl, ha⟩ := rx
      obtain ⟨_, vs, e, q⟩ := w.dc _ _ _ ha hD
      refine ⟨a, vs, v, rfl, rfl, e, by rw [paired_len q]; exact h.2.1, ?_⟩
      obtain ⟨w2, e2⟩ := w.setD ha hD (o := .lst (vs ++ [v])) (c := .lst (us ++ [z])) fun H' eH => ⟨_, eH, paired_snoc q (r1.deck h.1)⟩
      exact k _ _ _ _ _ h.2.2 w2 e2 .non
    · exact h.elim
  · exact h.elim
theorem paired_dropLast {F : V → T → Prop} : ∀ {xs : List V} {ts : List T}, Paired F xs ts → Paired F xs.dropLast ts.dropLast
  | _, _, .nil => .nil
  | _, _, .cons (l₁ := xs) p q => by
    cases q with
    | nil => exact .nil
    | cons p2 q2 => exact .cons p (paired_dropLast (.cons p2 q2))
def fPop (x : T) : FA := fun ts M Q => match x, ts with
  | .lr i, [] => (match M.L[i]? with
    | some (some ds) => ∃ z, ds[ds.length - 1]? = some z ∧ Q (.d z) { M with L := M.L.set i (some ds.dropLast) }
    | _ => False)
  | .mr i, [] => (match M.D[i]? with
    | some (.lst us) => ∃ t, us[us.length - 1]? = some t ∧ Q t { M with D := M.D.set i (.lst us.dropLast) }
    | _ => False)
  | _, _ => False
theorem mel_pop {K : PySem.W.Frag} : MeL K rPop fPop := by
  intro x xs t ts M B H Q Q' h w rx rs k
  unfold fPop at h
  split at h
  · rename_i i
    cases rs
    split at h
    · rename_i ds hL
      obtain ⟨a, rfl, ha⟩ := rx
      obtain ⟨_, vs, e, q⟩ := w.lc _ _ _ ha hL
      obtain ⟨z, hz, hQ⟩ := h
      obtain ⟨u, h1, h2⟩ := RpA.get q hz
      refine ⟨a, vs, u, rfl, rfl, e, by rw [RpA.length q]; exact h1, ?_⟩
      obtain ⟨w2, e2⟩ := w.setL ha hL (RpA.dropLast q)
      exact k _ _ _ _ _ hQ w2 e2 h2
    · exact h.elim
  · rename_i i
    cases rs
    split at h
    · rename_i us hD
      obtain ⟨a, rfl, ha⟩ := rx
      obtain ⟨_, vs, e, q⟩ := w.dc _ _ _ ha hD
      obtain ⟨z, hz, hQ⟩ := h
      obtain ⟨u, h1, h2⟩ := paired_get q hz
      refine ⟨a, vs, u, rfl, rfl, e, by rw [paired_len q]; exact h1, ?_⟩
      obtain ⟨w2, e2⟩ := w.setD ha hD (o := .lst vs.dropLast) (c := .lst us.dropLast) fun H' eH => ⟨_, eH, paired_dropLast q⟩
      exact k _ _ _ _ _ hQ w2 e2 h2.undeck
    · exact h.elim
  · exact h.elim

/-! ### dicts of the deck -/
def lookT (kvs : List (Key × T)) (k : Key) : Option T := (kvs.find? fun kv => decide (kv.1 = k)).map (·.2)
def putT (kvs : List (Key × T)) (k : Key) (t : T) : List (Key × T) :=
  if (kvs.any fun kv => decide (kv.1 = k)) = true then kvs.map (fun kv => if kv.1 = k then (kv.1, t) else kv) else kvs ++ [(k, t)]
abbrev KT (K : PySem.W.Frag) (B : Bk) : List (Key × V) → List (Key × T) → Prop := Paired (fun (p : Key × V) (q : Key × T) => p.1 = q.1 ∧ Rt K { B with l := [] } p.2 q.2)
theorem KT.look {K : PySem.W.Frag} {B : Bk} {vs : List (Key × V)} {ts : List (Key × T)} {k : Key} (h : KT K B vs ts) : ∀ {t : T}, lookT ts k = some t → ∃ v, valV vs k = some v ∧ Rt K { B with l := [] } v t := by
  induction h with
  | nil => intro t e; cases e
  | @cons p q ps qs f _ ih =>
    intro t e
    by_cases z : q.1 = k
    · have e' : lookT (q :: qs) k = some q.2 := by simp [lookT, List.find?_cons, z]
      rw [e'] at e
      cases e
      exact ⟨p.2, valV_pos (f.1.trans z), f.2⟩
    · have e' : lookT (q :: qs) k = lookT qs k := by simp [lookT, List.find?_cons, z]
      rw [e'] at e
      obtain ⟨v, h1, h2⟩ := ih e
      exact ⟨v, (valV_neg fun y => z (f.1.symm.trans y)).trans h1, h2⟩
theorem KT.any {K : PySem.W.Frag} {B : Bk} {vs : List (Key × V)} {ts : List (Key × T)} {k : Key} (h : KT K B vs ts) : (vs.any fun kv => decide (kv.1 = k)) = (ts.any fun kv => decide (kv.1 = k)) := by
  induction h with
  | nil => rfl
  | cons f _ ih => rw [List.any_cons, List.any_cons, ih, f.1]
theorem KT.put {K : PySem.W.Frag} {B : Bk} {vs : List (Key × V)} {ts : List (Key × T)} {k : Key} {v : V} {t : T} (h : KT K B vs ts) (r : Rt K { B with l := [] } v t) : KT K B (putK vs k v) (putT ts k t) := by
  unfold putK putT
  rw [h.any]
  split
  · have m : ∀ {vs : List (Key × V)} {ts : List (Key × T)}, KT K B vs ts → KT K B (vs.map fun kv => if kv.1 = k then (kv.1, v) else kv) (ts.map fun kv => if kv.1 = k then (kv.1, t) else kv) := by
      intro vs ts h
      induction h with
      | nil => exact .nil
      | @cons p q ps qs f _ ih =>
        refine .cons ?_ ih
        by_cases z : q.1 = k
        · have e1 : (fun kv : Key × V => if kv.1 = k then (kv.1, v) else kv) p = (p.1, v) := if_pos (f.1.trans z)
          have e2 : (fun kv : Key × T => if kv.1 = k then (kv.1, t) else kv) q = (q.1, t) := if_pos z
          rw [e1, e2]
          exact ⟨f.1, r⟩
        · have e1 : (fun kv : Key × V => if kv.1 = k then (kv.1, v) else kv) p = p := if_neg fun y => z (f.1.symm.trans y)
          have e2 : (fun kv : Key × T => if kv.1 = k then (kv.1, t) else kv) q = q := if_neg z
          rw [e1, e2]
          exact f
    exact m h
  · exact PySem.Paired.snoc h ⟨rfl, r⟩
def keyOf : T → Option Key
  | .d (.str s) => some (.inr s)
  | .d (.int i) => some (.inl i)
  | _ => none
theorem keyOf_kV {K : PySem.W.Frag} {B : Bk} {v : V} {t : T} {k : Key} (r : Rt K B v t) (e : keyOf t = some k) : v = kV k := by
  unfold keyOf at e
  split at e
  · cases e
    cases r
    rfl
  · cases e
    cases r
    rfl
  · cases e
def oDGet : F2 := fun x y M Q => match x, keyOf y with
  | .mr i, some k => (match M.D[i]? with
    | some (.dct kvs) => ∃ t, lookT kvs k = some t ∧ Q t M
    | _ => False)
  | _, _ => False
theorem opl_dget {K : PySem.W.Frag} : OpL K (fun x y H Q => ∃ a v, x = .ref a ∧ DGet H a y (some v) ∧ Q v H) oDGet := by
  intro x y t u M B H Q Q' h w rx ry k
  unfold oDGet at h
  split at h
  · rename_i kk hk
    split at h
    · rename_i kvs hD
      obtain ⟨a, rfl, ha⟩ := rx
      obtain ⟨_, vs, e, q⟩ := w.dc _ _ _ ha hD
      obtain ⟨t', h1, hQ⟩ := h
      obtain ⟨v, h2, h3⟩ := KT.look q h1
      refine ⟨a, v, rfl, ?_, k _ _ M B H hQ w (.refl _ _) h3.undeck⟩
      rw [keyOf_kV ry hk, ← h2]
      exact .k e
    · exact h.elim
  · exact h.elim
section
variable {X : Cx} {o i e value : Expr} {es : List Expr} {mo mi mv m : Me} {pos pos' : Pos}
theorem me_dget (hu : X.A.units + 1 < cLine) (ho : ME X o mo) (hi : ME X i mi) (hs : NoSl i) : ME X (.Subscript o i pos) (mOp oDGet mo mi) := PE.of (pe_dget hu ho hi hs) fun _ _ _ h => two opl_dget h
def mDPut (d k v : Me) : Ms := fun E τ M => v τ M fun t M1 => d τ M1 fun x M2 => k τ M2 fun y M3 => match x, keyOf y with
  | .mr i, some kk => (match M3.D[i]? with
    | some (.dct kvs) => noL t = true ∧ kvs.length < sizeLine ∧ E.nx τ { M3 with D := M3.D.set i (.dct (putT kvs kk t)) }
    | _ => False)
  | _, _ => False
theorem ms_dput (hu : X.A.units + 1 < cLine) (ho : ME X o mo) (hi : ME X i mi) (hv : ME X value mv) (hs : swapsWith value (some (.Subscript o i pos')) pos.line X.env = pure false) :
    MS X (.Assign [.Subscript o i pos'] value pos) (mDPut mo mi mv) := PS.of (ps_dput hu ho hi hv hs) fun D σ H ⟨E, τ, M, B, h, w, s, g⟩ => by
  refine ⟨τ, M, B, _, h, w, s, fun v t M1 B1 H1 h1 w1 e1 r1 => ⟨τ, M1, B1, _, h1, w1, s.mono e1, fun x tx M2 B2 H2 h2 w2 e2 r2 => ⟨τ, M2, B2, _, h2, w2, (s.mono e1).mono e2, fun y ty M3 B3 H3 h3 w3 e3 r3 => ?_⟩⟩⟩
  split at h3
  · rename_i kk hk
    split at h3
    · rename_i kvs hD
      obtain ⟨a, rfl, ha⟩ := Rt.mono e3 r2
      obtain ⟨_, vs, e, q⟩ := w3.dc _ _ _ ha hD
      have rv := Rt.deck h3.1 (Rt.mono e3 (Rt.mono e2 r1))
      have hz : vs.length < sizeLine := by
        rw [paired_len q]
        exact h3.2.1
      refine ⟨a, _, rfl, by rw [keyOf_kV r3 hk]; exact DPut.k e hz, ?_⟩
      obtain ⟨w4, e4⟩ := w3.setD ha hD (o := .dK (putK vs kk v)) (c := .dct (putT kvs kk t)) fun H' eH => ⟨_, eH, KT.put q rv⟩
      have e14 := e1.trans (e2.trans (e3.trans e4))
      exact g.nx _ _ _ _ _ h3.2.2 w4 e14 (s.mono e14)
    · exact h3.elim
  · exact h3.elim
/-- o[i] = v, a list -/
def mLPut (d k v : Me) : Ms := fun E τ M => v τ M fun t M1 => d τ M1 fun x M2 => k τ M2 fun y M3 => match x, y, t with
  | .lr i, .d (.int j), .d z => (match M3.L[i]? with
    | some (some ds) => ∃ n, ixN ds.length j = some n ∧ E.nx τ { M3 with L := M3.L.set i (some (ds.set n z)) }
    | _ => False)
  | _, _, _ => False
theorem paired_set {F : V → T → Prop} {x : V} {t : T} (f : F x t) : ∀ {xs : List V} {ts : List T} (n : Nat), Paired F xs ts → Paired F (xs.set n x) (ts.set n t)
  | _, _, _, .nil => .nil
  | _, _, 0, .cons _ q => .cons f q
  | _, _, n + 1, .cons p q => .cons p (paired_set f n q)
def mLPutD (d k v : Me) : Ms := fun E τ M => v τ M fun t M1 => d τ M1 fun x M2 => k τ M2 fun y M3 => match x, y with
  | .mr i, .d (.int j) => (match M3.D[i]? with
    | some (.lst ds) => noL t = true ∧ ∃ n, ixN ds.length j = some n ∧ E.nx τ { M3 with D := M3.D.set i (.lst (ds.set n t)) }
    | _ => False)
  | _, _ => False
theorem ms_lput (ho : ME X o mo) (hi : ME X i mi) (hv : ME X value mv) (hg : ∀ {to ti : TE}, PE X o to → PE X i ti → PG X (.Subscript o i pos') (gSub to ti rSetL)) (hs : swapsWithSole [.Subscript o i pos'] value pos.line X.env = pure false := by rfl)
    (hw : swappedStores [.Subscript o i pos'] value X.env = pure none := by rfl) (h1 : (assignEach [.Subscript o i pos'] X.env).map (·.2) = [assign (.Subscript o i pos') X.env] := by rfl) :
    MS X (.Assign [.Subscript o i pos'] value pos) (mLPut mo mi mv) := PS.of (ps_asg hv (hg ho hi) hs hw h1) fun D σ H ⟨E, τ, M, B, h, w, s, g⟩ => by
  refine ⟨τ, M, B, _, h, w, s, fun v t M1 B1 H1 h1 w1 e1 r1 => ⟨τ, M1, B1, _, h1, w1, s.mono e1, fun x tx M2 B2 H2 h2 w2 e2 r2 => ⟨τ, M2, B2, _, h2, w2, (s.mono e1).mono e2, fun y ty M3 B3 H3 h3 w3 e3 r3 => ?_⟩⟩⟩
  split at h3
  · split at h3
    · rename_i ds hL
      obtain ⟨a, rfl, ha⟩ := Rt.mono e3 r2
      cases r3
      obtain ⟨_, vs, e, q⟩ := w3.lc _ _ _ ha hL
      obtain ⟨n, hn, hQ⟩ := h3
      refine ⟨a, vs, _, n, rfl, rfl, e, by rw [RpA.length q]; exact hn, ?_⟩
      obtain ⟨w4, e4⟩ := w3.setL ha hL (RpA.set (Rt.mono e3 (Rt.mono e2 r1)) n q)
      have e14 := e1.trans (e2.trans (e3.trans e4))
      exact g.nx _ _ _ _ _ hQ w4 e14 (s.mono e14)
    · exact h3.elim
  · exact h3.elim
theorem ms_lputD (ho : ME X o mo) (hi : ME X i mi) (hv : ME X value mv) (hg : ∀ {to ti : TE}, PE X o to → PE X i ti → PG X (.Subscript o i pos') (gSub to ti rSetL)) (hs : swapsWithSole [.Subscript o i pos'] value pos.line X.env = pure false := by rfl)
    (hw : swappedStores [.Subscript o i pos'] value X.env = pure none := by rfl) (h1 : (assignEach [.Subscript o i pos'] X.env).map (·.2) = [assign (.Subscript o i pos') X.env] := by rfl) :
    MS X (.Assign [.Subscript o i pos'] value pos) (mLPutD mo mi mv) := PS.of (ps_asg hv (hg ho hi) hs hw h1) fun D σ H ⟨E, τ, M, B, h, w, s, g⟩ => by
  refine ⟨τ, M, B, _, h, w, s, fun v t M1 B1 H1 h1 w1 e1 r1 => ⟨τ, M1, B1, _, h1, w1, s.mono e1, fun x tx M2 B2 H2 h2 w2 e2 r2 => ⟨τ, M2, B2, _, h2, w2, (s.mono e1).mono e2, fun y ty M3 B3 H3 h3 w3 e3 r3 => ?_⟩⟩⟩
  split at h3
  · split at h3
    · rename_i ds hD
      obtain ⟨a, rfl, ha⟩ := Rt.mono e3 r2
      cases r3
      obtain ⟨_, vs, e, q⟩ := w3.dc _ _ _ ha hD
      obtain ⟨hno, n, hn, hQ⟩ := h3
      refine ⟨a, vs, _, n, rfl, rfl, e, by rw [paired_len q]; exact hn, ?_⟩
      obtain ⟨w4, e4⟩ := w3.setD ha hD (o := .lst (vs.set n v)) (c := .lst (ds.set n t)) fun H' eH => ⟨_, eH, paired_set (Rt.deck hno (Rt.mono e3 (Rt.mono e2 r1))) n q⟩
      have e14 := e1.trans (e2.trans (e3.trans e4))
      exact g.nx _ _ _ _ _ hQ w4 e14 (s.mono e14)
    · exact h3.elim
  · exact h3.elim
end

/-! ### a dict display of the deck -/
def goD : List (Str × Me) → En → Mem → (List (Key × T) → Mem → Prop) → Prop
  | [], _, M, Q => Q [] M
  | (s, m) :: r, τ, M, Q => m τ M fun t M1 => noL t = true ∧ goD r τ M1 fun kts M2 => Q ((.inr s, t) :: kts) M2
def mDisp (ps : List (Str × Me)) : Me := fun τ M Q => goD ps τ M fun kts M1 => ((kts.map (·.1)).Nodup ∧ kts.length ≤ 15) ∧ Q (.mr M1.D.length) { M1 with D := M1.D ++ [.dct kts] }
abbrev trsOf (K : PySem.W.Frag) (ps : List (Str × Me)) : List (TE × TE) := ps.map fun p => (tC (.str p.1), rE K p.2)
theorem pairs_of {K : PySem.W.Frag} : ∀ (ps : List (Str × Me)) {σ : L2.St} {τ : En} {M : Mem} {B : Bk} {H : Hp} {Q : List (Key × T) → Mem → Prop} {Q' : List (V × V) → Hp → Prop}, goD ps τ M Q → Wd K B M H → Sl K B σ τ →
    (∀ kvs kts M' B' H', Q kts M' → Wd K B' M' H' → Ext B H B' H' → KT K B' kvs kts → Q' (kvs.map fun kv => (kV kv.1, kv.2)) H') → tPairs (trsOf K ps) σ H Q'
  | [], σ, τ, M, B, H, Q, Q', h, w, s, k => k [] [] M B H h w (.refl _ _) .nil
  | (x, m) :: r, σ, τ, M, B, H, Q, Q', h, w, s, k => by
    refine ⟨τ, M, B, _, h, w, s, fun v t M1 B1 H1 h1 w1 e1 r1 => ?_⟩
    refine pairs_of r h1.2 w1 (s.mono e1) fun kvs kts M2 B2 H2 h2 w2 e2 r2 => ?_
    exact k ((.inr x, v) :: kvs) ((.inr x, t) :: kts) M2 B2 H2 h2 w2 (e1.trans e2) (.cons ⟨rfl, Rt.deck h1.1 (Rt.mono e2 r1)⟩ r2)
theorem KT.keys {K : PySem.W.Frag} {B : Bk} {vs : List (Key × V)} {ts : List (Key × T)} (h : KT K B vs ts) : vs.map (·.1) = ts.map (·.1) := by
  induction h with
  | nil => rfl
  | cons f _ ih => rw [List.map_cons, List.map_cons, ih, f.1]
theorem merge_nil : ∀ (more acc : List (Key × V)), ((acc ++ more).map (·.1)).Nodup → mergeK acc more = acc ++ more
  | [], acc, _ => (List.append_nil _).symm
  | p :: r, acc, h => by
    show mergeK (putK acc p.1 p.2) r = _
    have n : (acc.any fun kv => decide (kv.1 = p.1)) = false := by
      rw [List.map_append, List.map_cons, List.nodup_append] at h
      rw [List.any_eq_false]
      intro q hq z
      exact h.2.2 q.1 (List.mem_map_of_mem hq) p.1 (by simp) (of_decide_eq_true z)
    have e : putK acc p.1 p.2 = acc ++ [p] := by
      unfold putK
      rw [n]
      rfl
    rw [e, merge_nil r (acc ++ [p]) (by rw [List.append_assoc]; exact h), List.append_assoc]
    rfl
theorem Ext.adoptR {B B2 : Bk} {H H2 : Hp} {p : Addr} {o : HO} (hp : H p = none) (hn : p ∉ B.r) (hm : p ∉ B.l) (x : Ext B H B2 H2) : Ext B H { B2 with r := B2.r ++ [p] } (upd H2 p o) := by
  refine ⟨x.g, x.r.trans (List.prefix_append _ _), x.l, fun a u e h1 h2 => ?_, fun a e => ?_, fun a e => ?_, x.ln, x.gf⟩
  · rw [upd_ne (ne_of_none e hp)]
    exact x.fr a u e h1 h2
  · by_cases z : a = p
    · rw [z]
      exact hp
    · rw [upd_ne z] at e
      exact x.tr a e
  · rcases List.mem_append.mp e with z | z
    · exact x.rn a z
    · rw [List.mem_singleton] at z
      rw [z]
      exact .inr hp
/-- an object that stood beside the world comes into the deck -/
theorem Wd.adoptR {K : PySem.W.Frag} {B : Bk} {M : Mem} {H : Hp} (w : Wd K B M H) {p : Addr} (hG : B.G p = none) (hr : p ∉ B.r) (hl : p ∉ B.l) {o : HO} {c : Cell} (h : ∀ H', H' p = some o → CellAt K { B with r := B.r ++ [p] } H' p c) :
    Wd K { B with r := B.r ++ [p] } { M with D := M.D ++ [c] } (upd H p o) := by
  have ne : ∀ {a : Addr}, a ∈ B.r ++ B.l → a ≠ p := fun {a} ha z => by
    rw [z] at ha
    exact (List.mem_append.mp ha).elim hr hl
  refine ⟨fun a u e => ?_, by simp [w.rlen], w.llen, ?_, fun i a c' h1 h2 => ?_, fun i a es h1 h2 => ?_, fun a ha => ?_⟩
  · rw [upd_ne (ne_of_none e hG)]
    exact w.le a u e
  · show ((B.r ++ [p]) ++ B.l).Nodup
    obtain ⟨n1, n2, n3⟩ := List.nodup_append.mp w.nd
    rw [List.nodup_append]
    refine ⟨nodup_snoc n1 hr, n2, fun x hx y hy z => ?_⟩
    rcases List.mem_append.mp hx with q | q
    · exact n3 x q y hy z
    · rw [List.mem_singleton] at q
      subst z
      subst q
      exact hl hy
  · have h1' : (B.r ++ [p])[i]? = some a := h1
    have h2' : (M.D ++ [c])[i]? = some c' := h2
    rcases Nat.lt_or_ge i B.r.length with z | z
    · rw [List.getElem?_append_left z] at h1'
      rw [List.getElem?_append_left (by rw [← w.rlen]; exact z)] at h2'
      obtain ⟨q1, q2⟩ := w.dc i a c' h1' h2'
      exact ⟨q1, CellAt.mono (B := B) (B' := { B with r := B.r ++ [p] }) (fun _ _ e => e) (List.prefix_append _ _) (upd_ne (ne (List.mem_append_left _ (mem_of_get h1')))) q2⟩
    · rw [List.getElem?_append_right z] at h1'
      rw [List.getElem?_append_right (by rw [← w.rlen]; exact z), ← w.rlen] at h2'
      cases j : i - B.r.length with
      | succ k => rw [j] at h1'; simp at h1'
      | zero =>
        rw [j] at h1' h2'
        simp only [List.getElem?_cons_zero, Option.some.injEq] at h1' h2'
        subst h1'
        subst h2'
        exact ⟨hG, h _ upd_same⟩
  · obtain ⟨q1, ys, q2, q3⟩ := w.lc i a es h1 h2
    exact ⟨q1, ys, (upd_ne (ne (List.mem_append_right _ (mem_of_get h1)))).trans q2, q3⟩
  · have ha' : a ∈ (B.r ++ [p]) ++ B.l := ha
    by_cases z : a = p
    · rw [z, upd_same]
      exact fun q => nomatch q
    · rw [upd_ne z]
      refine w.tr a ?_
      rcases List.mem_append.mp ha' with y | y
      · rcases List.mem_append.mp y with y | y
        · exact List.mem_append_left _ y
        · rw [List.mem_singleton] at y
          exact absurd y z
      · exact List.mem_append_right _ y
/-- an object that stood beside the world never changes again -/
theorem Wd.adoptG {K : PySem.W.Frag} {B : Bk} {M : Mem} {H : Hp} (w : Wd K B M H) {p : Addr} (hG : B.G p = none) (hr : p ∉ B.r) (hl : p ∉ B.l) {o : HO} (hH : H p = some o) : Wd K { B with G := upd B.G p o } M H := by
  refine ⟨fun a u e => ?_, w.rlen, w.llen, w.nd, fun i a c h1 h2 => ?_, fun i a ds h1 h2 => ?_, w.tr⟩
  · have e' : upd B.G p o a = some u := e
    by_cases z : a = p
    · rw [z, upd_same] at e'
      rw [z, hH]
      exact e'
    · rw [upd_ne z] at e'
      exact w.le a u e'
  · obtain ⟨q1, q2⟩ := w.dc i a c h1 h2
    have na : a ≠ p := fun z => hr (by rw [← z]; exact mem_of_get h1)
    exact ⟨(upd_ne na).trans q1, CellAt.mono (B := B) (B' := { B with G := upd B.G p o }) (upd_keep hG) (List.prefix_refl _) rfl q2⟩
  · obtain ⟨q1, xs, q2, q3⟩ := w.lc i a ds h1 h2
    have na : a ≠ p := fun z => hl (by rw [← z]; exact mem_of_get h1)
    exact ⟨(upd_ne na).trans q1, xs, q2, RpA.mono (upd_keep hG) q3⟩
/-- an object beside the world -/
theorem Wd.side {K : PySem.W.Frag} {B : Bk} {M : Mem} {H : Hp} (w : Wd K B M H) {p : Addr} (hp : H p = none) (o : HO) : Wd K B M (upd H p o) := by
  obtain ⟨hG, hr, hl⟩ := w.fresh hp
  refine ⟨fun a u e => ?_, w.rlen, w.llen, w.nd, fun i a c h1 h2 => ?_, fun i a ds h1 h2 => ?_, fun a ha => ?_⟩
  · rw [upd_ne (ne_of_none e hG)]
    exact w.le a u e
  · obtain ⟨q1, q2⟩ := w.dc i a c h1 h2
    exact ⟨q1, CellAt.mono (fun _ _ e => e) (List.prefix_refl _) (upd_ne fun z => hr (by rw [← z]; exact mem_of_get h1)) q2⟩
  · obtain ⟨q1, xs, q2, q3⟩ := w.lc i a ds h1 h2
    exact ⟨q1, xs, (upd_ne fun z => hl (by rw [← z]; exact mem_of_get h1)).trans q2, q3⟩
  · rw [upd_ne fun z => ?_]
    · exact w.tr a ha
    · subst z
      exact w.tr a ha hp
theorem Ext.side {B : Bk} {H : Hp} {p : Addr} (hp : H p = none) (o : HO) : Ext B H B (upd H p o) := by
  refine ⟨fun _ _ e => e, List.prefix_refl _, List.prefix_refl _, fun a u e _ _ => ?_, fun a e => ?_, fun _ e => .inl e, fun _ e => .inl e, fun _ _ e => .inl e⟩
  · rw [upd_ne (ne_of_none e hp)]
    exact e
  · by_cases z : a = p
    · rw [z]
      exact hp
    · rw [upd_ne z] at e
      exact e
theorem me_disp {X : Cx} {pos : Pos} {keys : List (Option Expr)} {values : List Expr} {ps : List (Str × Me)} (h : PPs X pos keys values (trsOf X.K ps)) (hall : keys.all (·.isSome) = true) (hl : keys.length = values.length) (h0 : keys ≠ [])
    (h15 : keys.length ≤ 15) : ME X (.Dict keys values pos) (mDisp ps) := PE.of (pe_disp h hall hl h0 h15) fun σ H Q' ⟨τ, M, B, Q, h, w, s, k⟩ => by
  intro p hp
  obtain ⟨hG, hr, hl⟩ := w.fresh hp
  have x0 : Ext B H B (upd H p (.dK [])) := .side hp _
  refine pairs_of ps h (w.side hp (.dK [])) s fun kvs kts M2 B2 H2 h2 w2 e2 r2 => ?_
  have hH : H2 p = some (.dK []) := e2.fr p _ upd_same hr hl
  obtain ⟨⟨hnd, h15⟩, hQ⟩ := h2
  refine ⟨hH, kvs, rfl, by rw [paired_len r2]; exact h15, ?_⟩
  rw [merge_nil kvs [] (by rw [List.nil_append, KT.keys r2]; exact hnd), List.nil_append]
  have x2 : Ext B H { B2 with r := B2.r ++ [p] } (upd H2 p (.dK kvs)) := .adoptR hp hr hl (x0.trans e2)
  have nr : p ∉ B2.r := fun z => (e2.rn p z).elim hr fun q => by rw [upd_same] at q; cases q
  have nl : p ∉ B2.l := fun z => (e2.ln p z).elim hl fun q => by rw [upd_same] at q; cases q
  have nG : B2.G p = none := by
    cases q : B2.G p with
    | none => rfl
    | some o =>
      rcases e2.gf p o q with z | z | z
      · rw [hG] at z; cases z
      · rw [upd_same] at z; cases z
      · exact absurd z hl
  have w3 := w2.adoptR nG nr nl (o := .dK kvs) (c := .dct kts) fun H' eH => ⟨kvs, eH, Paired.imp (fun _ _ f => ⟨f.1, Rt.mono' (B := { B2 with l := [] }) (B' := { B2 with r := B2.r ++ [p], l := [] }) (fun _ _ e => e) (List.prefix_append _ _) (List.prefix_refl _) f.2⟩) r2⟩
  exact k _ _ _ _ _ hQ w3 x2 ⟨p, rfl, by rw [← w2.rlen]; exact get_snoc⟩
end L3

set_option Elab.async false
set_option linter.all false
set_option maxRecDepth 100000
namespace L3
open PySem PySem.Spec L2

/-! ### statements -/
def mNext : Ms := fun E τ M => E.nx τ M
def mSeq (s r : Ms) : Ms := fun E τ M => s { E with nx := r E } τ M
def mDrop (m : Me) : Ms := fun E τ M => m τ M fun _ M1 => E.nx τ M1
def mRet (m : Me) : Ms := fun E τ M => m τ M E.rt
def mRetN : Ms := fun E _ M => E.rt .non M
def mIf (c : Mb) (s r : Ms) : Ms := fun E τ M => c τ M fun b M1 => if b = true then s E τ M1 else r E τ M1
def mSet (i : Nat) (m : Me) : Ms := fun E τ M => m τ M fun t M1 => E.nx (τ.set i (some t)) M1
def mAsg (m : Me) (g : Mg) : Ms := fun E τ M => m τ M fun t M1 => g t τ M1 E.nx
def mPar (i j : Nat) (r : Ma) : Ms := fun E τ M => r τ M fun ts M1 => match ts with
  | [t, u] => E.nx ((τ.set i (some t)).set j (some u)) M1
  | _ => False
def mBreak : Ms := fun E τ M => E.bk τ M
def mCont : Ms := fun E τ M => E.ct τ M
section
variable {X : Cx} {e c tg : Expr} {m : Me} {mc : Mb} {mr : Ma} {st : Stmt} {sts a b : List Stmt} {s r : Ms} {pos : Pos} {g : Mg}
theorem mss_nil : MSs X [] mNext := PSs.of pss_nil fun D σ H ⟨E, τ, M, B, h, w, sl, g⟩ => g.nx τ M B σ H h w (.refl _ _) sl
theorem mss_cons (h1 : MS X st s) (h2 : MSs X sts r) : MSs X (st :: sts) (mSeq s r) := PSs.of (pss_cons h1 h2) fun D σ H ⟨E, τ, M, B, h, w, sl, g⟩ =>
  ⟨{ E with nx := r E }, τ, M, B, h, w, sl, fun τ' M' B' σ' H' q w' e' s' => ⟨E, τ', M', B', q, w', s', g.ext e'⟩, g.rt, g.bk, g.ct⟩
theorem mss_one (h1 : MS X st s) : MSs X [st] s := pss_one h1
theorem ms_pass : MS X (.Pass pos) mNext := PS.of ps_pass fun D σ H ⟨E, τ, M, B, h, w, sl, g⟩ => g.nx τ M B σ H h w (.refl _ _) sl
theorem ms_break : MS X (.Break pos) mBreak := PS.of ps_break fun D σ H ⟨E, τ, M, B, h, w, sl, g⟩ => g.bk τ M B σ H h w (.refl _ _) sl
theorem ms_continue : MS X (.Continue pos) mCont := PS.of ps_continue fun D σ H ⟨E, τ, M, B, h, w, sl, g⟩ => g.ct τ M B σ H h w (.refl _ _) sl
theorem ms_expr (he : ME X e m) (hs : swapsWith e none pos.line X.env = pure false := by rfl) : MS X (.Expr e pos) (mDrop m) := PS.of (ps_expr he hs) fun D σ H ⟨E, τ, M, B, h, w, sl, g⟩ =>
  ⟨τ, M, B, _, h, w, sl, fun v t M1 B1 H1 h1 w1 e1 _ => g.nx τ M1 B1 σ H1 h1 w1 e1 (sl.mono e1)⟩
theorem ms_ret (he : ME X e m) : MS X (.Return (some e) pos) (mRet m) := PS.of (ps_ret he) fun D σ H ⟨E, τ, M, B, h, w, sl, g⟩ =>
  ⟨τ, M, B, _, h, w, sl, g.rt⟩
theorem ms_retN : MS X (.Return none pos) mRetN := PS.of ps_retN fun D σ H ⟨E, τ, M, B, h, w, sl, g⟩ => g.rt _ _ M B H h w (.refl _ _) .non
theorem ms_if (hc : MB X c mc) (ha : MSs X a s) (hb : MSs X b r) : MS X (.If c a b pos) (mIf mc s r) := PS.of (ps_if hc ha hb) fun D σ H ⟨E, τ, M, B, h, w, sl, g⟩ => by
  refine ⟨τ, M, B, _, h, w, sl, fun k M1 B1 H1 h1 w1 e1 => ?_⟩
  cases k with
  | true => exact ⟨E, τ, M1, B1, h1, w1, sl.mono e1, g.ext e1⟩
  | false => exact ⟨E, τ, M1, B1, h1, w1, sl.mono e1, g.ext e1⟩
theorem ms_set {i : Nat} {x : Str} {pos' : Pos} (hN : X.N.Nodup) (hi : X.N[i]? = some x) (hx : Loc X.env.scope x) (he : ME X e m) (hs : swapsWith e (some (.Name x pos')) pos.line X.env = pure false := by rfl)
    (hf : X.fn x = true ∨ X.env.scope.names.lookup x = some .local := by first | exact .inl rfl | exact .inr rfl | assumption) : MS X (.Assign [.Name x pos'] e pos) (mSet i m) := PS.of (L2.ps_set hN hi hx he hs hf) fun D σ H ⟨E, τ, M, B, h, w, sl, g⟩ =>
  ⟨τ, M, B, _, h, w, sl, fun v t M1 B1 H1 h1 w1 e1 r1 => g.nx _ M1 B1 _ H1 h1 w1 e1 ((sl.mono e1).set i r1)⟩
theorem ms_asg {os : List Nat} (he : ME X e m) (hg : MG X tg os g) (hs : swapsWithSole [tg] e pos.line X.env = pure false := by rfl) (hw : swappedStores [tg] e X.env = pure none := by rfl)
    (h1 : (assignEach [tg] X.env).map (·.2) = [assign tg X.env] := by rfl) : MS X (.Assign [tg] e pos) (mAsg m g) := PS.of (ps_asg he hg hs hw h1) fun D σ H ⟨E, τ, M, B, h, w, sl, g⟩ =>
  ⟨τ, M, B, _, h, w, sl, fun v t M1 B1 H1 h1 w1 e1 r1 => ⟨t, τ, M1, B1, _, h1, w1, sl.mono e1, r1, fun τ2 M2 B2 σ2 H2 h2 w2 e2 s2 _ => g.nx _ M2 B2 _ H2 h2 w2 (e1.trans e2) s2⟩⟩
theorem ms_par {i j : Nat} {x y : Str} {e1 e2 : Expr} {px py pt : Pos} {kt k2 : Nat} {pt2 : Pos} (hc : X.calm = true) (hN : X.N.Nodup) (hi : X.N[i]? = some x) (hj : X.N[j]? = some y) (hij : i ≠ j)
    (hx : X.env.scope.names.lookup x = some .local) (hy : X.env.scope.names.lookup y = some .local) (ha : MA X [e1, e2] mr)
    (hw : swappedStores [.Tuple [.Name x px, .Name y py] kt pt] (.Tuple [e1, e2] k2 pt2) X.env = pure (some [x, y]))
    (hs : swapsWithSole [.Tuple [.Name x px, .Name y py] kt pt] (.Tuple [e1, e2] k2 pt2) pos.line X.env = pure false := by rfl) :
    MS X (.Assign [.Tuple [.Name x px, .Name y py] kt pt] (.Tuple [e1, e2] k2 pt2) pos) (mPar i j mr) := PS.of (ps_par hc hN hi hj hij hx hy ha hw hs) fun D σ H ⟨E, τ, M, B, h, w, sl, g⟩ => by
  refine ⟨τ, M, B, _, h, w, sl, fun v t M1 B1 H1 h1 w1 e1 r1 => ?_⟩
  split at h1
  · obtain ⟨v, u, rfl, r2, r3⟩ := paired_two r1
    exact ⟨v, u, rfl, g.nx _ M1 B1 _ H1 h1 w1 e1 (((sl.mono e1).set i r2).set j r3)⟩
  · exact h1.elim

/-! ### targets -/
def gN (i : Nat) : Mg := fun t τ M Q => Q (τ.set i (some t)) M
abbrev Mgs := List PyData → En → Mem → (En → Mem → Prop) → Prop
def gsNil : Mgs := fun xs τ M Q => xs = [] ∧ Q τ M
def gsCons (g : Mg) (r : Mgs) : Mgs := fun xs τ M Q => match xs with
  | x :: ys => g (.d x) τ M fun τ1 M1 => r ys τ1 M1 Q
  | [] => False
def gTu (n : Nat) (r : Mgs) : Mg := fun t τ M Q => match t with
  | .d (.tuple xs) => xs.length = n ∧ r xs τ M Q
  | .wt xs => xs.length = n ∧ r xs τ M Q
  | _ => False
def rGs (K : PySem.W.Frag) (os : List Nat) (m : Mgs) : TGs := fun vs σ H Q' => ∃ ds τ M B Q, m ds τ M Q ∧ Wd K B M H ∧ Sl K B σ τ ∧ RpA K B.G vs ds ∧ ∀ τ' M' B' σ' H', Q τ' M' → Wd K B' M' H' → Ext B H B' H' → Sl K B' σ' τ' → Ag os σ σ' → Q' σ' H'
theorem PGs.of {es : List Expr} {t t' : TGs} (h : PGs X es t) (w : ∀ v σ H Q, t' v σ H Q → t v σ H Q) : PGs X es t' := ⟨fun _ _ _ _ _ _ _ iv rv q => h.run _ _ _ _ _ _ _ iv rv (w _ _ _ _ q)⟩
abbrev MGs (X : Cx) (es : List Expr) (os : List Nat) (m : Mgs) : Prop := PGs X es (rGs X.K os m)
variable {gr : Mgs} {es : List Expr}
theorem mg_name {i : Nat} {x : Str} (hN : X.N.Nodup) (hi : X.N[i]? = some x) (hx : Loc X.env.scope x) (hf : X.fn x = true ∨ X.env.scope.names.lookup x = some .local := by first | exact .inl rfl | exact .inr rfl | assumption) : MG X (.Name x pos) [i] (gN i) :=
  PG.of (pg_name hN hi hx hf) fun v σ H Q' ⟨t, τ, M, B, Q, h, w, s, r, k⟩ => k _ M B _ H h w (.refl _ _) (s.set i r) ⟨List.length_set, fun j n => List.getElem?_set_ne fun z => n (by simp [z])⟩
theorem mgs_nil : MGs X [] [] gsNil := PGs.of pgs_nil fun v σ H Q' ⟨ds, τ, M, B, Q, h, w, s, r, k⟩ => by
  obtain ⟨rfl, q⟩ := h
  cases r
  exact ⟨rfl, k _ M B _ H q w (.refl _ _) s ⟨rfl, fun _ _ => rfl⟩⟩
theorem mgs_cons {o1 o2 : List Nat} (h1 : MG X e o1 g) (h2 : MGs X es o2 gr) (hs : (assignEach (e :: es) X.env).map (·.2) = assign e X.env :: (assignEach es X.env).map (·.2) := by rfl) : MGs X (e :: es) (o1 ++ o2) (gsCons g gr) :=
  PGs.of (pgs_cons h1 h2 hs) fun v σ H Q' ⟨ds, τ, M, B, Q, h, w, s, r, k⟩ => by
  unfold gsCons at h
  split at h
  · cases r with
    | cons p q =>
      refine ⟨_, _, rfl, _, τ, M, B, _, h, w, s, p, fun τ1 M1 B1 σ1 H1 h1 w1 e1 s1 a1 => ?_⟩
      exact ⟨_, τ1, M1, B1, Q, h1, w1, s1, RpA.mono e1.g q, fun τ2 M2 B2 σ2 H2 h2 w2 e2 s2 a2 => k τ2 M2 B2 σ2 H2 h2 w2 (e1.trans e2) s2 (a1.trans a2)⟩
  · exact h.elim
theorem mg_tup {os : List Nat} {k : Nat} {n : Nat} (hc : X.calm = true) (h : MGs X es os gr) (hn : (assignEach es X.env).length = n := by rfl) (hst : (assignEach es X.env).findIdx? (·.1) = none := by rfl) : MG X (.Tuple es k pos) os (gTu n gr) :=
  PG.of (pg_tup hc h hn hst) fun v σ H Q' ⟨t, τ, M, B, Q, h, w, s, r, k⟩ => by
  unfold gTu at h
  split at h
  · cases r with
    | tup e q => exact ⟨_, _, rfl, SqT.mono w.le e, (RpA.length q).trans h.1, _, τ, M, B, Q, h.2, w, s, q, k⟩
  · obtain ⟨a, vs, rfl, e, q⟩ := r
    exact ⟨_, _, rfl, SqT.mono0 w.le e, (RpA.length q).trans h.1, _, τ, M, B, Q, h.2, w, s, q, k⟩
  · exact h.elim
end

/-! ### what is walked -/
abbrev Mi := En → Mem → (List T → Mem → Prop) → Prop
/-- J gives the trees ts, one after another, while what is frozen in G stands -/
def WalkT (K : PySem.W.Frag) (B : Bk) (J : It) (ts : List T) : Prop := Walk J ts.length (fun H => ∀ a o, B.G a = some o → H a = some o) fun i H x H' =>
  (H' = H ∧ ∃ t, ts[i]? = some t ∧ Rt K B x t) ∨ ∃ p vs ds, x = .ref p ∧ H p = none ∧ H' = upd H p (.tup vs) ∧ RpA K B.G vs ds ∧ ts[i]? = some (.wt ds)
def rI (K : PySem.W.Frag) (m : Mi) : TI := fun σ H R => ∃ τ M B Q, m τ M Q ∧ Wd K B M H ∧ Sl K B σ τ ∧ ∀ ts M' B' H' J, Q ts M' → Wd K B' M' H' → Ext B H B' H' → WalkT K B' J ts → R J H'
abbrev MI (X : Cx) (tg iter : Expr) (m : Mi) : Prop := PI X tg iter (rI X.K m)
theorem PI.of {X : Cx} {tg iter : Expr} {t t' : TI} (h : PI X tg iter t) (w : ∀ σ H Q, t' σ H Q → t σ H Q) : PI X tg iter t' := ⟨fun _ _ _ _ _ iv q => h.run _ _ _ _ _ iv (w _ _ _ q)⟩
section
variable {X : Cx} {e c tg : Expr} {m : Me} {mr : Ma} {pos : Pos}
/-- a list or a tuple that never changes -/
def iSeq (m : Me) : Mi := fun τ M Q => m τ M fun t M1 => match t with
  | .d (.list xs) => Q (xs.map T.d) M1
  | .d (.tuple xs) => Q (xs.map T.d) M1
  | .scr ns => Q (ns.map T.int) M1
  | _ => False
theorem mapd_get {xs : List PyData} {i : Nat} {x : PyData} (e : xs[i]? = some x) : (xs.map T.d)[i]? = some (.d x) := by
  rw [List.getElem?_map, e]
  rfl
theorem walkT_l {K : PySem.W.Frag} {B : Bk} {a : Addr} {vs : List V} {ds : List PyData} (e : SqL K B.G a vs) (q : RpA K B.G vs ds) : WalkT K B (Itl K a) (ds.map T.d) := by
  unfold WalkT
  rw [List.length_map, ← RpA.length q]
  refine walk_list.mono (fun H g => SqL.mono g e) fun i H x H' hi g y => .inl ⟨y.1, ?_⟩
  have hd : i < ds.length := by rw [← RpA.length q]; exact hi
  obtain ⟨u, h1, h2⟩ := RpA.get q (List.getElem?_eq_getElem hd)
  refine ⟨_, mapd_get (List.getElem?_eq_getElem hd), ?_⟩
  rw [y.2] at h1
  cases h1
  exact h2
theorem walkT_t {K : PySem.W.Frag} {B : Bk} {a : Addr} {vs : List V} {ds : List PyData} (e : SqT K B.G a vs) (q : RpA K B.G vs ds) : WalkT K B (Itt K a) (ds.map T.d) := by
  unfold WalkT
  rw [List.length_map, ← RpA.length q]
  refine walk_tup.mono (fun H g => SqT.mono0 g e) fun i H x H' hi g y => .inl ⟨y.1, ?_⟩
  have hd : i < ds.length := by rw [← RpA.length q]; exact hi
  obtain ⟨u, h1, h2⟩ := RpA.get q (List.getElem?_eq_getElem hd)
  refine ⟨_, mapd_get (List.getElem?_eq_getElem hd), ?_⟩
  rw [y.2] at h1
  cases h1
  exact h2
/-- a list's, a tuple's iterator has come -/
theorem pie_l {pn : List (Addr × Obj)} {sg : L2.St} {hp : Hp} {sh : Shared} {a : Addr} {vs : List V} {R : It → Hp → Prop} (iv : Inv X pn sg hp sh) (hq : SqL X.K hp a vs) (hR : R (Itl X.K a) hp) :
    wpAny (model X.prog X.w) X.A (pyIter (.ref a)) (PIE X pn sg tg R) X.xe sh := by
  obtain ⟨its, _, pl, _⟩ := iv.list hq
  refine wpAny_pyIter_list pl.isList ?_
  refine ⟨sh.heap.objs.size, [sh.heap.objs.size], _, _, hp, rfl, ?_, turn_list a _, ?_, fun b mb => ?_, hR⟩
  · exact iv.kept (t' := sh.toks) fun _ _ z => Heap.get?_push_of_some _ z
  · exact ⟨_, Heap.get?_push_size _ rfl, rfl, rfl⟩
  · obtain rfl : b = sh.heap.objs.size := List.mem_singleton.mp mb
    exact iv.fpOk (Nat.le_refl _) (iv.hok.fresh (Nat.le_refl _))
theorem pie_t {pn : List (Addr × Obj)} {sg : L2.St} {hp : Hp} {sh : Shared} {a : Addr} {vs : List V} {R : It → Hp → Prop} (iv : Inv X pn sg hp sh) (hq : SqT X.K hp a vs) (hR : R (Itt X.K a) hp) :
    wpAny (model X.prog X.w) X.A (pyIter (.ref a)) (PIE X pn sg tg R) X.xe sh := by
  obtain ⟨its, _, pl, _⟩ := iv.tuple hq
  refine wpAny_pyIter_tuple (items := its.toArray) pl ?_
  refine ⟨sh.heap.objs.size, [sh.heap.objs.size], _, _, hp, rfl, ?_, turn_tuple a _, ?_, fun b mb => ?_, hR⟩
  · exact iv.kept (t' := sh.toks) fun _ _ z => Heap.get?_push_of_some _ z
  · exact ⟨_, Heap.get?_push_size _ rfl, rfl, rfl⟩
  · obtain rfl : b = sh.heap.objs.size := List.mem_singleton.mp mb
    exact iv.fpOk (Nat.le_refl _) (iv.hok.fresh (Nat.le_refl _))
theorem mi_seq (he : ME X e m) : MI X tg e (iSeq m) := by
  refine ⟨fun pn sh sg hp R iv ⟨τ, M, B, Q, h, w, s, k⟩ => ?_⟩
  let P := fun (x : V) (H1 : Hp) => ∃ t M1 B1, (match t with | .d (.list xs) => Q (xs.map T.d) M1 | .d (.tuple xs) => Q (xs.map T.d) M1 | .scr ns => Q (ns.map T.int) M1 | _ => False) ∧ Wd X.K B1 M1 H1 ∧ Ext B hp B1 H1 ∧ Rt X.K B1 x t
  refine thn (he.run pn sh sg hp P iv ⟨τ, M, B, _, h, w, s, fun v t M1 B1 H1 h1 w1 e1 r1 => ⟨t, M1, B1, h1, w1, e1, r1⟩⟩) fun v s1 ⟨x, H1, i1, rx, t, M1, B1, h1, w1, e1, r1⟩ => ?_
  split at h1
  · cases r1 with
    | lst e q =>
      cases rx
      exact pie_l i1 (.of (w1.le _ _ e)) (k _ M1 B1 H1 _ h1 w1 e1 (walkT_l (.of e) q))
  · cases r1 with
    | tup e q =>
      cases rx
      exact pie_t i1 (SqT.mono w1.le e) (k _ M1 B1 H1 _ h1 w1 e1 (walkT_t e.t q))
  · obtain ⟨a, rfl, e⟩ := r1
    cases rx
    refine pie_l i1 (SqL.mono w1.le e) (k _ M1 B1 H1 _ h1 w1 e1 ?_)
    have := walkT_l (K := X.K) (B := B1) e (RpA.of_ints _)
    rw [List.map_map] at this
    exact this
  · exact h1.elim
/-- range(n) -/
def rangeT (n : Nat) : List T := (List.range n).map fun (i : Nat) => T.int (i : Int)
def iRange (r : Ma) : Mi := fun τ M Q => r τ M fun ts M1 => match ts with
  | [.d (.int j)] => (-(2 ^ 62) ≤ j ∧ j < 2 ^ 62) ∧ Q (rangeT j.toNat) M1
  | _ => False
theorem mi_range {a : Expr} {p : Pos} (hg : Gl X "range") (hm : X.mg "range" = none) (ha : MA X [a] mr) (hs : starEach [a] X.env = [(false, eval a X.env)] := by rfl) : MI X tg (.Call (.Name "range" p) [a] [] pos) (iRange mr) := PI.of (pi_range1 hg hm ha hs) fun σ H R ⟨τ, M, B, Q, h, w, s, k⟩ => by
  refine ⟨τ, M, B, _, h, w, s, fun v t M1 B1 H1 h1 w1 e1 r1 => ?_⟩
  split at h1
  · obtain ⟨v, rfl, r⟩ := paired_one r1
    cases r
    rename_i j
    refine ⟨j, rfl, h1.1.1, h1.1.2, k _ M1 B1 H1 _ h1.2 w1 e1 ?_⟩
    unfold WalkT rangeT
    rw [List.length_map, List.length_range]
    refine walk_range.mono (fun _ _ => trivial) fun i H x H' hi _ y => .inl ⟨y.1, T.int (i : Int), ?_, ?_⟩
    · rw [List.getElem?_map, List.getElem?_range hi]
      rfl
    · rw [y.2]
      show Rt X.K B1 (.int (0 + (i : Int))) (T.int (i : Int))
      rw [Int.zero_add]
      exact .int _
  · exact h1.elim

/-! ### for -/
def goFor (g : Mg) (b : Ms) (E : Es) : List T → En → Mem → Prop
  | [], τ, M => E.nx τ M
  | t :: ts, τ, M => g t τ M fun τ1 M1 => b { E with nx := goFor g b E ts, ct := goFor g b E ts, bk := E.nx } τ1 M1
def mFor (i : Mi) (g : Mg) (b : Ms) : Ms := fun E τ M => i τ M fun ts M1 => goFor g b E ts τ M1
theorem drop_at {α : Type} {l : List α} {i : Nat} (h : i < l.length) : l.drop i = l[i] :: l.drop (i + 1) := List.drop_eq_getElem_cons h
/-- what is given at a turn is in the world -/
theorem WalkT.step {K : PySem.W.Frag} {B1 B2 : Bk} {M2 : Mem} {H1 H2 H3 : Hp} {ts : List T} {i : Nat} {x : V} (hi : i < ts.length) (w2 : Wd K B2 M2 H2) (e2 : Ext B1 H1 B2 H2)
    (y : (H3 = H2 ∧ ∃ t, ts[i]? = some t ∧ Rt K B1 x t) ∨ ∃ p vs ds, x = .ref p ∧ H2 p = none ∧ H3 = upd H2 p (.tup vs) ∧ RpA K B1.G vs ds ∧ ts[i]? = some (.wt ds)) :
    ∃ B3, Wd K B3 M2 H3 ∧ Ext B2 H2 B3 H3 ∧ Rt K B3 x ts[i] := by
  have hg : ts[i]? = some ts[i] := List.getElem?_eq_getElem hi
  rcases y with ⟨rfl, t, h1, h2⟩ | ⟨p, vs, ds, rfl, h1, rfl, h2, h3⟩
  · rw [hg] at h1
    cases h1
    exact ⟨B2, w2, .refl _ _, Rt.mono e2 h2⟩
  · rw [hg] at h3
    obtain ⟨w3, e3⟩ := w2.alloc h1 (.tup vs)
    refine ⟨_, w3, e3, ?_⟩
    rw [Option.some.inj h3]
    exact ⟨p, vs, rfl, .inl (.inl upd_same), RpA.mono e3.g (RpA.mono e2.g h2)⟩
theorem ms_for {os : List Nat} {body : List Stmt} {i : Mi} {g : Mg} {b : Ms} (hp : PassesOwn (model X.prog X.w) X.A X.env X.xe) (hc : X.calm = true) (hi : MI X tg e i) (hg : MG X tg os g) (hb : MSs X body b)
    (hs : ∀ x, foldedSetIterable e X.env x = pure x := by intro _; rfl) : MS X (.For tg e body [] pos) (mFor i g b) := PS.of (ps_for hp hc hi hg hb hs) fun D σ H ⟨E, τ, M, B, h, w, sl, go⟩ => by
  refine ⟨τ, M, B, _, h, w, sl, fun ts M1 B1 H1 J h1 w1 e1 W => ?_⟩
  refine for_it W (fun i σ2 H2 => ∃ τ2 M2 B2, goFor g b E (ts.drop i) τ2 M2 ∧ Wd X.K B2 M2 H2 ∧ Sl X.K B2 σ2 τ2 ∧ Ext B1 H1 B2 H2) ⟨τ, M1, B1, h1, w1, sl.mono e1, .refl _ _⟩ ?_ ?_ ?_
  · rintro i σ2 H2 _ ⟨τ2, M2, B2, _, w2, _, e2⟩ a o z
    exact w2.le a o (e2.g a o z)
  · rintro i x σ2 H2 H3 hi ⟨τ2, M2, B2, h2, w2, s2, e2⟩ y
    obtain ⟨B3, w3, e3, r3⟩ := WalkT.step hi w2 e2 y
    rw [drop_at hi] at h2
    refine ⟨ts[i], τ2, M2, B3, _, h2, w3, s2.mono e3, r3, fun τ4 M4 B4 σ4 H4 h4 w4 e4 s4 _ => ?_⟩
    have e14 := e2.trans (e3.trans e4)
    refine ⟨_, τ4, M4, B4, h4, w4, s4, ⟨?_, ?_, ?_, ?_⟩⟩
    · exact fun τ5 M5 B5 σ5 H5 q w5 e5 s5 => ⟨τ5, M5, B5, q, w5, s5, e14.trans e5⟩
    · exact fun v t M5 B5 H5 q w5 e5 r5 => go.rt v t M5 B5 H5 q w5 (e1.trans (e14.trans e5)) r5
    · exact fun τ5 M5 B5 σ5 H5 q w5 e5 s5 => go.nx τ5 M5 B5 σ5 H5 q w5 (e1.trans (e14.trans e5)) s5
    · exact fun τ5 M5 B5 σ5 H5 q w5 e5 s5 => ⟨τ5, M5, B5, q, w5, s5, e14.trans e5⟩
  · rintro σ2 H2 ⟨τ2, M2, B2, h2, w2, s2, e2⟩
    rw [List.drop_length] at h2
    exact go.nx τ2 M2 B2 σ2 H2 h2 w2 (e1.trans e2) s2

/-! ### while -/
def goWh (c : Mb) (b : Ms) (E : Es) : Nat → En → Mem → Prop
  | 0, _, _ => False
  | n + 1, τ, M => c τ M fun k M1 => if k = true then b { E with nx := goWh c b E n, ct := goWh c b E n, bk := E.nx } τ M1 else E.nx τ M1
def mWhile (c : Mb) (b : Ms) : Ms := fun E τ M => ∃ n, goWh c b E n τ M
theorem ms_while {body : List Stmt} {mc : Mb} {b : Ms} (hp : PassesOwn (model X.prog X.w) X.A X.env X.xe) (hc : MB X c mc) (hb : MSs X body b) : MS X (.While c body [] pos) (mWhile mc b) := PS.of (ps_while hp hc hb) fun D σ H ⟨E, τ, M, B, ⟨n, h⟩, w, sl, go⟩ => by
  refine ⟨fun m σ2 H2 => ∃ τ2 M2 B2, goWh mc b E m τ2 M2 ∧ Wd X.K B2 M2 H2 ∧ Sl X.K B2 σ2 τ2 ∧ Ext B H B2 H2, ⟨n, τ, M, B, h, w, sl, .refl _ _⟩, ?_⟩
  rintro m σ2 H2 ⟨τ2, M2, B2, h2, w2, s2, e2⟩
  cases m with
  | zero => exact h2.elim
  | succ m =>
    refine ⟨τ2, M2, B2, _, h2, w2, s2, fun k M3 B3 H3 h3 w3 e3 => ?_⟩
    have e13 := e2.trans e3
    cases k with
    | false => exact go.nx τ2 M3 B3 σ2 H3 h3 w3 e13 (s2.mono e3)
    | true =>
      refine ⟨fun σ' H' => ∃ τ5 M5 B5, goWh mc b E m τ5 M5 ∧ Wd X.K B5 M5 H' ∧ Sl X.K B5 σ' τ5 ∧ Ext B H B5 H', fun σ' H' z => ⟨m, Nat.lt_succ_self m, z⟩, ?_⟩
      refine ⟨_, τ2, M3, B3, h3, w3, s2.mono e3, ⟨?_, ?_, ?_, ?_⟩⟩
      · exact fun τ5 M5 B5 σ5 H5 q w5 e5 s5 => ⟨τ5, M5, B5, q, w5, s5, e13.trans e5⟩
      · exact fun v t M5 B5 H5 q w5 e5 r5 => go.rt v t M5 B5 H5 q w5 (e13.trans e5) r5
      · exact fun τ5 M5 B5 σ5 H5 q w5 e5 s5 => go.nx τ5 M5 B5 σ5 H5 q w5 (e13.trans e5) s5
      · exact fun τ5 M5 B5 σ5 H5 q w5 e5 s5 => ⟨τ5, M5, B5, q, w5, s5, e13.trans e5⟩

/-! ### [elt for target in iter if ..] -/
abbrev Mtt := Mb
def goLc (g : Mg) (c : Mb) (m : Me) (τ0 : En) (Q : List PyData → Mem → Prop) : List T → List PyData → Mem → Prop
  | [], acc, M => Q acc M
  | t :: ts, acc, M => g t τ0 M fun τ1 M1 => c τ1 M1 fun k M2 => if k = true then m τ1 M2 fun y M3 => (match y with
      | .d z => acc.length < sizeLine ∧ goLc g c m τ0 Q ts (acc ++ [z]) M3
      | _ => False) else goLc g c m τ0 Q ts acc M2
def mLc (i : Mi) (g : Mg) (c : Mb) (m : Me) (vs : List Nat) : Me := fun τ M Q => i τ M fun ts M1 => goLc g c m (wipeT τ vs) (fun acc M2 => Q (.lst acc) M2) ts [] M1
def bYes : Mb := fun _ M Q => Q true M
abbrev MTs (X : Cx) (ifs : List Expr) (c : Mb) : Prop := PTs X ifs (rB X.K c)
theorem PTs.of {ifs : List Expr} {t t' : TT} (h : PTs X ifs t) (w : ∀ σ H Q, t' σ H Q → t σ H Q) : PTs X ifs t' := ⟨fun _ _ _ _ _ iv q => h.run _ _ _ _ _ iv (w _ _ _ q)⟩
theorem mts_nil : MTs X [] bYes := PTs.of pts_nil fun σ H Q' ⟨τ, M, B, Q, h, w, s, k⟩ => k _ M B H h w (.refl _ _)
theorem mts_one {mc : Mb} (h : MB X c mc) : MTs X [c] mc := pts_one h
theorem Ext.adoptG {B B2 : Bk} {H H2 : Hp} {p : Addr} {o : HO} (hp : H p = none) (x : Ext B H B2 H2) : Ext B H { B2 with G := upd B2.G p o } H2 ∨ B2.G p ≠ none := by
  by_cases z : B2.G p = none
  · refine .inl ⟨fun a u e => ?_, x.r, x.l, x.fr, x.tr, x.rn, x.ln, fun a u e => ?_⟩
    · exact upd_keep z a u (x.g a u e)
    · have e' : upd B2.G p o a = some u := e
      by_cases y : a = p
      · rw [y]
        exact .inr (.inl hp)
      · rw [upd_ne y] at e'
        exact x.gf a u e'
  · exact .inr z
theorem lc_gen {K : PySem.W.Frag} {i : Mi} {g : Mg} {os : List Nat} {mc : Mb} {vs0 : List Nat} {σ : L2.St} {H : Hp} {Q' : VK} {τ : En} {M : Mem} {B : Bk} {Qf : List PyData → Mem → Prop} (sub : ∀ j ∈ os, j ∈ vs0)
    (h : i τ M fun ts M1 => goLc g mc m (wipeT τ vs0) Qf ts [] M1) (w : Wd K B M H) (sl : Sl K B σ τ)
    (k : ∀ (D : Addr) (acc : List PyData) (vs : List V) (M2 : Mem) (B2 : Bk) (H2 : Hp), Qf acc M2 → H D = none → Wd K B2 M2 H2 → Ext B H B2 H2 → H2 D = some (.lst vs) → RpA K B2.G vs acc → B2.G D = none → D ∉ B2.r → D ∉ B2.l → Q' (.ref D) H2) :
    tLc (rI K i) (rG K os g) (rB K mc) (rE K m) vs0 σ H Q' := by
  refine ⟨τ, M, B, _, h, w, sl, fun ts M1 B1 H1 J h1 w1 e1 W D hD => ?_⟩
  obtain ⟨dG, dr, dl⟩ := w1.fresh hD
  have sw := (sl.mono e1).wipe vs0
  refine lc_it W (fun i H2 => ∃ acc vs M2 B2, goLc g mc m (wipeT τ vs0) Qf (ts.drop i) acc M2 ∧ Wd K B2 M2 H2 ∧ Ext B1 H1 B2 H2 ∧ H2 D = some (.lst vs) ∧ RpA K B2.G vs acc ∧ B2.G D = none ∧ D ∉ B2.r ∧ D ∉ B2.l) ?_ ?_ ?_ ?_
  · exact ⟨[], [], M1, B1, h1, w1.side hD _, .side hD _, upd_same, .nil, dG, dr, dl⟩
  · rintro i H2 _ ⟨acc, vs, M2, B2, _, w2, e2, _⟩ a o z
    exact w2.le a o (e2.g a o z)
  · rintro i x H2 H3 hlt ⟨acc, vs, M2, B2, h2, w2, e2, d2, r2, g2, n2, l2⟩ y
    obtain ⟨B3, w3, e3, r3⟩ := WalkT.step hlt w2 e2 y
    rw [drop_at hlt, goLc] at h2
    have keepD : ∀ {B4 : Bk} {H4 : Hp}, Ext B2 H2 B4 H4 → H4 D = some (.lst vs) ∧ B4.G D = none ∧ D ∉ B4.r ∧ D ∉ B4.l := fun {B4 H4} e4 => by
      refine ⟨e4.fr D _ d2 n2 l2, ?_, fun z => ?_, fun z => ?_⟩
      · cases q : B4.G D with
        | none => rfl
        | some o =>
          rcases e4.gf D o q with z | z | z
          · rw [g2] at z; cases z
          · rw [d2] at z; cases z
          · exact absurd z l2
      · rcases e4.rn D z with q | q
        · exact n2 q
        · rw [d2] at q; cases q
      · rcases e4.ln D z with q | q
        · exact l2 q
        · rw [d2] at q; cases q
    refine ⟨ts[i], wipeT τ vs0, M2, B3, _, h2, w3, (sw.mono e2).mono e3, r3, fun τ4 M4 B4 σ4 H4 h4 w4 e4 s4 a4 => ⟨a4.wipe sub, ?_⟩⟩
    refine ⟨τ4, M4, B4, _, h4, w4, s4, fun k5 M5 B5 H5 h5 w5 e5 => ?_⟩
    have e25 := e3.trans (e4.trans e5)
    cases k5 with
    | false =>
      obtain ⟨q1, q2, q3, q4⟩ := keepD e25
      exact ⟨acc, vs, M5, B5, h5, w5, e2.trans e25, q1, RpA.mono e25.g r2, q2, q3, q4⟩
    | true =>
      refine ⟨τ4, M5, B5, _, h5, w5, s4.mono e5, fun v t M6 B6 H6 h6 w6 e6 r6 => ?_⟩
      split at h6
      · have e26 := e25.trans e6
        obtain ⟨q1, q2, q3, q4⟩ := keepD e26
        refine ⟨vs, q1, by rw [RpA.length r2]; exact h6.1, acc ++ [_], vs ++ [v], M6, B6, h6.2, ?_, ?_, upd_same, RpA.append (RpA.mono e26.g r2) (.cons r6 .nil), q2, q3, q4⟩
        · -- the world does not know D
          refine ⟨fun a u z => ?_, w6.rlen, w6.llen, w6.nd, fun j a c z1 z2 => ?_, fun j a ds z1 z2 => ?_, fun a ha => ?_⟩
          · rw [upd_ne (ne_of_none z q2)]
            exact w6.le a u z
          · obtain ⟨p1, p2⟩ := w6.dc j a c z1 z2
            exact ⟨p1, CellAt.mono (fun _ _ e => e) (List.prefix_refl _) (upd_ne fun z => q3 (by rw [← z]; exact mem_of_get z1)) p2⟩
          · obtain ⟨p1, xs, p2, p3⟩ := w6.lc j a ds z1 z2
            exact ⟨p1, xs, (upd_ne fun z => q4 (by rw [← z]; exact mem_of_get z1)).trans p2, p3⟩
          · rw [upd_ne fun z => ?_]
            · exact w6.tr a ha
            · rw [z] at ha
              exact (List.mem_append.mp ha).elim q3 q4
        · have x6 := e2.trans e26
          refine ⟨x6.g, x6.r, x6.l, fun a u z n1 n2 => ?_, fun a z => ?_, x6.rn, x6.ln, x6.gf⟩
          · rw [upd_ne (ne_of_none z hD)]
            exact x6.fr a u z n1 n2
          · by_cases q : a = D
            · rw [q]
              exact hD
            · rw [upd_ne q] at z
              exact x6.tr a z
      · exact h6.elim
  · rintro H2 ⟨acc, vs, M2, B2, h2, w2, e2, d2, r2, g2, n2, l2⟩
    rw [List.drop_length] at h2
    exact k D acc vs M2 B2 H2 h2 (e1.tr D hD) w2 (e1.trans e2) d2 r2 g2 n2 l2
theorem lc_of {K : PySem.W.Frag} {i : Mi} {g : Mg} {os : List Nat} {mc : Mb} {vs0 : List Nat} {σ : L2.St} {H : Hp} {Q' : VK} (sub : ∀ j ∈ os, j ∈ vs0) (h : rE K (mLc i g mc m vs0) σ H Q') : tLc (rI K i) (rG K os g) (rB K mc) (rE K m) vs0 σ H Q' := by
  obtain ⟨τ, M, B, Q, h, w, sl, k⟩ := h
  refine lc_gen sub h w sl fun D acc vs M2 B2 H2 h2 hD w2 e2 d2 r2 g2 n2 l2 => ?_
  rcases Ext.adoptG (o := .lst vs) hD e2 with x | x
  · exact k _ _ M2 _ H2 h2 (w2.adoptG g2 n2 l2 d2) x (.lst upd_same (RpA.mono (upd_keep g2) r2))
  · exact absurd g2 x
/-- .. as a list of the frame's own -/
def mLcL (i : Mi) (g : Mg) (c : Mb) (m : Me) (vs : List Nat) : Me := fun τ M Q => i τ M fun ts M1 => goLc g c m (wipeT τ vs) (fun acc M2 => Q (.lr M2.L.length) { M2 with L := M2.L ++ [some acc] }) ts [] M1
theorem Wd.adoptL {K : PySem.W.Frag} {B : Bk} {M : Mem} {H : Hp} (w : Wd K B M H) {p : Addr} (hG : B.G p = none) (hr : p ∉ B.r) (hl : p ∉ B.l) {xs : List V} {ds : List PyData} (hH : H p = some (.lst xs)) (q : RpA K B.G xs ds) :
    Wd K { B with l := B.l ++ [p] } { M with L := M.L ++ [some ds] } H := by
  refine ⟨w.le, w.rlen, by simp [w.llen], ?_, w.dc, fun i a es h1 h2 => ?_, fun a ha => ?_⟩
  · show (B.r ++ (B.l ++ [p])).Nodup
    rw [← List.append_assoc]
    exact nodup_snoc w.nd fun z => (List.mem_append.mp z).elim hr hl
  · have h1' : (B.l ++ [p])[i]? = some a := h1
    have h2' : (M.L ++ [some ds])[i]? = some (some es) := h2
    rcases Nat.lt_or_ge i B.l.length with z | z
    · rw [List.getElem?_append_left z] at h1'
      rw [List.getElem?_append_left (by rw [← w.llen]; exact z)] at h2'
      exact w.lc i a es h1' h2'
    · rw [List.getElem?_append_right z] at h1'
      rw [List.getElem?_append_right (by rw [← w.llen]; exact z), ← w.llen] at h2'
      cases j : i - B.l.length with
      | succ k => rw [j] at h1'; simp at h1'
      | zero =>
        rw [j] at h1' h2'
        simp only [List.getElem?_cons_zero, Option.some.injEq] at h1' h2'
        subst h1'
        subst h2'
        exact ⟨hG, xs, hH, q⟩
  · have ha' : a ∈ B.r ++ (B.l ++ [p]) := ha
    rw [← List.append_assoc] at ha'
    rcases List.mem_append.mp ha' with z | z
    · exact w.tr a z
    · rw [List.mem_singleton] at z
      rw [z, hH]
      exact fun q => nomatch q
theorem lc_ofL {K : PySem.W.Frag} {i : Mi} {g : Mg} {os : List Nat} {mc : Mb} {vs0 : List Nat} {σ : L2.St} {H : Hp} {Q' : VK} (sub : ∀ j ∈ os, j ∈ vs0) (h : rE K (mLcL i g mc m vs0) σ H Q') : tLc (rI K i) (rG K os g) (rB K mc) (rE K m) vs0 σ H Q' := by
  obtain ⟨τ, M, B, Q, h, w, sl, k⟩ := h
  refine lc_gen sub h w sl fun D acc vs M2 B2 H2 h2 hD w2 e2 d2 r2 g2 n2 l2 => ?_
  refine k _ _ _ { B2 with l := B2.l ++ [D] } H2 h2 (w2.adoptL g2 n2 l2 d2 r2) ⟨e2.g, e2.r, e2.l.trans (List.prefix_append _ _), e2.fr, e2.tr, e2.rn, fun a z => ?_, e2.gf⟩ ⟨D, rfl, by rw [← w2.llen]; exact get_snoc⟩
  rcases List.mem_append.mp z with y | y
  · exact e2.ln a y
  · rw [List.mem_singleton] at y
    rw [y]
    exact .inr hD
section
variable {elt : Expr} {ifs : List Expr} {scope : Scope} {own : List (Str × Nat)} {i : Mi} {g : Mg} {os : List Nat} {mc : Mb}
theorem me_lc (hc : X.calm = true) (hN : X.N.Nodup) (hi : MI X tg e i) (ok : BlkOk X.N X.env.scope scope own)
    (hg : ∀ (s : Shared) (H : Hp) (C : Addr) (cl : List (Str × Addr)) (fp : List Addr), MG (X.blk s H scope (compEnvC scope cl C X.env) fp) tg os g) (ht : ∀ (s : Shared) (H : Hp) (C : Addr) (cl : List (Str × Addr)) (fp : List Addr), MTs (X.blk s H scope (compEnvC scope cl C X.env) fp) ifs mc)
    (he : ∀ (s : Shared) (H : Hp) (C : Addr) (cl : List (Str × Addr)) (fp : List Addr), ME (X.blk s H scope (compEnvC scope cl C X.env) fp) elt m) (sub : ∀ j ∈ os, j ∈ own.map (·.2)) (hs : ∀ x, foldedSetIterable e X.env x = pure x := by intro _; rfl) :
    ME X (.ListComp elt [⟨tg, e, ifs, 0⟩] scope pos) (mLc i g mc m (own.map (·.2))) := PE.of (pe_lc (te := rE X.K m) (tt := rB X.K mc) (g := rG X.K os g) hc hN hi ok hg ht he hs) fun _ _ _ h => lc_of sub h
theorem me_lcL (hc : X.calm = true) (hN : X.N.Nodup) (hi : MI X tg e i) (ok : BlkOk X.N X.env.scope scope own)
    (hg : ∀ (s : Shared) (H : Hp) (C : Addr) (cl : List (Str × Addr)) (fp : List Addr), MG (X.blk s H scope (compEnvC scope cl C X.env) fp) tg os g) (ht : ∀ (s : Shared) (H : Hp) (C : Addr) (cl : List (Str × Addr)) (fp : List Addr), MTs (X.blk s H scope (compEnvC scope cl C X.env) fp) ifs mc)
    (he : ∀ (s : Shared) (H : Hp) (C : Addr) (cl : List (Str × Addr)) (fp : List Addr), ME (X.blk s H scope (compEnvC scope cl C X.env) fp) elt m) (sub : ∀ j ∈ os, j ∈ own.map (·.2)) (hs : ∀ x, foldedSetIterable e X.env x = pure x := by intro _; rfl) :
    ME X (.ListComp elt [⟨tg, e, ifs, 0⟩] scope pos) (mLcL i g mc m (own.map (·.2))) := PE.of (pe_lc (te := rE X.K m) (tt := rB X.K mc) (g := rG X.K os g) hc hN hi ok hg ht he hs) fun _ _ _ h => lc_ofL sub h
variable {n : Nat} {y : Str} {py spos : Pos}
theorem ms_setLc (hc : X.calm = true) (hN : X.N.Nodup) (hy : X.N[n]? = some y) (hyl : X.env.scope.names.lookup y = some .local)
    (hsw : swapsWith (.ListComp elt [⟨tg, e, ifs, 0⟩] scope pos) (some (.Name y py)) spos.line X.env = pure true) (hi : MI X tg e i) (ok : BlkOk X.N X.env.scope scope own)
    (hg : ∀ (s : Shared) (H : Hp) (C : Addr) (cl : List (Str × Addr)) (fp : List Addr), MG (X.blk s H scope (compEnvC scope cl C X.env) fp) tg os g) (ht : ∀ (s : Shared) (H : Hp) (C : Addr) (cl : List (Str × Addr)) (fp : List Addr), MTs (X.blk s H scope (compEnvC scope cl C X.env) fp) ifs mc)
    (he : ∀ (s : Shared) (H : Hp) (C : Addr) (cl : List (Str × Addr)) (fp : List Addr), ME (X.blk s H scope (compEnvC scope cl C X.env) fp) elt m) (sub : ∀ j ∈ os, j ∈ own.map (·.2)) (hs : ∀ x, foldedSetIterable e X.env x = pure x := by intro _; rfl) :
    MS X (.Assign [.Name y py] (.ListComp elt [⟨tg, e, ifs, 0⟩] scope pos) spos) (mSet n (mLc i g mc m (own.map (·.2)))) := PS.of (L2.ps_setLc (te := rE X.K m) (tt := rB X.K mc) (g := rG X.K os g) hc hN hy hyl hsw hi ok hg ht he hs) fun D σ H ⟨E, τ, M, B, h, w, sl, go⟩ =>
  lc_of sub ⟨τ, M, B, _, h, w, sl, fun v t M1 B1 H1 h1 w1 e1 r1 => go.nx _ M1 B1 _ H1 h1 w1 e1 ((sl.mono e1).set n r1)⟩
theorem ms_setLcL (hc : X.calm = true) (hN : X.N.Nodup) (hy : X.N[n]? = some y) (hyl : X.env.scope.names.lookup y = some .local)
    (hsw : swapsWith (.ListComp elt [⟨tg, e, ifs, 0⟩] scope pos) (some (.Name y py)) spos.line X.env = pure true) (hi : MI X tg e i) (ok : BlkOk X.N X.env.scope scope own)
    (hg : ∀ (s : Shared) (H : Hp) (C : Addr) (cl : List (Str × Addr)) (fp : List Addr), MG (X.blk s H scope (compEnvC scope cl C X.env) fp) tg os g) (ht : ∀ (s : Shared) (H : Hp) (C : Addr) (cl : List (Str × Addr)) (fp : List Addr), MTs (X.blk s H scope (compEnvC scope cl C X.env) fp) ifs mc)
    (he : ∀ (s : Shared) (H : Hp) (C : Addr) (cl : List (Str × Addr)) (fp : List Addr), ME (X.blk s H scope (compEnvC scope cl C X.env) fp) elt m) (sub : ∀ j ∈ os, j ∈ own.map (·.2)) (hs : ∀ x, foldedSetIterable e X.env x = pure x := by intro _; rfl) :
    MS X (.Assign [.Name y py] (.ListComp elt [⟨tg, e, ifs, 0⟩] scope pos) spos) (mSet n (mLcL i g mc m (own.map (·.2)))) := PS.of (L2.ps_setLc (te := rE X.K m) (tt := rB X.K mc) (g := rG X.K os g) hc hN hy hyl hsw hi ok hg ht he hs) fun D σ H ⟨E, τ, M, B, h, w, sl, go⟩ =>
  lc_ofL sub ⟨τ, M, B, _, h, w, sl, fun v t M1 B1 H1 h1 w1 e1 r1 => go.nx _ M1 B1 _ H1 h1 w1 e1 ((sl.mono e1).set n r1)⟩
end
end
end L3

set_option Elab.async false
set_option linter.all false
set_option maxRecDepth 100000
namespace L3
open PySem PySem.Spec L2

/-! ### defs: as HandS has them, where nothing is being shown (repr asks for it) -/
def Gd (A : Around) : Prop := A.guards = some []
structure FnG (P : Program) (w : World) (K : PySem.W.Frag) (mg : Str → Option Value) (base : Heap) (k : Nat) (f : Addr) (fd : FuncData) (ps : List Str) (sp : Sp) : Prop where
  len : ∀ vs H Q E, sp vs H Q E → vs.length = ps.length
  run : ∀ (A : Around) (outer : List Env) (sh : Shared) (H : Hp) (args : Args) (us : List Value) (vs : List V) (Q : VK) (E : XK), Gd A → Room k A → Env0 P w K mg base A outer sh H → BindsTo sh fd args (ps.zip us) → Vals vs us → sp vs H Q E →
    codeAny (model P w) A (.call (.ref f) args) (CR CX0 outer P w H sh Q E) sh
theorem FnG.mono {P : Program} {w : World} {K : PySem.W.Frag} {mg : Str → Option Value} {base : Heap} {j k : Nat} {f : Addr} {fd : FuncData} {ps : List Str} {sp : Sp} (F : FnG P w K mg base j f fd ps sp) (h : j ≤ k) : FnG P w K mg base k f fd ps sp :=
  ⟨F.len, fun A outer sh H args us vs Q E gd rm => F.run A outer sh H args us vs Q E gd (rm.mono h)⟩
theorem fng_of {P : Program} {w : World} {K : PySem.W.Frag} {mg : Str → Option Value} {base : Heap} {x qual : Str} {st : Stmt} {f : Addr} {fd : FuncData} {N ps : List Str} {k : Nat} {sp : Sp}
    (F : Fun K x qual st f fd) (S : FnScope N ps (defScope st)) (len : ∀ vs H Q E, sp vs H Q E → vs.length = ps.length)
    (body : ∀ (cdv : Value) (A : Around) (outer : List Env) (sh : Shared) (H : Hp) (vs : List V) (Q : VK) (E : XK), Gd (A.deeper (PyProof.Rows.envOfC qual (defScope st) sh.heap.objs.size f cdv)) → Room k (A.deeper (PyProof.Rows.envOfC qual (defScope st) sh.heap.objs.size f cdv)) → sp vs H Q E →
      ∃ t, PSs (cxOf CX0 P w K mg base N qual (defScope st) f cdv A outer sh H E).nox (defBody st) t ∧ t { nx := fun _ H' => Q .non H', rt := Q } (start N vs) H) :
    FnG P w K mg base (k + 1) f fd ps sp := by
  obtain ⟨oc, od, kV, doc, pm, an, cdv, ct, osl, rfl, lk, hcd⟩ := F.ex
  refine ⟨len, fun A outer sh H args us vs Q E gd rm e0 bnd rv q => ?_⟩
  have hlen := len _ _ _ _ q
  have kin : K.In sh.heap := e0.mod.kin.keeps fun b o z => (e0.bs b o z).1
  have nolim : sh.heap.NoLimit := e0.mod.nolimit.keeps fun b o z => (e0.bs b o z).1
  have kinds : ∀ y ∈ ps.zip us, (defScope st).names.lookup y.1 = some .local ∨ ((defScope st).names.lookup y.1 = some .cell ∧ ((cellsFrom (sh.heap.objs.size + 1) (defScope st).names []).lookup y.1).isSome = true) := by
    rintro ⟨nm, vl⟩ hy
    exact (S.par nm (List.of_mem_zip hy).1).elim .inl fun z => .inr ⟨z, PySem.W.cellsFrom_some _ _ _ (.inl z)⟩
  refine codeAny_call_function rm.depth (kin _ _ lk) rfl S.co S.gen rfl (PySem.W.codeRec_of kin hcd) (bnd _ _ _ _ ?_)
  refine wpAny_newFunctionEnv_cells S.kind kinds fun env he sh1 xx => ?_
  subst he
  refine ⟨nolim.keeps xx.toInCall.keep, codeAny_func ?_⟩
  obtain ⟨t, ht, hq⟩ := body cdv A outer sh H vs Q E gd (rm.deeper _) q
  have iv := inv_start (CX := CX0) (E := E) S rm.hd e0 hlen rv xx
  refine wpAny_mono (ht.nox.run [] sh1 (start N vs) H _ iv hq) (fun fl sh' hs => ?_) fun _ _ hs => hs
  cases fl with
  | ret u =>
    obtain ⟨v, σ', H', J, r', q'⟩ := hs
    exact ⟨v, H', J.os, J.bare, J.base, J.hok, r', q'⟩
  | next =>
    obtain ⟨σ', H', J, q'⟩ := hs
    exact ⟨V.non, H', J.os, J.bare, J.base, J.hok, rfl, q'⟩
  | brk => obtain ⟨_, _, _, q'⟩ := hs; exact False.elim q'
  | cont => obtain ⟨_, _, _, q'⟩ := hs; exact False.elim q'

/-! ### what a def makes of trees -/
abbrev FD := List T → List Cell → (T → List Cell → Prop) → Prop
def spM (K : PySem.W.Frag) (m : FD) : Sp := fun vs H Q _ => ∃ ts D B Q1, m ts D Q1 ∧ Wd K B ⟨D, []⟩ H ∧ Paired (Rt K B) vs ts ∧ ∀ v t D' B' H', Q1 t D' → Wd K B' ⟨D', []⟩ H' → Ext B H B' H' → Rt K B' v t → Q v H'
/-- a def of n parameters and N names -/
def mDef (n N : Nat) (body : Ms) : FD := fun ts D Q => ts.length = n ∧ body { nx := fun _ M => Q .non M.D, rt := fun t M => noL t = true ∧ Q t M.D } (ts.map some ++ List.replicate (N - n) none) ⟨D, []⟩
theorem start_sl {K : PySem.W.Frag} {B : Bk} {N : List Str} {vs : List V} {ts : List T} (r : Paired (Rt K B) vs ts) : Sl K B (start N vs) (ts.map some ++ List.replicate (N.length - ts.length) none) := by
  have hl := paired_len r
  refine ⟨by simp [L2.start, hl], fun i t e => ?_⟩
  unfold L2.start
  by_cases hi : i < ts.length
  · rw [List.getElem?_append_left (by rw [List.length_map]; exact hi), List.getElem?_map] at e
    cases h : ts[i]? with
    | none => rw [h] at e; cases e
    | some u =>
      rw [h] at e
      cases e
      obtain ⟨v, h1, h2⟩ := paired_get r h
      exact ⟨v, by rw [List.getElem?_append_left (by rw [List.length_map, hl]; exact hi), List.getElem?_map, h1]; rfl, h2⟩
  · rw [List.getElem?_append_right (by rw [List.length_map]; omega), List.getElem?_replicate] at e
    split at e <;> cases e
/-- a frame's end: its own lists are forgotten -/
theorem Wd.leave {K : PySem.W.Frag} {B : Bk} {M : Mem} {H : Hp} (w : Wd K B M H) : Wd K { B with l := [] } ⟨M.D, []⟩ H :=
  ⟨w.le, w.rlen, rfl, by
    show (B.r ++ []).Nodup
    rw [List.append_nil]
    exact (List.nodup_append.mp w.nd).1, w.dc, fun i a ds h1 _ => by
    have h1' : ([] : List Addr)[i]? = some a := h1
    simp at h1', fun a ha => by
    have ha' : a ∈ B.r ++ [] := ha
    rw [List.append_nil] at ha'
    exact w.tr a (List.mem_append_left _ ha')⟩
theorem ok_def {P : Program} {w : World} {K : PySem.W.Frag} {mg : Str → Option Value} {base : Heap} {x qual : Str} {st : Stmt} {f : Addr} {fd : FuncData} {N ps : List Str} {k : Nat} {m : Ms}
    (F : Fun K x qual st f fd) (S : FnScope N ps (defScope st))
    (body : ∀ (cdv : Value) (A : Around) (outer : List Env) (sh : Shared) (H : Hp) (E : XK), Gd (A.deeper (PyProof.Rows.envOfC qual (defScope st) sh.heap.objs.size f cdv)) → Room k (A.deeper (PyProof.Rows.envOfC qual (defScope st) sh.heap.objs.size f cdv)) →
      MSs (cxOf CX0 P w K mg base N qual (defScope st) f cdv A outer sh H E).nox (defBody st) m) :
    FnG P w K mg base (k + 1) f fd ps (spM K (mDef ps.length N.length m)) := by
  refine fng_of F S (fun vs H Q E h => ?_) fun cdv A outer sh H vs Q E gd rm h => ?_
  · obtain ⟨ts, D, B, Q1, ⟨h1, _⟩, _, r, _⟩ := h
    exact (paired_len r).trans h1
  · obtain ⟨ts, D, B, Q1, ⟨h1, h2⟩, wd, r, kk⟩ := h
    refine ⟨_, body cdv A outer sh H E gd rm, ?_⟩
    have lB : B.l = [] := List.length_eq_zero_iff.mp wd.llen
    have s0 := start_sl (N := N) r
    rw [h1] at s0
    refine ⟨_, _, ⟨D, []⟩, B, h2, wd, s0, ⟨fun τ' M' B' σ' H' q w' e' s' => ?_, fun v t M' B' H' q w' e' r' => ?_, fun _ _ _ _ _ q => q.elim, fun _ _ _ _ _ q => q.elim⟩⟩
    · refine kk .non .non M'.D { B' with l := [] } H' q w'.leave ⟨e'.g, e'.r, ?_, e'.fr, e'.tr, e'.rn, fun a z => absurd z (by simp), e'.gf⟩ .non
      rw [lB]
      exact List.nil_prefix
    · refine kk v t M'.D { B' with l := [] } H' q.2 w'.leave ⟨e'.g, e'.r, ?_, e'.fr, e'.tr, e'.rn, fun a z => absurd z (by simp), e'.gf⟩ (r'.deck q.1)
      rw [lB]
      exact List.nil_prefix

/-! ### calls of defs -/
def fDef (m : FD) : FA := fun ts M Q => (∀ t ∈ ts, noL t = true) ∧ m ts M.D fun t D' => Q t { M with D := D' }
theorem paired_deck {K : PySem.W.Frag} {B : Bk} : ∀ {vs : List V} {ts : List T}, Paired (Rt K B) vs ts → (∀ t ∈ ts, noL t = true) → Paired (Rt K { B with l := [] }) vs ts
  | _, _, .nil, _ => .nil
  | _, _, .cons p q, h => .cons (p.deck (h _ (List.mem_cons_self ..))) (paired_deck q fun t z => h t (List.mem_cons_of_mem _ z))
theorem sp_of {K : PySem.W.Frag} {m : FD} {vs : List V} {ts : List T} {M : Mem} {B : Bk} {H : Hp} {Q : Kt} {Q' : VK} {E : XK} (h : fDef m ts M Q) (w : Wd K B M H) (r : Paired (Rt K B) vs ts)
    (k : ∀ v t' M' B' H', Q t' M' → Wd K B' M' H' → Ext B H B' H' → Rt K B' v t' → Q' v H') : spM K m vs H Q' E := by
  refine ⟨ts, M.D, { B with l := [] }, _, h.2, w.leave, paired_deck r h.1, fun v t D' B1 H1 q w1 e1 r1 => ?_⟩
  have l1 : B1.l = [] := List.length_eq_zero_iff.mp w1.llen
  have own : ∀ a ∈ B.l, H a ≠ none := fun a z => w.tr a (List.mem_append_right _ z)
  have nr1 : ∀ a ∈ B.l, a ∉ B1.r := fun a z y => by
    rcases e1.rn a y with q | q
    · exact w.rl q z
    · exact own a z q
  have stay : ∀ {a : Addr} {o : HO}, a ∈ B.l → H a = some o → H1 a = some o := fun {a o} z e => e1.fr a o e (fun y => w.rl y z) fun y => by cases y
  have e' : Ext B H { B1 with l := B.l } H1 := ⟨e1.g, e1.r, List.prefix_refl _, fun a o e n1 n2 => e1.fr a o e n1 (by intro y; cases y), e1.tr, e1.rn, fun a z => .inl z, fun a o e => (e1.gf a o e).elim .inl fun z => z.elim (fun z => .inr (.inl z)) (by intro z; cases z)⟩
  refine k v t { M with D := D' } { B1 with l := B.l } H1 q ⟨w1.le, w1.rlen, w.llen, ?_, w1.dc, fun i a ds h1 h2 => ?_, fun a ha => ?_⟩ e' ?_
  · show (B1.r ++ B.l).Nodup
    have n1 := w1.nd
    rw [l1, List.append_nil] at n1
    refine List.nodup_append.mpr ⟨n1, (List.nodup_append.mp w.nd).2.1, fun x hx y hy z => ?_⟩
    subst z
    exact nr1 x hy hx
  · obtain ⟨q1, xs, q2, q3⟩ := w.lc i a ds h1 h2
    have ml := mem_of_get h1
    refine ⟨?_, xs, stay ml q2, RpA.mono e1.g q3⟩
    show B1.G a = none
    cases z : B1.G a with
    | none => rfl
    | some o =>
      rcases e1.gf a o z with y | y | y
      · rw [show B.G a = none from q1] at y; cases y
      · exact absurd y (own a ml)
      · cases y
  · have ha' : a ∈ B1.r ++ B.l := ha
    rcases List.mem_append.mp ha' with z | z
    · exact w1.tr a (List.mem_append_left _ z)
    · exact fun y => own a z (e1.tr a y)
  · cases t with
    | d x => exact r1
    | mr i => exact r1
    | lr i =>
      obtain ⟨a, _, z⟩ := r1
      rw [l1] at z
      simp at z
    | scr ns => exact r1
    | wt xs => exact r1
    | exo a c d e => exact r1
section
variable {X : Cx} {k : Nat} {f : Addr} {fd : FuncData} {ps ks : List Str} {m : FD} {x : Str} {p pos : Pos} {e : Expr} {es : List Expr} {mr mk : Ma} {kws : List Keyword}
theorem run_g {args : Args} {us : List Value} {vs : List V} {sp : Sp} {pn : List (Addr × Obj)} {sh : Shared} {sg : L2.St} {hp : Hp} {Q : VK} (F : FnG X.prog X.w X.K X.mg X.base k f fd ps sp) (gd : Gd X.A) (rm : Room k X.A)
    (hb : BindsTo sh fd args (ps.zip us)) (iv : Inv X pn sg hp sh) (rv : Vals vs us) (h : sp vs hp Q E0) : wpAny (model X.prog X.w) X.A (call (.ref f) args.pos args.kw) (EP X pn sg Q) X.xe sh := by
  refine wpAny_call (codeAny_mono (F.run X.A X.stack sh hp args us vs Q E0 gd rm iv.env0 hb rv h) fun r sh' hq => ?_)
  cases r with
  | error z => exact False.elim hq
  | ok fl =>
    cases fl with
    | ret u => exact iv.after hq
    | next => exact hq.elim
    | brk => exact hq.elim
    | cont => exact hq.elim
theorem me_call (F : FnG X.prog X.w X.K X.mg X.base k f fd ps (spM X.K m)) (gd : Gd X.A) (rm : Room k X.A) (hg : Gl X x) (hm : X.mg x = some (.ref f)) (hk : PySem.W.keepIn X.K (.ref f) = true) (hb : Binds X.K fd ps [])
    (ha : MA X (e :: es) mr) (hdb : (x == ("__debug__" : Str)) = false := by decide) (he : starEach (e :: es) X.env = (false, eval e X.env) :: starEach es X.env := by rfl) (hpl : (backTo pos (starEach es X.env)).any (·.1) = false := by rfl) :
    ME X (.Call (.Name x p) (e :: es) [] pos) (mCall (fDef m) mr) := by
  refine ⟨fun pn sh sg hp Q' iv ⟨τ, M, B, Q, h, w, s, kk⟩ => wpAny_Call_Name_kw (ld_glob iv hg hm ?_ hdb)⟩
  let P := fun (vs : List V) (H1 : Hp) => spM X.K m vs H1 Q' E0
  refine PySem.W.callWith_K (h₀ := X.base) iv.ok.mod.kin hk (thn (ha.run pos pn sh sg hp P iv ⟨τ, M, B, _, h, w, s, fun vs ts M1 B1 H1 h1 w1 e1 r1 => ?_⟩) fun us s1 ⟨vs, H1, i1, r, q⟩ => ⟨i1.kIn, ?_⟩) he hpl
  · exact sp_of h1 w1 r1 fun v t M2 B2 H2 h2 w2 e2 r2 => kk v t M2 B2 H2 h2 w2 (e1.trans e2) r2
  · have hl : (us ++ []).length = ps.length := by
      rw [List.append_nil, ← r.length]
      exact F.len _ _ _ _ q
    have hbb := hb s1 us i1.kIn hl
    rw [List.append_nil] at hbb
    exact run_g (args := ⟨us, []⟩) F gd rm hbb i1 r q
theorem me_call0 (F : FnG X.prog X.w X.K X.mg X.base k f fd ps (spM X.K m)) (gd : Gd X.A) (rm : Room k X.A) (hg : Gl X x) (hm : X.mg x = some (.ref f)) (hk : PySem.W.keepIn X.K (.ref f) = true) (hb : Binds X.K fd ps [])
    (hdb : (x == ("__debug__" : Str)) = false := by decide) : ME X (.Call (.Name x p) [] [] pos) (mCall (fDef m) aNil) := by
  refine ⟨fun pn sh sg hp Q' iv ⟨τ, M, B, Q, h, w, s, kk⟩ => wpAny_Call_Name_kw (ld_glob iv hg hm ?_ hdb)⟩
  have q : spM X.K m [] hp Q' E0 := sp_of h w .nil kk
  refine PySem.W.callWith_K0 iv.kIn hk ?_
  have hbb := hb sh [] iv.kIn (F.len _ _ _ _ q)
  exact run_g (args := ⟨[], []⟩) (us := []) F gd rm hbb iv .nil q

/-! ### keywords -/
abbrev MK (X : Cx) (kws : List Keyword) (m : Ma) : Prop := PK X kws (rA X.K m)
theorem PK.of {t t' : TA} (h : PK X kws t) (w : ∀ σ H Q, t' σ H Q → t σ H Q) : PK X kws t' := ⟨fun _ _ _ _ _ _ iv q => h.run _ _ _ _ _ _ iv (w _ _ _ q)⟩
theorem mk_nil : MK X [] aNil := PK.of pk_nil fun σ H Q' ⟨τ, M, B, Q, h, w, s, k⟩ => k _ _ M B H h w (.refl _ _) .nil
theorem mk_cons {nm : Option Str} {kpos : Pos} {me : Me} (ha : ME X e me) (hr : MK X kws mr) : MK X (⟨nm, e, kpos⟩ :: kws) (aCons me mr) := PK.of (pk_cons ha hr) fun σ H Q' ⟨τ, M, B, Q, h, w, s, k⟩ => by
  refine ⟨τ, M, B, _, h, w, s, fun v t M1 B1 H1 h1 w1 e1 r1 => ⟨τ, M1, B1, _, h1, w1, s.mono e1, fun v2 t2 M2 B2 H2 h2 w2 e2 r2 => ?_⟩⟩
  exact k _ _ M2 B2 H2 h2 w2 (e1.trans e2) (.cons (Rt.mono e2 r1) r2)
/-- how keywords alone bind: the values by g in the parameters' order -/
structure KB (K : PySem.W.Frag) (fd : FuncData) (ps ks : List Str) (g : {α : Type} → List α → List α) : Prop where
  to : ∀ (s : Shared) (ws : List Value), K.In s.heap → ws.length = ks.length → BindsTo s fd ⟨[], ks.zip ws⟩ (ps.zip (g ws))
  rel : ∀ {α β : Type} (R : α → β → Prop) {zs : List α} {ws : List β}, zs.length = ks.length → Paired R zs ws → Paired R (g zs) (g ws)
def mCallK (g : {α : Type} → List α → List α) (n : Nat) (f : FA) (r : Ma) : Me := fun τ M Q => r τ M fun ts M1 => ts.length = n ∧ f (g ts) M1 Q
theorem me_callK {g : {α : Type} → List α → List α} (F : FnG X.prog X.w X.K X.mg X.base k f fd ps (spM X.K m)) (gd : Gd X.A) (rm : Room k X.A) (hg : Gl X x) (hm : X.mg x = some (.ref f)) (hk : PySem.W.keepIn X.K (.ref f) = true) (hb : KB X.K fd ps ks g)
    (ha : MK X kws mr) (hall : (backToKw pos (keywordEach kws X.env)).all (·.1.isSome) = true := by rfl) (hks : (backToKw pos (keywordEach kws X.env)).filterMap (·.1) = ks := by rfl) (hdb : (x == ("__debug__" : Str)) = false := by decide)
    (hpl : ((backTo pos (starEach [] X.env)).any (·.1) || (backToKw pos (keywordEach kws X.env)).any (·.1.isNone)) = false := by rfl) :
    ME X (.Call (.Name x p) [] kws pos) (mCallK g ks.length (fDef m) mr) := by
  refine ⟨fun pn sh sg hp Q' iv ⟨τ, M, B, Q, h, w, s, kk⟩ => wpAny_Call_Name_kw (ld_glob iv hg hm ?_ hdb)⟩
  let P := fun (vs : List V) (H1 : Hp) => vs.length = ks.length ∧ spM X.K m (g vs) H1 Q' E0
  refine PySem.W.callWith_KW0 (h₀ := X.base) iv.ok.mod.kin hk hall (thn (ha.run pos pn sh sg hp P iv ⟨τ, M, B, _, h, w, s, fun vs ts M1 B1 H1 h1 w1 e1 r1 => ?_⟩) fun us s1 ⟨vs, H1, i1, r, l, q⟩ => ⟨i1.kIn, ?_⟩) hpl
  · have l1 : vs.length = ks.length := (paired_len r1).trans h1.1
    exact ⟨l1, sp_of h1.2 w1 (hb.rel _ l1 r1) fun v t M2 B2 H2 h2 w2 e2 r2 => kk v t M2 B2 H2 h2 w2 (e1.trans e2) r2⟩
  · rw [hks]
    have l2 : us.length = ks.length := by
      rw [← r.length]
      exact l
    exact run_g (args := ⟨[], ks.zip us⟩) F gd rm (hb.to s1 us i1.kIn l2) i1 (hb.rel _ l r) q
end
end L3

set_option Elab.async false
set_option linter.all false
set_option maxRecDepth 100000
namespace L3
open PySem PySem.Spec L2

/-! ### repr -/
structure OkShow (x : PyData) : Prop where
  sh : x.showable = true
  nd : x.hasDict = false
  dp : x.depth ≤ 100
  ln : x.shown.length ≤ sizeLine
def fRepr : FA := fun ts M Q => match ts with
  | [t] => (match now t M with
    | some x => OkShow x ∧ Q (.str x.shown) M
    | none => False)
  | _ => False
def rRepr (K : PySem.W.Frag) : List V → Hp → VK → Prop := fun xs H Q => ∃ v x, xs = [v] ∧ Dp K H v x ∧ OkShow x ∧ Q (.str x.shown) H
theorem cal_repr {K : PySem.W.Frag} : CaL K (rRepr K) fRepr := by
  intro xs ts M B H Q Q' h w r k
  unfold fRepr at h
  split at h
  · obtain ⟨v, rfl, r1⟩ := paired_one r
    split at h
    · rename_i x e
      exact ⟨v, x, rfl, w.dpNow r1 e, h.1, k _ _ M B H h.2 w (.refl _ _) (.str _)⟩
    · exact h.elim
  · exact h.elim
theorem cr_repr {X : Cx} {k : Nat} (gd : Gd X.A) (rm : Room k X.A) : CallR X (.builtin "repr") (rRepr X.K) := by
  intro pn sh sg hp xs us Q iv rv h
  obtain ⟨v, x, rfl, hd, ok, q⟩ := h
  cases rv with
  | cons r1 rr =>
    cases rr
    have un := rm.un
    have dp := ok.dp
    have fin : ∀ (h' : Heap) (u : Tok) (tk : Nat), (∀ b o, sh.heap.get? b = some o → h'.get? b = some o) → EP X pn sg Q (.str x.shown u) { sh with heap := h', toks := tk } := fun h' u tk z => ⟨.str x.shown, hp, iv.kept z, ⟨_, rfl⟩, q⟩
    obtain ⟨as, rd⟩ := Dp.reads iv x v _ hd r1
    cases rd with
    | none => exact PySem.P.repr_of_none (fin _ _ _ fun _ _ z => z)
    | bool b => exact PySem.P.repr_of_bool (fin _ _ _ fun _ _ z => z)
    | int i t => exact PySem.P.repr_of_int (of_decide_eq_true ok.sh) (fin _ _ _ fun _ _ z => z)
    | str y t => exact PySem.P.repr_of_str (fin _ _ _ fun _ _ z => z) ok.ln
    | list h1 h2 h3 h4 => exact repr_of_reads' (.list h1 h2 h3 h4) ok.sh (PyData.noDict_hsm ok.nd) gd (by omega) (fun _ _ z => z) fin ok.ln
    | tuple h1 h2 h3 h4 => exact repr_of_reads' (.tuple h1 h2 h3 h4) ok.sh (PyData.noDict_hsm ok.nd) gd (by omega) (fun _ _ z => z) fin ok.ln
    | dict h1 h2 h3 h4 h5 => exact repr_of_reads' (.dict h1 h2 h3 h4 h5) ok.sh (PyData.noDict_hsm ok.nd) gd (by omega) (fun _ _ z => z) fin ok.ln

/-! ### the law's own call -/
theorem head_core {P : Program} {w : World} {K : PySem.W.Frag} {mg mb : Str → Option Value} {k : Nat} {fa a : Addr} {fd : FuncData} {x : Str} {sp : Sp} {s1 : Shared} {vs : List Value} {H : Hp}
    (kin : K.In s1.heap) (ns : s1.heap.Ns mainGlobals mg) (nb : s1.heap.Ns builtinsNs mb) (bb : ∀ x : Str, x ≠ "__name__" → mb x = bootBuiltins x) (lim : s1.heap.NoLimit) (gens : s1.gens = #[])
    (ha : s1.heap.get? a = some { cls := .type "list", data := .seq vs.toArray }) (rm : Room k callerA)
    (F : ∀ base : Heap, K.In base → base.Ns mainGlobals mg → FnG P w K mg base k fa fd [x] sp) (bnd : ∀ (s : Shared) (u : Value), BindsTo s fd ⟨[u], []⟩ [(x, u)])
    (hO : Only H) (hsp : sp [.ref a] H (fun v _ => v = .bl true) fun _ _ _ => False) (hok : HOk P w H s1.heap) (hA : ∀ b, H b ≠ none → b = a) (hK : H a ≠ none → K.lookup a = none) :
    codeAny (model P w) callerA (.call (.ref fa) ⟨[.ref a], []⟩) (fun r s' => r = .ok (.ret (.bool true)) ∧ PySem.OldK s1.heap s'.heap ∧ s'.os = s1.os ∧ PyProof.Rows.AllBare s'.gens) s1 := by
  have untr : ∀ {b : Addr} {o : Obj}, s1.heap.get? b = some o → (∀ u, H b = some u → b = a → False) → (hidT s1.heap H).get? b = some o := fun {b o} e n => by
    refine hidT_get e ?_
    cases z : H b with
    | none => rfl
    | some u => exact (n u z (hA b (by rw [z]; exact fun y => nomatch y))).elim
  have nsK : ∀ {b : Addr} {m : Str → Option Value}, s1.heap.Ns b m → (hidT s1.heap H).Ns b m := by
    rintro b m ⟨o, es, ep, e, d, r⟩
    refine ⟨o, es, ep, untr e fun u _ z => ?_, d, r⟩
    subst z
    rw [ha] at e
    cases e
    exact nomatch (show Data.seq vs.toArray _ = Data.dict es ep from d)
  have kinb : K.In (hidT s1.heap H) := fun b o e => untr (kin b o e) fun u z y => by
    subst y
    rw [hK (by rw [z]; exact fun y => nomatch y)] at e
    cases e
  obtain ⟨mc, l1, l2⟩ := lim
  have md : Mod K mg (hidT s1.heap H) := ⟨kinb, nsK ns, ⟨mb, nsK nb, bb⟩, ⟨mc, nsK l1, l2⟩⟩
  have e0 : Env0 P w K mg (hidT s1.heap H) callerA [] s1 H := by
    refine ⟨rfl, md, fun b o e => of_hidT e, Nat.le_of_eq (hidT_size _ _), trivial, fun b z => ?_, hok, .of_eq gens⟩
    cases (show b ∈ ([] : List Addr) from z)
  refine codeAny_mono ((F _ kinb (nsK ns)).run callerA [] s1 H ⟨[.ref a], []⟩ [.ref a] [.ref a] _ _ rfl rm e0 (bnd s1 (.ref a)) (.cons rfl .nil) hsp) fun r s' h => ?_
  cases r with
  | error e => exact False.elim h
  | ok fl =>
    cases fl with
    | next => exact h.elim
    | brk => exact h.elim
    | cont => exact h.elim
    | ret u =>
      obtain ⟨v, H', os, bare, un, hok', r', q⟩ := h
      obtain rfl : v = .bl true := q
      obtain rfl : u = Value.bool true := r'
      refine ⟨rfl, PySem.OldK.of_keep fun b o e => ?_, os, bare⟩
      cases q : H b with
      | none =>
        refine un.keep b o e q (fun z => ?_) (fun z => ?_)
        · cases (show b ∈ ([] : List Addr) from z)
        · cases z
      | some u =>
        rcases hO b with z | ⟨ob, xs, z⟩
        · rw [q] at z; cases z
        · obtain ⟨e1, _⟩ := hok b _ z
          obtain ⟨e2, _⟩ := hok' b _ (un.frzs b ob _ z)
          rw [e] at e1
          cases e1
          exact e2
theorem head_call {P : Program} {w : World} {K : PySem.W.Frag} {mg mb : Str → Option Value} {k : Nat} {fa a : Addr} {fd : FuncData} {x : Str} {sp : Sp} {s1 : Shared} {vs : List Value} {ns : List Int}
    (kin : K.In s1.heap) (hns : s1.heap.Ns mainGlobals mg) (nb : s1.heap.Ns builtinsNs mb) (bb : ∀ x : Str, x ≠ "__name__" → mb x = bootBuiltins x) (lim : s1.heap.NoLimit) (gens : s1.gens = #[])
    (ha : s1.heap.get? a = some { cls := .type "list", data := .seq vs.toArray }) (hi : PyProof.Rows.IntsAre vs ns) (hl : ns.length ≤ sizeLine) (rm : Room k callerA)
    (F : ∀ base : Heap, K.In base → base.Ns mainGlobals mg → FnG P w K mg base k fa fd [x] sp) (bnd : ∀ (s : Shared) (u : Value), BindsTo s fd ⟨[u], []⟩ [(x, u)])
    (hsp : ∀ H : Hp, Only H → SqL K H a (ns.map V.int) → sp [.ref a] H (fun v _ => v = .bl true) fun _ _ _ => False) :
    codeAny (model P w) callerA (.call (.ref fa) ⟨[.ref a], []⟩) (fun r s' => r = .ok (.ret (.bool true)) ∧ PySem.OldK s1.heap s'.heap ∧ s'.os = s1.os ∧ PyProof.Rows.AllBare s'.gens) s1 := by
  have rv := vals_ints hi
  have hlen := hi.length
  cases hk : K.lookup a with
  | some o =>
    have e := kin a o hk
    rw [ha] at e
    cases e
    have hO : Only (fun _ => none) := fun _ => .inl rfl
    refine head_core kin hns nb bb lim gens ha rm F bnd hO (hsp _ hO (.inr ⟨_, vs.toArray, _, hk, rfl, rfl, rfl, ?_, ?_⟩)) (fun b u z => nomatch z) (fun b z => absurd rfl z) fun z => absurd rfl z
    · rw [List.size_toArray, hlen]
      exact hl
    · simpa using rv
  | none =>
    let H : Hp := fun b => if b = a then some (.frz { cls := .type "list", data := .seq vs.toArray } (.lst (ns.map V.int))) else none
    have hH : ∀ b u, H b = some u → b = a ∧ u = .frz { cls := .type "list", data := .seq vs.toArray } (.lst (ns.map V.int)) := fun b u z => by
      by_cases y : b = a
      · exact ⟨y, (Option.some.inj ((if_pos y).symm.trans z)).symm⟩
      · cases (if_neg y).symm.trans z
    have hO : Only H := fun b => by
      by_cases y : b = a
      · exact .inr ⟨_, _, if_pos y⟩
      · exact .inl (if_neg y)
    refine head_core kin hns nb bb lim gens ha rm F bnd hO (hsp H hO (.inl (.inr ⟨_, if_pos rfl⟩))) (fun b u z => ?_) (fun b z => ?_) fun _ => hk
    · obtain ⟨rfl, rfl⟩ := hH b u z
      exact ⟨ha, by rw [List.length_map]; exact hl, vs, _, rv, ha⟩
    · cases y : H b with
      | none => exact absurd y z
      | some u => exact (hH b u y).1
/-- THE END: the law's promise over trees -/
theorem walkG {l : PySem.W.OpenLaw} {n k : Nat} {q : Program} {loose : List Str} {XP : (Str → Option Value) → Heap → Prop} {YP : World → Heap → Prop} {d : DefRec} {K : Params → PySem.W.Frag} {m : FD} {x : Str}
    (hn : l.most = some n) (hn2 : n ≤ sizeLine) (hdf : d.params.defaults = []) (rm : Room k callerA) (hY : ∀ (w : World) (h : Heap), YP w h → (K w.params).In h)
    (F : ∀ (w : World) (mg : Str → Option Value) (fa : Addr) (h : Heap), (K w.params).In h → h.Ns mainGlobals mg → mg d.name = some (.ref fa) →
      ∃ fd : FuncData, (∀ (s : Shared) (u : Value), BindsTo s fd ⟨[u], []⟩ [(x, u)]) ∧ ∀ base : Heap, (K w.params).In base → base.Ns mainGlobals mg → FnG l.prog w (K w.params) mg base k fa fd [x] (spM (K w.params) m))
    (law : ∀ ns : List Int, ns.length ≤ n → m [.scr ns] [] fun t _ => t = T.bl true) :
    PySem.W.WalkO q loose XP YP l.row.toRowW d [] (fun f vs => PySem.call f vs) := by
  refine Att.attach_call hn hdf fun w s₀ s1 mg mb fa o pm cd doc a vs ns G Y ho hd hcd hmg hobj hints hlen hg => ?_
  obtain ⟨fd, hb, hF⟩ := F w mg fa _ (hY w _ Y) G.T.g hmg
  refine head_call (hY w _ Y) G.T.g G.T.b G.T.builtins G.T.nolimit hg hobj hints (Nat.le_trans hlen hn2) rm hF hb fun H hO hS => ?_
  refine ⟨[.scr ns], [], ⟨H, [], []⟩, _, law ns hlen, ⟨fun _ _ z => z, rfl, rfl, List.nodup_nil, fun i a c z => ?_, fun i a c z => ?_, fun a z => ?_⟩, .cons ⟨a, rfl, hS⟩ .nil, fun v t D' B' H' z w' e' r' => ?_⟩
  · simp at z
  · simp at z
  · cases z
  · subst z
    cases r'
    rfl
end L3

set_option Elab.async false
set_option linter.all false
set_option maxRecDepth 100000
namespace L3
open PySem PySem.Spec L2

/-! ### a def that is known by its name -/
def Kn (P : Program) (w : World) (K : PySem.W.Frag) (mg : Str → Option Value) (base : Heap) (k : Nat) (x : Str) (st : Stmt) (ps : List Str) (m : FD) : Prop :=
  ∃ f fd, FnG P w K mg base k f fd ps (spM K m) ∧ mg x = some (.ref f) ∧ Fun K x x st f fd ∧ Binds K fd ps []
section
variable {X : Cx} {j k : Nat} {x : Str} {st : Stmt} {ps ks : List Str} {m : FD} {p pos : Pos} {e : Expr} {es : List Expr} {mr : Ma} {kws : List Keyword}
theorem me_fn (h : Kn X.prog X.w X.K X.mg X.base j x st ps m) (gd : Gd X.A) (rm : Room k X.A) (hj : j ≤ k) (hg : Gl X x) (ha : MA X (e :: es) mr) (hdb : (x == ("__debug__" : Str)) = false := by decide)
    (he : starEach (e :: es) X.env = (false, eval e X.env) :: starEach es X.env := by rfl) (hpl : (backTo pos (starEach es X.env)).any (·.1) = false := by rfl) : ME X (.Call (.Name x p) (e :: es) [] pos) (mCall (fDef m) mr) :=
  let ⟨_, _, F, hm, U, hb⟩ := h
  me_call F gd (rm.mono hj) hg hm U.kp hb ha hdb he hpl
theorem me_fn0 (h : Kn X.prog X.w X.K X.mg X.base j x st ps m) (gd : Gd X.A) (rm : Room k X.A) (hj : j ≤ k) (hg : Gl X x) (hdb : (x == ("__debug__" : Str)) = false := by decide) : ME X (.Call (.Name x p) [] [] pos) (mCall (fDef m) aNil) :=
  let ⟨_, _, F, hm, U, hb⟩ := h
  me_call0 F gd (rm.mono hj) hg hm U.kp hb hdb
theorem me_fnK {g : {α : Type} → List α → List α} (h : Kn X.prog X.w X.K X.mg X.base j x st ps m) (gd : Gd X.A) (rm : Room k X.A) (hj : j ≤ k) (hg : Gl X x) (hb : ∀ f fd, Fun X.K x x st f fd → KB X.K fd ps ks g)
    (ha : MK X kws mr) (hall : (backToKw pos (keywordEach kws X.env)).all (·.1.isSome) = true := by rfl) (hks : (backToKw pos (keywordEach kws X.env)).filterMap (·.1) = ks := by rfl) (hdb : (x == ("__debug__" : Str)) = false := by decide)
    (hpl : ((backTo pos (starEach [] X.env)).any (·.1) || (backToKw pos (keywordEach kws X.env)).any (·.1.isNone)) = false := by rfl) : ME X (.Call (.Name x p) [] kws pos) (mCallK g ks.length (fDef m) mr) :=
  let ⟨_, _, F, hm, U, _⟩ := h
  me_callK F gd (rm.mono hj) hg hm U.kp (hb _ _ U) ha hall hks hdb hpl
end
theorem kb_of {K : PySem.W.Frag} {x qual : Str} {st : Stmt} {f : Addr} {fd : FuncData} {ps ks : List Str} {g : {α : Type} → List α → List α} (F : Fun K x qual st f fd)
    (h : ∀ (kV doc pm : Value) (an : Option Addr) (cdv ct : Value) (ws : List Value), ws.length = ks.length → bindArgs (PySem.W.fnOf x qual (defArgs st) (defBody st) (defScope st) .none kV doc pm an cdv ct) ⟨[], ks.zip ws⟩ = pure (ps.zip (g ws)))
    (rel : ∀ {α β : Type} (R : α → β → Prop) {zs : List α} {ws : List β}, zs.length = ks.length → Paired R zs ws → Paired R (g zs) (g ws)) : KB K fd ps ks g := by
  obtain ⟨oc, od, kV, doc, pm, an, cdv, ct, osl, rfl, lk, hcd⟩ := F.ex
  exact ⟨fun s ws _ hl => .of_eq (h kV doc pm an cdv ct ws hl), rel⟩

/-! ### operators by name -/
def CDv (i j : Int) : Prop := 0 < j ∧ j < 18446744073709551616
theorem CDv.wide {i j : Int} (h : CDv i j) : CDivW i j := by
  refine ⟨h.1, ?_⟩
  have h2 : j.natAbs < 2 ^ 64 := by have := h.2; have := h.1; omega
  have h3 : j.natAbs ≠ 0 := by have := h.1; omega
  have h4 : j.natAbs.log2 < 64 := (Nat.log2_lt h3).mpr h2
  omega
section
variable {X : Cx} {a b c e : Expr} {ma mb m : Me} {pos : Pos}
def oSub : F2 := oI (fun _ _ => True) fun i j => .int (i - j)
def oDiv : F2 := oI CDv fun i j => .int (i / j)
def oMod : F2 := oI (fun _ j => 0 < j) fun i j => .int (i % j)
def oPow : F2 := oI CPow fun i j => .int (i ^ j.toNat)
def oShl : F2 := oI CPow fun i j => .int (i * 2 ^ j.toNat)
def oShr : F2 := oI (fun _ j => 0 ≤ j) fun i j => .int (i / 2 ^ j.toNat)
def oAnd : F2 := oI (fun _ _ => True) fun i j => .int (Builtin.bitAnd i j)
def oLt : F2 := oI (fun _ _ => True) fun i j => .bool (decide (i < j))
def oLe : F2 := oI (fun _ _ => True) fun i j => .bool (decide (i ≤ j))
def oGt : F2 := oI (fun _ _ => True) fun i j => .bool (decide (j < i))
def oGe : F2 := oI (fun _ _ => True) fun i j => .bool (decide (j ≤ i))
theorem me_add (ha : ME X a ma) (hb : ME X b mb) : ME X (.BinOp a .Add b pos) (mOp oAdd ma mb) := me_op opr_add opl_add ha hb
theorem me_sub (ha : ME X a ma) (hb : ME X b mb) : ME X (.BinOp a .Sub b pos) (mOp oSub ma mb) := me_op op_sub (opl_I0 fun _ _ _ => .int _) ha hb
theorem me_mul (ha : ME X a ma) (hb : ME X b mb) : ME X (.BinOp a .Mult b pos) (mOp oMul ma mb) := me_op opr_mul opl_mul ha hb
theorem opr_div : OpR X (binaryOp .FloorDiv) (L2.rI CDv fun i j => .int (i / j)) := by
  intro pn sh sg hp x y v u Q iv rx ry ⟨i, j, e1, e2, c, q⟩
  exact op_fdivW pn sh sg hp x y v u Q iv rx ry ⟨i, j, e1, e2, c.wide, q⟩
theorem me_div (ha : ME X a ma) (hb : ME X b mb) : ME X (.BinOp a .FloorDiv b pos) (mOp oDiv ma mb) := me_op opr_div (opl_I fun _ _ _ => .int _) ha hb
theorem me_mod (ha : ME X a ma) (hb : ME X b mb) : ME X (.BinOp a .Mod b pos) (mOp oMod ma mb) := me_op op_mod (opl_I fun _ _ _ => .int _) ha hb
theorem me_pow (ha : ME X a ma) (hb : ME X b mb) : ME X (.BinOp a .Pow b pos) (mOp oPow ma mb) := me_op op_pow (opl_I fun _ _ _ => .int _) ha hb
theorem me_shl (ha : ME X a ma) (hb : ME X b mb) : ME X (.BinOp a .LShift b pos) (mOp oShl ma mb) := me_op op_shl (opl_I fun _ _ _ => .int _) ha hb
theorem me_shr (ha : ME X a ma) (hb : ME X b mb) : ME X (.BinOp a .RShift b pos) (mOp oShr ma mb) := me_op op_shr (opl_I fun _ _ _ => .int _) ha hb
theorem me_band (ha : ME X a ma) (hb : ME X b mb) : ME X (.BinOp a .BitAnd b pos) (mOp oAnd ma mb) := me_op op_and (opl_I0 fun _ _ _ => .int _) ha hb
theorem me_lt (ha : ME X a ma) (hb : ME X b mb) : ME X (.Compare a [.Lt] [b] pos) (mOp oLt ma mb) := me_cmp op_lt (opl_I0 fun _ _ _ => .bl _) ha hb (nomark _)
theorem me_le (ha : ME X a ma) (hb : ME X b mb) : ME X (.Compare a [.LtE] [b] pos) (mOp oLe ma mb) := me_cmp op_le (opl_I0 fun _ _ _ => .bl _) ha hb (nomark _)
theorem me_gt (ha : ME X a ma) (hb : ME X b mb) : ME X (.Compare a [.Gt] [b] pos) (mOp oGt ma mb) := me_cmp op_gt (opl_I0 fun _ _ _ => .bl _) ha hb (nomark _)
theorem me_ge (ha : ME X a ma) (hb : ME X b mb) : ME X (.Compare a [.GtE] [b] pos) (mOp oGe ma mb) := me_cmp op_ge (opl_I0 fun _ _ _ => .bl _) ha hb (nomark _)
theorem me_eq {k : Nat} (rm : Room k X.A) (ha : ME X a ma) (hb : ME X b mb) : ME X (.Compare a [.Eq] [b] pos) (mOp (oEq false) ma mb) := me_cmp (opr_eq rm.units) opl_eq ha hb (nomark _)
theorem me_ne {k : Nat} (rm : Room k X.A) (ha : ME X a ma) (hb : ME X b mb) : ME X (.Compare a [.NotEq] [b] pos) (mOp (oEq true) ma mb) := me_cmp (opr_ne rm.units) opl_ne ha hb (nomark _)
theorem mb_lt (ha : ME X a ma) (hb : ME X b mb) : MB X (.Compare a [.Lt] [b] pos) (mTest (mOp oLt ma mb)) := mb_cmp op_lt (opl_I0 fun _ _ _ => .bl _) ha hb (nomark _)
theorem mb_le (ha : ME X a ma) (hb : ME X b mb) : MB X (.Compare a [.LtE] [b] pos) (mTest (mOp oLe ma mb)) := mb_cmp op_le (opl_I0 fun _ _ _ => .bl _) ha hb (nomark _)
theorem mb_gt (ha : ME X a ma) (hb : ME X b mb) : MB X (.Compare a [.Gt] [b] pos) (mTest (mOp oGt ma mb)) := mb_cmp op_gt (opl_I0 fun _ _ _ => .bl _) ha hb (nomark _)
theorem mb_ge (ha : ME X a ma) (hb : ME X b mb) : MB X (.Compare a [.GtE] [b] pos) (mTest (mOp oGe ma mb)) := mb_cmp op_ge (opl_I0 fun _ _ _ => .bl _) ha hb (nomark _)
theorem mb_eq {k : Nat} (rm : Room k X.A) (ha : ME X a ma) (hb : ME X b mb) : MB X (.Compare a [.Eq] [b] pos) (mTest (mOp (oEq false) ma mb)) := mb_cmp (opr_eq rm.units) opl_eq ha hb (nomark _)
theorem mb_ne {k : Nat} (rm : Room k X.A) (ha : ME X a ma) (hb : ME X b mb) : MB X (.Compare a [.NotEq] [b] pos) (mTest (mOp (oEq true) ma mb)) := mb_cmp (opr_ne rm.units) opl_ne ha hb (nomark _)
theorem me_append {mo : Me} {mr : Ma} {o x : Expr} {apos cpos : Pos} (ho : ME X o mo) (ha : MA X [x] mr) (hbase : attributeBase o "append" X.env (eval o X.env) = eval o X.env := by rfl)
    (hfew : ((backTo cpos (starEach [x] X.env)).all (fun x => !x.1) && (backToKw cpos (keywordEach [] X.env)).all (fun x => x.1.isSome) && decide (([x] : List Expr).length + ([] : List Keyword).length + (if ([] : List Keyword).isEmpty then 0 else 1) < 30)) = true := by rfl)
    (hline : (apos.endLine == cpos.line) = true := by rfl) (hs : starEach [x] X.env = (false, eval x X.env) :: starEach [] X.env := by rfl) : ME X (.Call (.Attribute o "append" apos) [x] [] cpos) (mMeth fApp mo mr) :=
  me_lm PySem.F.plainAttrs_list PySem.F.slot_list_append PySem.F.type_list_append mt_append mel_app ho ha hbase hfew hline hs rfl
theorem me_pop {mo : Me} {o : Expr} {apos cpos : Pos} (ho : ME X o mo) (hbase : attributeBase o "pop" X.env (eval o X.env) = eval o X.env := by rfl) (hline : (apos.endLine == cpos.line) = true := by rfl) : ME X (.Call (.Attribute o "pop" apos) [] [] cpos) (mMeth0 fPop mo) :=
  me_lm0 PySem.F.plainAttrs_list PySem.F.slot_list_pop PySem.F.type_list_pop mt_pop mel_pop ho hbase hline
end
section
variable {X : Cx} {e : Expr} {es : List Expr} {mr : Ma} {p pos : Pos}
theorem me_len (hg : Gl X "len") (hm : X.mg "len" = none) (ha : MA X (e :: es) mr) (he : starEach (e :: es) X.env = (false, eval e X.env) :: starEach es X.env := by rfl) (hpl : (backTo pos (starEach es X.env)).any (·.1) = false := by rfl) : ME X (.Call (.Name "len" p) (e :: es) [] pos) (mCall fLen mr) := me_callB cr_len cal_len hg hm (by decide +kernel) ha (by decide) (by decide) he hpl
theorem me_max (hc : X.calm = true) (hg : Gl X "max") (hm : X.mg "max" = none) (ha : MA X (e :: es) mr) (he : starEach (e :: es) X.env = (false, eval e X.env) :: starEach es X.env := by rfl) (hpl : (backTo pos (starEach es X.env)).any (·.1) = false := by rfl) : ME X (.Call (.Name "max" p) (e :: es) [] pos) (mCall fMax mr) := me_callB (crl_max hc) cal_max hg hm (by decide +kernel) ha (by decide) (by decide) he hpl
theorem me_min (hc : X.calm = true) (hg : Gl X "min") (hm : X.mg "min" = none) (ha : MA X (e :: es) mr) (he : starEach (e :: es) X.env = (false, eval e X.env) :: starEach es X.env := by rfl) (hpl : (backTo pos (starEach es X.env)).any (·.1) = false := by rfl) : ME X (.Call (.Name "min" p) (e :: es) [] pos) (mCall fMin mr) := me_callB (crl_min hc) cal_min hg hm (by decide +kernel) ha (by decide) (by decide) he hpl
theorem me_sum (hc : X.calm = true) (hg : Gl X "sum") (hm : X.mg "sum" = none) (ha : MA X (e :: es) mr) (he : starEach (e :: es) X.env = (false, eval e X.env) :: starEach es X.env := by rfl) (hpl : (backTo pos (starEach es X.env)).any (·.1) = false := by rfl) : ME X (.Call (.Name "sum" p) (e :: es) [] pos) (mCall fSum mr) := me_callB (cr_sum hc) cal_sum hg hm (by decide +kernel) ha (by decide) (by decide) he hpl
theorem me_abs (hg : Gl X "abs") (hm : X.mg "abs" = none) (ha : MA X (e :: es) mr) (he : starEach (e :: es) X.env = (false, eval e X.env) :: starEach es X.env := by rfl) (hpl : (backTo pos (starEach es X.env)).any (·.1) = false := by rfl) : ME X (.Call (.Name "abs" p) (e :: es) [] pos) (mCall fAbs mr) := me_callB call_abs cal_abs hg hm (by decide +kernel) ha (by decide) (by decide) he hpl
theorem me_repr {k : Nat} (gd : Gd X.A) (rm : Room k X.A) (hg : Gl X "repr") (hm : X.mg "repr" = none) (ha : MA X (e :: es) mr) (he : starEach (e :: es) X.env = (false, eval e X.env) :: starEach es X.env := by rfl) (hpl : (backTo pos (starEach es X.env)).any (·.1) = false := by rfl) : ME X (.Call (.Name "repr" p) (e :: es) [] pos) (mCall fRepr mr) := me_callB (cr_repr gd rm) cal_repr hg hm (by decide +kernel) ha (by decide) (by decide) he hpl
theorem me_tuple (hg : Gl X "tuple") (hm : X.mg "tuple" = none) (ha : MA X (e :: es) mr) (he : starEach (e :: es) X.env = (false, eval e X.env) :: starEach es X.env := by rfl) (hpl : (backTo pos (starEach es X.env)).any (·.1) = false := by rfl) : ME X (.Call (.Name "tuple" p) (e :: es) [] pos) (mCall fTuple mr) := me_callTy call_tupleC cal_tuple hg hm (by decide +kernel) ha (by decide) (by decide) he hpl
theorem me_list (hg : Gl X "list") (hm : X.mg "list" = none) (ha : MA X (e :: es) mr) (he : starEach (e :: es) X.env = (false, eval e X.env) :: starEach es X.env := by rfl) (hpl : (backTo pos (starEach es X.env)).any (·.1) = false := by rfl) : ME X (.Call (.Name "list" p) (e :: es) [] pos) (mCall fList mr) := me_callTy call_list_of cal_list hg hm (by decide +kernel) ha (by decide) (by decide) he hpl
theorem me_listL (hg : Gl X "list") (hm : X.mg "list" = none) (ha : MA X (e :: es) mr) (he : starEach (e :: es) X.env = (false, eval e X.env) :: starEach es X.env := by rfl) (hpl : (backTo pos (starEach es X.env)).any (·.1) = false := by rfl) : ME X (.Call (.Name "list" p) (e :: es) [] pos) (mCall fListL mr) := me_callTy call_list_of cal_listL hg hm (by decide +kernel) ha (by decide) (by decide) he hpl
theorem me_inti (hg : Gl X "int") (hm : X.mg "int" = none) (ha : MA X (e :: es) mr) (he : starEach (e :: es) X.env = (false, eval e X.env) :: starEach es X.env := by rfl) (hpl : (backTo pos (starEach es X.env)).any (·.1) = false := by rfl) : ME X (.Call (.Name "int" p) (e :: es) [] pos) (mCall fInt mr) := me_callTy call_int1 cal_int hg hm (by decide +kernel) ha (by decide) (by decide) he hpl
end
end L3

set_option Elab.async false
set_option linter.all false
set_option maxRecDepth 100000
namespace L3
open PySem PySem.Spec L2

/-! ### lists of the deck -/
theorem upd_id {H : Hp} {p : Addr} {o : HO} (h : H p = some o) : upd H p o = H := by
  funext b
  unfold upd
  by_cases z : b = p
  · rw [if_pos z, z, h]
  · rw [if_neg z]
theorem RpA.paired {K : PySem.W.Frag} {B : Bk} : ∀ {vs : List V} {ds : List PyData}, RpA K B.G vs ds → Paired (Rt K B) vs (ds.map T.d)
  | _, _, .nil => .nil
  | _, _, .cons p q => .cons p (RpA.paired q)
def mLcD (i : Mi) (g : Mg) (c : Mb) (m : Me) (vs : List Nat) : Me := fun τ M Q => i τ M fun ts M1 => goLc g c m (wipeT τ vs) (fun acc M2 => Q (.mr M2.D.length) { M2 with D := M2.D ++ [.lst (acc.map T.d)] }) ts [] M1
section
variable {m : Me}
theorem lc_ofD {K : PySem.W.Frag} {i : Mi} {g : Mg} {os : List Nat} {mc : Mb} {vs0 : List Nat} {σ : L2.St} {H : Hp} {Q' : VK} (sub : ∀ j ∈ os, j ∈ vs0) (h : rE K (mLcD i g mc m vs0) σ H Q') : tLc (rI K i) (rG K os g) (rB K mc) (rE K m) vs0 σ H Q' := by
  obtain ⟨τ, M, B, Q, h, w, sl, k⟩ := h
  refine lc_gen sub h w sl fun D acc vs M2 B2 H2 h2 hD w2 e2 d2 r2 g2 n2 l2 => ?_
  have w3 := w2.adoptR g2 n2 l2 (o := .lst vs) (c := .lst (acc.map T.d)) fun H' eH => ⟨vs, eH, RpA.paired r2⟩
  rw [upd_id d2] at w3
  refine k _ _ _ _ H2 h2 w3 ⟨e2.g, e2.r.trans (List.prefix_append _ _), e2.l, e2.fr, e2.tr, fun a z => ?_, e2.ln, e2.gf⟩ ⟨D, rfl, by rw [← w2.rlen]; exact get_snoc⟩
  rcases List.mem_append.mp z with y | y
  · exact e2.rn a y
  · rw [List.mem_singleton] at y
    rw [y]
    exact .inr hD
end
section
variable {X : Cx} {e tg : Expr} {m : Me} {pos : Pos} {elt : Expr} {ifs : List Expr} {scope : Scope} {own : List (Str × Nat)} {i : Mi} {g : Mg} {os : List Nat} {mc : Mb} {n : Nat} {y : Str} {py spos : Pos}
theorem ms_setLcD (hc : X.calm = true) (hN : X.N.Nodup) (hy : X.N[n]? = some y) (hyl : X.env.scope.names.lookup y = some .local)
    (hsw : swapsWith (.ListComp elt [⟨tg, e, ifs, 0⟩] scope pos) (some (.Name y py)) spos.line X.env = pure true) (hi : MI X tg e i) (ok : BlkOk X.N X.env.scope scope own)
    (hg : ∀ (s : Shared) (H : Hp) (C : Addr) (cl : List (Str × Addr)) (fp : List Addr), MG (X.blk s H scope (compEnvC scope cl C X.env) fp) tg os g) (ht : ∀ (s : Shared) (H : Hp) (C : Addr) (cl : List (Str × Addr)) (fp : List Addr), MTs (X.blk s H scope (compEnvC scope cl C X.env) fp) ifs mc)
    (he : ∀ (s : Shared) (H : Hp) (C : Addr) (cl : List (Str × Addr)) (fp : List Addr), ME (X.blk s H scope (compEnvC scope cl C X.env) fp) elt m) (sub : ∀ j ∈ os, j ∈ own.map (·.2)) (hs : ∀ x, foldedSetIterable e X.env x = pure x := by intro _; rfl) :
    MS X (.Assign [.Name y py] (.ListComp elt [⟨tg, e, ifs, 0⟩] scope pos) spos) (mSet n (mLcD i g mc m (own.map (·.2)))) := PS.of (L2.ps_setLc (te := rE X.K m) (tt := rB X.K mc) (g := rG X.K os g) hc hN hy hyl hsw hi ok hg ht he hs) fun D σ H ⟨E, τ, M, B, h, w, sl, go⟩ =>
  lc_ofD sub ⟨τ, M, B, _, h, w, sl, fun v t M1 B1 H1 h1 w1 e1 r1 => go.nx _ M1 B1 _ H1 h1 w1 e1 ((sl.mono e1).set n r1)⟩
/-- swapsWith of a name = [..] on one line -/
theorem swT {gs : List Comprehension} {l : Nat} (hk : X.env.scope.kind = .function) (hy : X.env.scope.names.lookup y = some .local) (hl : (py.line == pos.line) = true)
    (ha : (scope.names.any fun (n, k) => n == y && (k == .local || k == .cell)) = false) : swapsWith (.ListComp elt gs scope pos) (some (.Name y py)) l X.env = pure true := sw_true hk hy hl ha
/-- a list display of the deck, of whatever stands in the deck -/
def mNewD (r : Ma) : Me := fun τ M Q => r τ M fun ts M1 => ((∀ t ∈ ts, noL t = true) ∧ ts.length ≤ sizeLine) ∧ Q (.mr M1.D.length) { M1 with D := M1.D ++ [.lst ts] }
theorem me_newD {es : List Expr} {mr : Ma} (h : MA X es mr) : ME X (.List es pos) (mNewD mr) := PE.of (pe_lst h) fun σ H Q' ⟨τ, M, B, Q, h, w, s, k⟩ => by
  refine ⟨τ, M, B, _, h, w, s, fun v t M1 B1 H1 h1 w1 e1 r1 => ?_⟩
  obtain ⟨⟨hno, hz⟩, q⟩ := h1
  refine ⟨by rw [paired_len r1]; exact hz, fun p hp => ?_⟩
  obtain ⟨w2, e2⟩ := w1.newD hp (o := .lst v) (c := .lst t) fun H' eH => ⟨v, eH, Paired.imp (fun _ _ q => Rt.mono' (B := { B1 with l := [] }) (B' := { B1 with r := B1.r ++ [p], l := [] }) (fun _ _ e => e) (List.prefix_append _ _) (List.prefix_refl _) q) (paired_deck r1 hno)⟩
  exact k _ _ _ _ _ q w2 (e1.trans e2) ⟨p, rfl, by rw [← w1.rlen]; exact get_snoc⟩
end
end L3

set_option Elab.async false
set_option linter.all false
set_option maxRecDepth 100000
namespace L3
open PySem PySem.Spec L2

/-! ### how the readings reckon -/
section
variable {τ : En} {M : Mem} {Q : Kt} {E : Es} {x y : T} {f g : F2} {m r o : Me} {i j n : Nat} {D : List Cell} {L : List (Option (List PyData))}
@[simp] theorem x_var : mVar i τ M Q = ∃ t, τ[i]? = some (some t) ∧ Q t M := rfl
@[simp] theorem x_c {d : PyData} : mC d τ M Q = Q (.d d) M := rfl
@[simp] theorem x_op : mOp f m r τ M Q = m τ M fun x M1 => r τ M1 fun y M2 => f x y M2 Q := rfl
@[simp] theorem x_un {f : F1} : mUn f m τ M Q = m τ M fun x M1 => f x M1 Q := rfl
@[simp] theorem x_neg {i : Int} : oNeg (.d (.int i)) M Q = Q (.int (-i)) M := rfl
@[simp] theorem x_add {i j : Int} : oAdd (.d (.int i)) (.d (.int j)) M Q = Q (.int (i + j)) M := rfl
@[simp] theorem x_addl {a b : List PyData} : oAdd (.d (.list a)) (.d (.list b)) M Q = (a.length + b.length ≤ sizeLine ∧ Q (.lst (a ++ b)) M) := rfl
@[simp] theorem x_addt {a b : List PyData} : oAdd (.d (.tuple a)) (.d (.tuple b)) M Q = (a.length + b.length ≤ sizeLine ∧ Q (.tup (a ++ b)) M) := rfl
@[simp] theorem x_sub {i j : Int} : oSub (.d (.int i)) (.d (.int j)) M Q = Q (.int (i - j)) M := by simp [oSub, oI]
@[simp] theorem x_mul {i j : Int} : oMul (.d (.int i)) (.d (.int j)) M Q = (CMul i j ∧ Q (.int (i * j)) M) := rfl
@[simp] theorem x_div {i j : Int} : oDiv (.d (.int i)) (.d (.int j)) M Q = (CDv i j ∧ Q (.int (i / j)) M) := rfl
@[simp] theorem x_mod {i j : Int} : oMod (.d (.int i)) (.d (.int j)) M Q = (0 < j ∧ Q (.int (i % j)) M) := rfl
@[simp] theorem x_pow {i j : Int} : oPow (.d (.int i)) (.d (.int j)) M Q = (CPow i j ∧ Q (.int (i ^ j.toNat)) M) := rfl
@[simp] theorem x_shl {i j : Int} : oShl (.d (.int i)) (.d (.int j)) M Q = (CPow i j ∧ Q (.int (i * 2 ^ j.toNat)) M) := rfl
@[simp] theorem x_and {i j : Int} : oAnd (.d (.int i)) (.d (.int j)) M Q = Q (.int (Builtin.bitAnd i j)) M := by simp [oAnd, oI]
@[simp] theorem x_lt {i j : Int} : oLt (.d (.int i)) (.d (.int j)) M Q = Q (.bl (decide (i < j))) M := by simp [oLt, oI]
@[simp] theorem x_le {i j : Int} : oLe (.d (.int i)) (.d (.int j)) M Q = Q (.bl (decide (i ≤ j))) M := by simp [oLe, oI]
@[simp] theorem x_gt {i j : Int} : oGt (.d (.int i)) (.d (.int j)) M Q = Q (.bl (decide (j < i))) M := by simp [oGt, oI]
@[simp] theorem x_ge {i j : Int} : oGe (.d (.int i)) (.d (.int j)) M Q = Q (.bl (decide (j ≤ i))) M := by simp [oGe, oI]
@[simp] theorem x_now {d : PyData} : now (.d d) M = some d := rfl
theorem x_eq {a b : PyData} {n : Bool} (h1 : now x M = some a) (h2 : now y M = some b) (s1 : SeqAt.shaped a = true) (s2 : SeqAt.shaped b = true) (no : ∀ z, a ≠ .str z) : oEq n x y M Q = Q (.bl (if n then !PyData.eqv a b else PyData.eqv a b)) M := by
  unfold oEq
  split
  · cases h1
    exact absurd rfl (no _)
  · rw [h1, h2]
    simp [s1, s2]
@[simp] theorem x_eqi {i j : Int} {n : Bool} : oEq n (.d (.int i)) (.d (.int j)) M Q = Q (.bl (if n then !decide (i = j) else decide (i = j))) M := by
  rw [x_eq (a := .int i) (b := .int j) rfl rfl rfl rfl fun _ z => nomatch z]
  rfl
@[simp] theorem x_eqs {a b : Str} {n : Bool} : oEq n (.d (.str a)) (.d (.str b)) M Q = Q (.bl (if n then !decide (a = b) else decide (a = b))) M := rfl
@[simp] theorem x_test : mTest m τ M Q' = m τ M fun x M1 => ∃ k, x = .d (.bool k) ∧ Q' k M1 := rfl
@[simp] theorem x_band {t u : Mb} {R : Bool → Mem → Prop} : bAnd t u τ M R = t τ M fun b M1 => if b = true then u τ M1 R else R false M1 := rfl
@[simp] theorem x_bor {t u : Mb} {R : Bool → Mem → Prop} : bOr t u τ M R = t τ M fun b M1 => if b = true then R true M1 else u τ M1 R := rfl
@[simp] theorem x_bnot {t : Mb} {R : Bool → Mem → Prop} : bNot t τ M R = t τ M fun b M1 => R (!b) M1 := rfl
@[simp] theorem x_byes {R : Bool → Mem → Prop} : bYes τ M R = R true M := rfl
@[simp] theorem x_ite {c : Mb} : mIte c m r τ M Q = c τ M fun b M1 => if b = true then m τ M1 Q else r τ M1 Q := rfl
@[simp] theorem x_chain {a b c : Me} : mChain f g a b c τ M Q = a τ M fun a M1 => b τ M1 fun b M2 => f a b M2 fun t M3 => match t with
  | .d (.bool true) => c τ M3 fun c M4 => g b c M4 Q
  | .d (.bool false) => Q (.bl false) M3
  | _ => False := rfl
@[simp] theorem x_mand : mAnd m r τ M Q = m τ M fun t M1 => match t with
  | .d (.bool true) => r τ M1 Q
  | .d (.bool false) => Q (.bl false) M1
  | _ => False := rfl
@[simp] theorem x_mor : mOr m r τ M Q = m τ M fun t M1 => match t with
  | .d (.bool true) => Q (.bl true) M1
  | .d (.bool false) => r τ M1 Q
  | _ => False := rfl
@[simp] theorem x_mnot : mNot m τ M Q = m τ M fun t M1 => match t with
  | .d (.bool b) => Q (.bl (!b)) M1
  | _ => False := rfl
variable {R : List T → Mem → Prop} {a : Ma}
@[simp] theorem x_anil : aNil τ M R = R [] M := rfl
@[simp] theorem x_acons : aCons m a τ M R = m τ M fun x M1 => a τ M1 fun xs M2 => R (x :: xs) M2 := rfl
@[simp] theorem x_dat0 : datas [] = some [] := rfl
@[simp] theorem x_dat1 {d : PyData} {l : List T} : datas (.d d :: l) = (datas l).map (d :: ·) := rfl
@[simp] theorem x_tup : mTup a τ M Q = a τ M fun ts M1 => match datas ts with
  | some ds => ds.length ≤ sizeLine ∧ Q (.tup ds) M1
  | none => False := rfl
@[simp] theorem x_lst : mLst a τ M Q = a τ M fun ts M1 => match datas ts with
  | some ds => ds.length ≤ sizeLine ∧ Q (.lst ds) M1
  | none => False := rfl
@[simp] theorem x_newL : mNewL a τ M Q = a τ M fun ts M1 => match datas ts with
  | some ds => ds.length ≤ sizeLine ∧ Q (.lr M1.L.length) { M1 with L := M1.L ++ [some ds] }
  | none => False := rfl
@[simp] theorem x_frz : mFrz m τ M Q = m τ M fun t M1 => match t with
  | .lr i => (match M1.L[i]? with
    | some (some ds) => Q (.lst ds) { M1 with L := M1.L.set i none }
    | _ => False)
  | t => Q t M1 := rfl
@[simp] theorem x_ixl {l : List PyData} {k : Int} : oIx (.d (.list l)) (.d (.int k)) M Q = ∃ t, atI l k = some t ∧ Q (.d t) M := rfl
@[simp] theorem x_ixt {l : List PyData} {k : Int} : oIx (.d (.tuple l)) (.d (.int k)) M Q = ∃ t, atI l k = some t ∧ Q (.d t) M := rfl
@[simp] theorem x_ixL {k : Int} : oIx (.lr i) (.d (.int k)) M Q = (match M.L[i]? with
    | some (some xs) => ∃ t, atI xs k = some t ∧ Q (.d t) M
    | _ => False) := rfl
@[simp] theorem x_ixD {k : Int} : oIx (.mr i) (.d (.int k)) M Q = (match M.D[i]? with
    | some (.lst ts) => ∃ t, atI ts k = some t ∧ Q t M
    | _ => False) := rfl
@[simp] theorem x_dget {s : Str} : oDGet (.mr i) (.d (.str s)) M Q = (match M.D[i]? with
    | some (.dct kvs) => ∃ t, lookT kvs (.inr s) = some t ∧ Q t M
    | _ => False) := rfl
@[simp] theorem x_sl {lo hi : Mo} : mSl m lo hi τ M Q = m τ M fun x M1 => lo τ M1 fun l M2 => hi τ M2 fun u M3 => oSl x l u M3 Q := rfl
@[simp] theorem x_onone {P : Option Int → Mem → Prop} : oNone τ M P = P none M := rfl
@[simp] theorem x_opart {P : Option Int → Mem → Prop} : oPart m τ M P = m τ M fun t M1 => match t with
  | .d (.int i) => P (some i) M1
  | _ => False := rfl
@[simp] theorem x_slscr {ns : List Int} {lo hi : Option Int} : oSl (.scr ns) lo hi M Q = Q (.lst ((cutT ns lo hi).map .int)) M := rfl
@[simp] theorem x_sltup {ns : List PyData} {lo hi : Option Int} : oSl (.d (.tuple ns)) lo hi M Q = Q (.tup (cutT ns lo hi)) M := rfl
@[simp] theorem x_sllst {ns : List PyData} {lo hi : Option Int} : oSl (.d (.list ns)) lo hi M Q = Q (.lst (cutT ns lo hi)) M := rfl
@[simp] theorem x_call {f : FA} : mCall f a τ M Q = a τ M fun ts M1 => f ts M1 Q := rfl
@[simp] theorem x_callk {g : {α : Type} → List α → List α} {f : FA} : mCallK g n f a τ M Q = a τ M fun ts M1 => ts.length = n ∧ f (g ts) M1 Q := rfl
@[simp] theorem x_def {d : FD} {ts : List T} : fDef d ts M Q = ((∀ t ∈ ts, noL t = true) ∧ d ts M.D fun t D' => Q t { M with D := D' }) := rfl
@[simp] theorem x_noL1 {d : PyData} : noL (.d d) = true := rfl
@[simp] theorem x_noL2 : noL (.mr i) = true := rfl
@[simp] theorem x_noL3 {ns : List Int} : noL (.scr ns) = true := rfl
@[simp] theorem x_int {k : Int} : fInt [.d (.int k)] M Q = Q (.int k) M := rfl
@[simp] theorem x_intb {k : Bool} : fInt [.d (.bool k)] M Q = Q (.int (if k then 1 else 0)) M := rfl
@[simp] theorem x_abs {k : Int} : fAbs [.d (.int k)] M Q = Q (.int (if k < 0 then -k else k)) M := rfl
@[simp] theorem x_max2 {k l : Int} : fMax [.d (.int k), .d (.int l)] M Q = Q (.int (if l > k then l else k)) M := rfl
@[simp] theorem x_min2 {k l : Int} : fMin [.d (.int k), .d (.int l)] M Q = Q (.int (if l < k then l else k)) M := rfl
@[simp] theorem x_lenl {l : List PyData} : fLen [.d (.list l)] M Q = Q (.int l.length) M := rfl
@[simp] theorem x_lent {l : List PyData} : fLen [.d (.tuple l)] M Q = Q (.int l.length) M := rfl
@[simp] theorem x_lens {ns : List Int} : fLen [.scr ns] M Q = Q (.int ns.length) M := by
  show Q (.int ((ns.map PyData.int).length : Nat)) M = _
  rw [List.length_map]
@[simp] theorem x_tupl {l : List PyData} : fTuple [.d (.list l)] M Q = Q (.tup l) M := rfl
@[simp] theorem x_tupt {l : List PyData} : fTuple [.d (.tuple l)] M Q = Q (.tup l) M := rfl
@[simp] theorem x_tupL : fTuple [.lr i] { D := D, L := L } Q = (match L[i]? with
    | some (some xs) => Q (.tup xs) { D := D, L := L }
    | _ => False) := by
  unfold fTuple now
  cases h : L[i]? with
  | none => simp [h]
  | some o => cases o <;> simp [h]
@[simp] theorem x_repr {d : PyData} : fRepr [.d d] M Q = (OkShow d ∧ Q (.str d.shown) M) := rfl
@[simp] theorem x_meth {f : T → FA} : mMeth f m a τ M Q = m τ M fun x M1 => isL x M1 ∧ a τ M1 fun ts M2 => f x ts M2 Q := rfl
@[simp] theorem x_meth0 {f : T → FA} : mMeth0 f m τ M Q = m τ M fun x M1 => isL x M1 ∧ f x [] M1 Q := rfl
@[simp] theorem x_isL : isL (.lr i) M = ∃ ds, M.L[i]? = some (some ds) := rfl
@[simp] theorem x_isD : isL (.mr i) M = ∃ ts, M.D[i]? = some (.lst ts) := rfl
@[simp] theorem x_appL {z : PyData} : fApp (.lr i) [.d z] M Q = (match M.L[i]? with
    | some (some ds) => ds.length < sizeLine ∧ Q .non { M with L := M.L.set i (some (ds ++ [z])) }
    | _ => False) := rfl
@[simp] theorem x_appD {t : T} : fApp (.mr i) [t] M Q = (match M.D[i]? with
    | some (.lst us) => noL t = true ∧ us.length < sizeLine ∧ Q .non { M with D := M.D.set i (.lst (us ++ [t])) }
    | _ => False) := rfl
@[simp] theorem x_popD : fPop (.mr i) [] M Q = (match M.D[i]? with
    | some (.lst us) => ∃ t, us[us.length - 1]? = some t ∧ Q t { M with D := M.D.set i (.lst us.dropLast) }
    | _ => False) := rfl
@[simp] theorem x_popL : fPop (.lr i) [] M Q = (match M.L[i]? with
    | some (some ds) => ∃ z, ds[ds.length - 1]? = some z ∧ Q (.d z) { M with L := M.L.set i (some ds.dropLast) }
    | _ => False) := rfl
variable {s t : Ms}
@[simp] theorem x_next : mNext E τ M = E.nx τ M := rfl
theorem x_seq : mSeq s t E τ M = s { E with nx := t E } τ M := rfl
@[simp] theorem x_drop : mDrop m E τ M = m τ M fun _ M1 => E.nx τ M1 := rfl
@[simp] theorem x_ret : mRet m E τ M = m τ M E.rt := rfl
@[simp] theorem x_if {c : Mb} : mIf c s t E τ M = c τ M fun b M1 => if b = true then s E τ M1 else t E τ M1 := rfl
@[simp] theorem x_set : mSet i m E τ M = m τ M fun t M1 => E.nx (τ.set i (some t)) M1 := rfl
@[simp] theorem x_asg {g : Mg} : mAsg m g E τ M = m τ M fun t M1 => g t τ M1 E.nx := rfl
@[simp] theorem x_par : mPar i j a E τ M = a τ M fun ts M1 => match ts with
  | [t, u] => E.nx ((τ.set i (some t)).set j (some u)) M1
  | _ => False := rfl
@[simp] theorem x_dput {d k v : Me} : mDPut d k v E τ M = v τ M fun t M1 => d τ M1 fun x M2 => k τ M2 fun y M3 => match x, keyOf y with
  | .mr i, some kk => (match M3.D[i]? with
    | some (.dct kvs) => noL t = true ∧ kvs.length < sizeLine ∧ E.nx τ { M3 with D := M3.D.set i (.dct (putT kvs kk t)) }
    | _ => False)
  | _, _ => False := rfl
@[simp] theorem x_lput {d k v : Me} : mLPut d k v E τ M = v τ M fun t M1 => d τ M1 fun x M2 => k τ M2 fun y M3 => match x, y, t with
  | .lr i, .d (.int j), .d z => (match M3.L[i]? with
    | some (some ds) => ∃ n, ixN ds.length j = some n ∧ E.nx τ { M3 with L := M3.L.set i (some (ds.set n z)) }
    | _ => False)
  | _, _, _ => False := rfl
@[simp] theorem x_key {s : Str} : keyOf (.d (.str s)) = some (.inr s) := rfl
variable {P : En → Mem → Prop} {mi : Mi} {mg : Mg}
@[simp] theorem x_gn {t : T} : gN i t τ M P = P (τ.set i (some t)) M := rfl
@[simp] theorem x_gtu {r : Mgs} {xs : List PyData} : gTu n r (.d (.tuple xs)) τ M P = (xs.length = n ∧ r xs τ M P) := rfl
@[simp] theorem x_gtw {r : Mgs} {xs : List PyData} : gTu n r (.wt xs) τ M P = (xs.length = n ∧ r xs τ M P) := rfl
@[simp] theorem x_gsn {xs : List PyData} : gsNil xs τ M P = (xs = [] ∧ P τ M) := rfl
@[simp] theorem x_gsc {r : Mgs} {d : PyData} {xs : List PyData} : gsCons mg r (d :: xs) τ M P = mg (.d d) τ M fun τ1 M1 => r xs τ1 M1 P := rfl
@[simp] theorem x_iseq {R : List T → Mem → Prop} : iSeq m τ M R = m τ M fun t M1 => match t with
  | .d (.list xs) => R (xs.map T.d) M1
  | .d (.tuple xs) => R (xs.map T.d) M1
  | .scr ns => R (ns.map T.int) M1
  | _ => False := rfl
@[simp] theorem x_irange {R : List T → Mem → Prop} : iRange a τ M R = a τ M fun ts M1 => match ts with
  | [.d (.int j)] => (-(2 ^ 62) ≤ j ∧ j < 2 ^ 62) ∧ R (rangeT j.toNat) M1
  | _ => False := rfl
theorem x_for : mFor mi mg s E τ M = mi τ M fun ts M1 => goFor mg s E ts τ M1 := rfl
theorem w_seq (h : s { E with nx := t E } τ M) : mSeq s t E τ M := h
theorem w_for (h : mi τ M fun ts M1 => goFor mg s E ts τ M1) : mFor mi mg s E τ M := h
theorem w_if {c : Mb} (h : c τ M fun b M1 => if b = true then s E τ M1 else t E τ M1) : mIf c s t E τ M := h
theorem x_forn : goFor mg s E [] τ M = E.nx τ M := rfl
theorem x_forc {t : T} {ts : List T} : goFor mg s E (t :: ts) τ M = mg t τ M fun τ1 M1 => s { E with nx := goFor mg s E ts, ct := goFor mg s E ts, bk := E.nx } τ1 M1 := rfl
theorem x_lc {c : Mb} {vs : List Nat} : mLc mi mg c m vs τ M Q = mi τ M fun ts M1 => goLc mg c m (wipeT τ vs) (fun acc M2 => Q (.lst acc) M2) ts [] M1 := rfl
theorem x_lcn {c : Mb} {τ0 : En} {acc : List PyData} {R : List PyData → Mem → Prop} : goLc mg c m τ0 R [] acc M = R acc M := rfl
theorem x_lcc {c : Mb} {τ0 : En} {acc : List PyData} {R : List PyData → Mem → Prop} {t : T} {ts : List T} : goLc mg c m τ0 R (t :: ts) acc M = mg t τ0 M fun τ1 M1 => c τ1 M1 fun k M2 => if k = true then m τ1 M2 fun y M3 => (match y with
      | .d z => acc.length < sizeLine ∧ goLc mg c m τ0 R ts (acc ++ [z]) M3
      | _ => False) else goLc mg c m τ0 R ts acc M2 := by
  rw [goLc] <;> rfl
end
end L3

set_option Elab.async false
set_option linter.all false
set_option maxRecDepth 100000
namespace L3
open PySem PySem.Spec L2

/-! ### lists and tuples that are walked with others -/
theorem begin_enum1 {v : Value} {o : Obj} {Hh : Heap → Prop} (B : Begins v o Hh) :
    Meets (Builtin.«enumerate.__new__» ⟨[.type "enumerate", v], []⟩) (fun _ R s => Hh s.heap ∧
      R (.ok (.ret (.ref (s.heap.push o).objs.size))) { s with heap := (s.heap.push o).push { cls := .type "enumerate", data := .fields #[.none, .bool false, .ref s.heap.objs.size, rawInt 0, .none, .none] } }) :=
  .of_wp fun prog w A R s hh => by
    obtain ⟨hp, gg, dd, tk, os⟩ := s
    obtain ⟨h1, hr⟩ := hh
    have hsub := sub_enumerate
    have it1 : ∀ {A' : Around} {E : Value → Shared → Prop} {Q : Value → Shared → Prop}, Q (.ref hp.objs.size) ⟨hp.push o, gg, dd, tk, os⟩ → wpAny (model prog w) A' (pyIter v) Q E ⟨hp, gg, dd, tk, os⟩ :=
      fun q => B.iter prog w _ _ ⟨hp, gg, dd, tk, os⟩ _ h1 q
    wp_walk using it1
    refine wpAny_stack_any fun st => wpAny_pure ?_
    split
    · rename_i c _ _ _ _ _
      cases (c == Value.type "enumerate")
      · wp_walk using it1
        exact ⟨_, rfl, hr⟩
      · wp_walk using it1
        exact ⟨_, rfl, hr⟩
    · wp_walk using it1
      exact ⟨_, rfl, hr⟩

inductive Src where
  | l | t
def srcS (K : PySem.W.Frag) (k : Src) (H : Hp) (a : Addr) (xs : List V) : Prop := match k with
  | .l => SqL K H a xs
  | .t => SqT K H a xs
def itS (k : Src) (h : Heap) (it a : Addr) (i : Nat) : Prop := match k with
  | .l => h.IsListIter it a i
  | .t => h.IsTupleIter it a i
def atS (k : Src) (h : Heap) (a : Addr) (items : Array Value) : Prop := match k with
  | .l => h.IsList a items
  | .t => h.IsTuple a items
def obS (k : Src) (a : Addr) : Obj := match k with
  | .l => { cls := .type "list_iterator", data := .fields #[.ref a, .int 0 0] }
  | .t => { cls := .type "tuple_iterator", data := .fields #[.ref a, .int 0 0] }
theorem drawS {prog : Program} {w : World} {A : Around} (k : Src) (hh : A.handled = none) (it a : Addr) (hne : a ≠ it) (items : Array Value) :
    Draws prog w A it [it, a] items.size (fun i v => items[i]? = some v) (fun i h => itS k h it a i ∧ atS k h a items) := by
  cases k with
  | l => exact Draws.list hh it a hne items
  | t => exact Draws.tuple hh it a hne items
theorem beginS (k : Src) (a : Addr) (items : Array Value) : Begins (.ref a) (obS k a) fun h => atS k h a items := by
  cases k with
  | l => exact begins_list a items
  | t => exact begins_tuple a items
theorem itS_ob (k : Src) {h : Heap} {it a : Addr} (e : h.get? it = some (obS k a)) : itS k h it a 0 := by
  cases k with
  | l => exact ⟨_, e, rfl, rfl⟩
  | t => exact ⟨_, e, rfl, rfl⟩
theorem itS_obj {k : Src} {h : Heap} {it a : Addr} {i : Nat} (e : itS k h it a i) : ∃ o, h.get? it = some o ∧ ∀ v, o.data ≠ .cell v := by
  cases k with
  | l =>
    obtain ⟨o, h1, _, h2⟩ := e
    exact ⟨o, h1, fun v q => by rw [h2] at q; cases q⟩
  | t =>
    obtain ⟨o, h1, _, h2⟩ := e
    exact ⟨o, h1, fun v q => by rw [h2] at q; cases q⟩
theorem itS_at {k : Src} {h h' : Heap} {it a : Addr} {i : Nat} (e : itS k h it a i) (f : ∀ o, h.get? it = some o → h'.get? it = some o) : itS k h' it a i := by
  cases k with
  | l => exact Heap.IsListIter.at e f
  | t => exact Heap.IsTupleIter.at e f
section
variable {X : Cx} {pn : List (Addr × Obj)} {sg : L2.St} {hp : Hp} {sh : Shared}
theorem invS (iv : Inv X pn sg hp sh) {k : Src} {a : Addr} {xs : List V} (h : srcS X.K k hp a xs) : ∃ its : List Value, Vals xs its ∧ atS k sh.heap a its.toArray := by
  cases k with
  | l =>
    obtain ⟨its, rv, pl, _⟩ := iv.list h
    exact ⟨its, rv, pl.isList⟩
  | t =>
    obtain ⟨its, rv, pl, _⟩ := iv.tuple h
    exact ⟨its, rv, pl⟩
end
/-- an iterator of new tuples: at turn i the tuple ys i, while S holds of the heap -/
def ItN (n : Nat) (S : Hp → Prop) (ys : Nat → List V) : It :=
  ⟨fun i H => i < n ∧ S H, fun i H x H' => ∃ p, x = .ref p ∧ H p = none ∧ H' = upd H p (.tup (ys i)), fun i H => i = n ∧ S H⟩
/-- what walks as GoesN does, once the sources are read -/
theorem turn_goes {P : Program} {w : World} {K : PySem.W.Frag} {elts : List Expr} {kk : Nat} {tpos : Pos} {I : Addr} {fp fpA wr : List Addr} {n : Nat} {S : Hp → Prop} {ys : Nat → List V} {tn : Nat → Heap → Prop}
    (mem : I ∈ fp) (obj : ∀ i h, tn i h → ∀ b ∈ fp, ∃ o, h.get? b = some o ∧ ∀ v, o.data ≠ .cell v) (keep : ∀ i h h', tn i h → (∀ b ∈ fp, ∀ o, h.get? b = some o → h'.get? b = some o) → tn i h')
    (wrs : ∀ b ∈ wr, b ∈ fp) (len : ∀ i, (ys i).length ≤ sizeLine)
    (goes : ∀ (X : Cx), X.prog = P → X.w = w → X.K = K → X.calm = true → ∀ (pn : List (Addr × Obj)) (sh : Shared) (sg : L2.St) (hp : Hp), Inv X pn sg hp sh → S hp →
      ∃ (St : Nat → Heap → Prop) (Y : Nat → Heap → Value → Heap → Prop), GoesN P w X.A (.Tuple elts kk tpos) I fpA wr n Y St ∧ (∀ i, tn i sh.heap → St i sh.heap) ∧ (∀ i h, St i h → tn i h) ∧
        ∀ i v h, i < n → Y i sh.heap v h → ∃ T us, v = .ref T ∧ sh.heap.objs.size ≤ T ∧ Vals (ys i) us ∧ h.IsTuple T us.toArray)
    (self : ∀ (A : Around) (i : Nat) (s : Shared) (Q : Value → Shared → Prop) (E : Value → Shared → Prop), tn i s.heap → Q (.ref I) s → wpAny (model P w) A (pyIter (.ref I)) Q E s) :
    Turn P w K (.Tuple elts kk tpos) (ItN n S ys) fp I tn where
  mem := mem
  obj := obj
  keep := keep
  self := self
  item := by
    intro X e1 e2 e3 hc i pn sh sg hp E iv hf st go
    obtain ⟨hi, hS⟩ := go
    obtain ⟨St, Y, W, s1, s2, hY⟩ := goes X e1 e2 e3 hc pn sh sg hp iv hS
    have alive := obj i _ st
    subst e1 e2
    refine wpAny_mono (W.goes i sh (fun v s2 => ∃ x H', Inv X pn sg H' s2 ∧ RelV x v ∧ (ItN n S ys).yld i hp x H' ∧ tn (i + 1) s2.heap ∧ ∀ b ∈ fp, H' b = none) E hi (s1 i st) fun v h' tk y st' kk' _ => ?_) (fun r s1 h => h) fun _ _ h => h
    obtain ⟨T, us, rfl, hT, rv, ht⟩ := hY i v h' hi y
    have new : ObjOk X.prog X.w (upd hp T (.tup (ys i))) h' T (.tup (ys i)) := ⟨len i, us, rv, ht⟩
    have iv2 := iv.turnedNew (t' := tk) (ch := wr) kk' (fun b hb => hf b (wrs b hb)) hT new
    refine ⟨.ref T, _, iv2, rfl, ⟨T, rfl, iv.hok.fresh hT, rfl⟩, s2 _ _ st', fun b hb => ?_⟩
    obtain ⟨o, ho, _⟩ := alive b hb
    rw [upd_ne (Nat.ne_of_lt (Nat.lt_of_lt_of_le (Heap.lt_size ho) hT))]
    exact (hf b hb).1
  done := by
    intro X e1 e2 e3 hc i pn sh sg hp E iv hf st stop
    obtain ⟨rfl, hS⟩ := stop
    obtain ⟨St, Y, W, s1, s2, hY⟩ := goes X e1 e2 e3 hc pn sh sg hp iv hS
    subst e1 e2
    exact W.stops sh _ E (s1 _ st) fun h' tk kk htk => iv.turnedL (t' := tk) (ch := wr) kk (fun b hb => hf b (wrs b hb))
theorem vals_at {xs : List V} {us : List Value} (r : Vals xs us) {i : Nat} {v : Value} (e : us[i]? = some v) : RelV (xs.getD i .non) v := by
  induction r generalizing i with
  | nil => cases e
  | cons r rr ih =>
    cases i with
    | zero =>
      cases e
      exact r
    | succ j => exact ih e
section
variable {X : Cx} {pn : List (Addr × Obj)} {sg : L2.St} {hp : Hp} {sh : Shared} {elts : List Expr} {kk : Nat} {tpos : Pos}
theorem itS_keep {k : Src} {h h' : Heap} {it a : Addr} {i : Nat} {fp : List Addr} (m : it ∈ fp) (e : itS k h it a i) (f : ∀ b ∈ fp, ∀ o, h.get? b = some o → h'.get? b = some o) : itS k h' it a i := itS_at e fun o q => f it m o q
theorem turn_enumS (P : Program) (w : World) (K : PySem.W.Frag) (k : Src) (a e it : Addr) (ne : e ≠ it) (xs : List V) :
    Turn P w K (.Tuple elts kk tpos) (ItN xs.length (fun H => srcS K k H a xs ∧ a ≠ e ∧ a ≠ it) fun i => [.int (i : Int), xs.getD i .non]) [e, it] e fun i h => (∃ old, IsEnum h e it (0 + (i : Int)) old) ∧ itS k h it a i := by
  refine turn_goes (fpA := e :: [it, a]) (wr := [e, it]) (by simp) ?_ ?_ (fun b hb => hb) (fun i => ?_) ?_ ?_
  · rintro i h ⟨⟨old, h1⟩, h2⟩ b hb
    rcases List.mem_cons.mp hb with rfl | hb
    · exact ⟨_, h1, fun v z => by cases z⟩
    · rw [List.mem_singleton.mp hb]
      exact itS_obj h2
  · rintro i h h' ⟨⟨old, h1⟩, h2⟩ f
    exact ⟨⟨old, f e (by simp) _ h1⟩, itS_keep (by simp) h2 f⟩
  · show (2 : Nat) ≤ sizeLine
    rw [sizeLine_eq]; omega
  · intro X e1 e2 e3 hc pn sh sg hp iv ⟨hS, n1, n2⟩
    subst e1 e2 e3
    obtain ⟨its, rv, at1⟩ := invS iv hS
    have hl : its.toArray.size = xs.length := by rw [List.size_toArray]; exact rv.length.symm
    have D := drawS (prog := X.prog) (w := X.w) (A := X.A.in1) k (iv.ok.hd hc) it a n2 its.toArray
    have G := GoesN.enumFrom (elts := elts) (x1 := kk) (pos := tpos) 0 D e ne (by simp [ne, n1.symm]) (by simp)
    rw [hl] at G
    refine ⟨_, _, G, fun i t => ⟨t.1, t.2, at1⟩, fun i h t => ⟨t.1, t.2.1⟩, fun i v h hi y => ?_⟩
    obtain ⟨T, t, x, rfl, hT, hx, ht⟩ := y
    refine ⟨T, [.int (0 + (i : Int)) t, x], rfl, hT, ?_, ht⟩
    have hx' : its[i]? = some x := by rw [← List.getElem?_toArray]; exact hx
    rw [Int.zero_add]
    exact .cons ⟨_, rfl⟩ (.cons (vals_at rv hx') .nil)
  · rintro A i s Q E ⟨⟨old, h1⟩, h2⟩ q
    exact wpAny_pyIter_enum h1 q
theorem turn_zipS (P : Program) (w : World) (K : PySem.W.Frag) (k l : Src) (a b N : Addr) (xs ys : List V) :
    Turn P w K (.Tuple elts kk tpos) (ItN (min xs.length ys.length) (fun H => srcS K k H a xs ∧ srcS K l H b ys ∧ a < N ∧ b < N) fun i => [xs.getD i .non, ys.getD i .non]) [N + 4, N + 2, N + 3, N, N + 1] (N + 4)
      fun i h => IsZip h (N + 4) (N + 2) (N + 3) .none ∧ IsTupOf2 h (N + 2) (.ref N) (.ref (N + 1)) ∧ (∃ a1 a2, IsTupOf2 h (N + 3) a1 a2) ∧ itS k h N a i ∧ itS l h (N + 1) b i := by
  refine turn_goes (fpA := (N + 4) :: (N + 2) :: (N + 3) :: ([N, a] ++ [N + 1, b])) (wr := [N + 4, N + 3, N, N + 1]) (by simp) ?_ ?_ ?_ (fun i => ?_) ?_ ?_
  · rintro i h ⟨h1, h2, ⟨a1, a2, h3⟩, h4, h5⟩ c hc
    have e' : c = N + 4 ∨ c = N + 2 ∨ c = N + 3 ∨ c = N ∨ c = N + 1 := by simpa using hc
    rcases e' with rfl | rfl | rfl | rfl | rfl
    · exact ⟨_, h1, fun v z => by cases z⟩
    · exact ⟨_, h2, fun v z => by cases z⟩
    · exact ⟨_, h3, fun v z => by cases z⟩
    · exact itS_obj h4
    · exact itS_obj h5
  · rintro i h h' ⟨h1, h2, ⟨a1, a2, h3⟩, h4, h5⟩ f
    exact ⟨f _ (by simp) _ h1, f _ (by simp) _ h2, ⟨a1, a2, f _ (by simp) _ h3⟩, itS_keep (by simp) h4 f, itS_keep (by simp) h5 f⟩
  · intro c hc
    simp at hc ⊢
    rcases hc with rfl | rfl | rfl | rfl <;> simp
  · show (2 : Nat) ≤ sizeLine
    rw [sizeLine_eq]; omega
  · intro X e1 e2 e3 hc pn sh sg hp iv ⟨hS, hS2, n1, n2⟩
    subst e1 e2 e3
    obtain ⟨its, rv, at1⟩ := invS iv hS
    obtain ⟨its2, rv2, at2⟩ := invS iv hS2
    have hl : its.toArray.size = xs.length := by rw [List.size_toArray]; exact rv.length.symm
    have hl2 : its2.toArray.size = ys.length := by rw [List.size_toArray]; exact rv2.length.symm
    have D := drawS (prog := X.prog) (w := X.w) (A := X.A.in1) k (iv.ok.hd hc) N a (Nat.ne_of_lt n1) its.toArray
    have D2 := drawS (prog := X.prog) (w := X.w) (A := X.A.in1) l (iv.ok.hd hc) (N + 1) b (Nat.ne_of_lt (Nat.lt_succ_of_lt n2)) its2.toArray
    have G := GoesN.zip2 (elts := elts) (x1 := kk) (pos := tpos) (zip_sep2 (N := N) (fp1 := [a]) (fp2 := [b]) (fun c m => by rw [List.mem_singleton.mp m]; exact n1) (fun c m => by rw [List.mem_singleton.mp m]; exact n2)) D D2
    rw [hl, hl2] at G
    refine ⟨_, _, G, fun i t => ⟨t.1, t.2.1, t.2.2.1, ⟨t.2.2.2.1, at1⟩, t.2.2.2.2, at2⟩, fun i h t => ⟨t.1, t.2.1, t.2.2.1, t.2.2.2.1.1, t.2.2.2.2.1⟩, fun i v h hi y => ?_⟩
    obtain ⟨T, x, y, rfl, hT, hx, hy, ht⟩ := y
    refine ⟨T, [x, y], rfl, hT, ?_, ht⟩
    have hx' : its[i]? = some x := by rw [← List.getElem?_toArray]; exact hx
    have hy' : its2[i]? = some y := by rw [← List.getElem?_toArray]; exact hy
    exact .cons (vals_at rv hx') (.cons (vals_at rv2 hy') .nil)
  · rintro A i s Q E ⟨h1, _⟩ q
    exact wpAny_pyIter_zip h1 q

/-! ### enumerate and zip are called -/
theorem enum_begins1 {prog : Program} {w : World} {A : Around} {E : Value → Shared → Prop} {s : Shared} {v : Value} {o : Obj} {H : Heap → Prop} {Q : Value → Shared → Prop} (B : Begins v o H) (h1 : H s.heap)
    (h : ∀ h', IsEnum h' (s.heap.objs.size + 1) s.heap.objs.size 0 .none → h'.get? s.heap.objs.size = some o → h'.objs.size = s.heap.objs.size + 2 →
      (∀ b o, s.heap.get? b = some o → h'.get? b = some o) → Q (.ref (s.heap.objs.size + 1)) { s with heap := h' }) :
    wpAny (model prog w) A (call (.type "enumerate") [v]) Q E s := by
  refine callType_new F.called_enumerate (by decide) (F.typeCall_enumerate_1 _) (F.newCall_enumerate_1 _) (fun obj => F.args_object_init_2 obj _) F.entry_enumerate_new
    (begin_enum1 B) ⟨h1, ?_⟩
  have hz : (s.heap.push o).objs.size = s.heap.objs.size + 1 := Heap.size_push ..
  show _ ∧ _
  rw [hz]
  have he : IsEnum ((s.heap.push o).push { cls := .type "enumerate", data := .fields #[.none, .bool false, .ref s.heap.objs.size, rawInt 0, .none, .none] }) (s.heap.objs.size + 1) s.heap.objs.size 0 .none := by
    have := Heap.get?_push_size (s.heap.push o) (o := { cls := .type "enumerate", data := .fields #[.none, .bool false, .ref s.heap.objs.size, rawInt 0, .none, .none] }) rfl
    rw [hz] at this; exact this
  exact ⟨⟨_, he, rfl⟩, h _ he (Heap.get?_push_of_some _ (Heap.get?_push_size _ B.free)) (by rw [Heap.size_push, hz]) fun b o x => Heap.get?_push_of_some _ (Heap.get?_push_of_some _ x)⟩
theorem srcS_none {K : PySem.W.Frag} {k : Src} {H : Hp} {a : Addr} {xs : List V} (h : srcS K k H a xs) (iv : Inv X pn sg H sh) (e : X.K = K) : a < sh.heap.objs.size := by
  subst e
  obtain ⟨its, _, at1⟩ := invS iv h
  cases k with
  | l =>
    obtain ⟨o, h1, _⟩ := at1
    exact Heap.lt_size h1
  | t =>
    obtain ⟨o, h1, _⟩ := at1
    exact Heap.lt_size h1
theorem pie_enumS {k : Src} {a : Addr} {xs : List V} {R : It → Hp → Prop} (iv : Inv X pn sg hp sh) (hq : srcS X.K k hp a xs)
    (hR : ∀ e it, e ≠ a → it ≠ a → R (ItN xs.length (fun H => srcS X.K k H a xs ∧ a ≠ e ∧ a ≠ it) fun i => [.int (i : Int), xs.getD i .non]) hp) :
    wpAny (model X.prog X.w) X.A (call (.type "enumerate") [.ref a]) (fun v s1 => wpAny (model X.prog X.w) X.A (pyIter v) (PIE X pn sg (.Tuple elts kk tpos) R) X.xe s1) X.xe sh := by
  obtain ⟨its, rv, at1⟩ := invS iv hq
  have la := srcS_none hq iv rfl
  refine enum_begins1 (beginS k a its.toArray) at1 fun h' he hit hsz hk => wpAny_pyIter_enum he ?_
  have I2 : Inv X pn sg hp { sh with heap := h' } := iv.kept (t' := sh.toks) hk
  refine ⟨sh.heap.objs.size + 1, [sh.heap.objs.size + 1, sh.heap.objs.size], _, _, hp, rfl, I2, turn_enumS X.prog X.w X.K k a _ _ (Nat.succ_ne_self _) xs, ⟨⟨_, he⟩, itS_ob k hit⟩, fun b hb => ?_, hR _ _ (Nat.ne_of_gt (Nat.lt_succ_of_lt la)) (Nat.ne_of_gt la)⟩
  have e' : b = sh.heap.objs.size + 1 ∨ b = sh.heap.objs.size := by simpa using hb
  have hle : sh.heap.objs.size ≤ b := by
    rcases e' with z | z
    · rw [z]; exact Nat.le_add_right _ _
    · rw [z]; exact Nat.le_refl _
  exact iv.fpOk hle (iv.hok.fresh hle)
theorem pie_zipS {k l : Src} {a b : Addr} {xs ys : List V} {R : It → Hp → Prop} (iv : Inv X pn sg hp sh) (hq : srcS X.K k hp a xs) (hq2 : srcS X.K l hp b ys)
    (hR : ∀ N, a < N → b < N → R (ItN (min xs.length ys.length) (fun H => srcS X.K k H a xs ∧ srcS X.K l H b ys ∧ a < N ∧ b < N) fun i => [xs.getD i .non, ys.getD i .non]) hp) :
    wpAny (model X.prog X.w) X.A (call (.type "zip") [.ref a, .ref b]) (fun v s1 => wpAny (model X.prog X.w) X.A (pyIter v) (PIE X pn sg (.Tuple elts kk tpos) R) X.xe s1) X.xe sh := by
  obtain ⟨its, rv, at1⟩ := invS iv hq
  obtain ⟨its2, rv2, at2⟩ := invS iv hq2
  have la := srcS_none hq iv rfl
  have lb := srcS_none hq2 iv rfl
  refine zip_begins2 (beginS k a its.toArray) (beginS l b its2.toArray) at1 at2 fun h' hz hTI hTO h1 h2 hsz hk => wpAny_pyIter_zip hz ?_
  have I2 : Inv X pn sg hp { sh with heap := h' } := iv.kept (t' := sh.toks) hk
  refine ⟨sh.heap.objs.size + 4, [sh.heap.objs.size + 4, sh.heap.objs.size + 2, sh.heap.objs.size + 3, sh.heap.objs.size, sh.heap.objs.size + 1], _, _, hp, rfl, I2, turn_zipS X.prog X.w X.K k l a b sh.heap.objs.size xs ys, ⟨hz, hTI, ⟨_, _, hTO⟩, itS_ob k h1, itS_ob l h2⟩, fun c hcm => ?_, hR _ la lb⟩
  have e' : c = sh.heap.objs.size + 4 ∨ c = sh.heap.objs.size + 2 ∨ c = sh.heap.objs.size + 3 ∨ c = sh.heap.objs.size ∨ c = sh.heap.objs.size + 1 := by simpa using hcm
  have hle : sh.heap.objs.size ≤ c := by
    rcases e' with z | z | z | z | z
    · rw [z]; exact Nat.le_add_right _ _
    · rw [z]; exact Nat.le_add_right _ _
    · rw [z]; exact Nat.le_add_right _ _
    · rw [z]; exact Nat.le_refl _
    · rw [z]; exact Nat.le_add_right _ _
  exact iv.fpOk hle (iv.hok.fresh hle)
end
end L3

set_option Elab.async false
set_option linter.all false
set_option maxRecDepth 100000
namespace L3
open PySem PySem.Spec L2

/-! ### enumerate(..), zip(.., ..) as what is walked -/
def enumT (xs : List PyData) : List T := (List.range xs.length).map fun (i : Nat) => T.wt [.int (i : Int), xs.getD i .none]
def zipT (xs ys : List PyData) : List T := (List.range (min xs.length ys.length)).map fun (i : Nat) => T.wt [xs.getD i .none, ys.getD i .none]
def seqOf : T → Option (List PyData)
  | .d (.list xs) => some xs
  | .d (.tuple xs) => some xs
  | _ => none
def iEnum (r : Ma) : Mi := fun τ M Q => r τ M fun ts M1 => match ts with
  | [t] => (match seqOf t with
    | some xs => Q (enumT xs) M1
    | none => False)
  | _ => False
def iZip2 (r : Ma) : Mi := fun τ M Q => r τ M fun ts M1 => match ts with
  | [t, u] => (match seqOf t, seqOf u with
    | some xs, some ys => Q (zipT xs ys) M1
    | _, _ => False)
  | _ => False
theorem seqOf_rt {K : PySem.W.Frag} {B : Bk} {v : V} {t : T} {xs : List PyData} (e : seqOf t = some xs) (r : Rt K B v t) : ∃ k a vs, v = .ref a ∧ srcS K k B.G a vs ∧ RpA K B.G vs xs := by
  unfold seqOf at e
  split at e
  · cases e
    cases (show Rp K B.G v (.list _) from r) with
    | lst e q => exact ⟨.l, _, _, rfl, .of e, q⟩
  · cases e
    cases (show Rp K B.G v (.tuple _) from r) with
    | tup e q => exact ⟨.t, _, _, rfl, e.t, q⟩
  · cases e
theorem srcS_mono {K : PySem.W.Frag} {k : Src} {G G' : Hp} {a : Addr} {xs : List V} (g : ∀ a o, G a = some o → G' a = some o) (h : srcS K k G a xs) : srcS K k G' a xs := by
  cases k with
  | l => exact SqL.mono g h
  | t => exact SqT.mono0 g h
theorem rpa_getD {K : PySem.W.Frag} {G : Hp} : ∀ {vs : List V} {xs : List PyData}, RpA K G vs xs → ∀ i : Nat, Rp K G (vs.getD i .non) (xs.getD i .none)
  | _, _, .nil, _ => .non
  | _, _, .cons p _, 0 => p
  | _, _, .cons _ q, i + 1 => rpa_getD q i
theorem walkT_enum {K : PySem.W.Frag} {B : Bk} {k : Src} {a e it : Addr} {vs : List V} {xs : List PyData} (h : srcS K k B.G a vs) (q : RpA K B.G vs xs) (n1 : e ≠ a) (n2 : it ≠ a) :
    WalkT K B (ItN vs.length (fun H => srcS K k H a vs ∧ a ≠ e ∧ a ≠ it) fun i => [.int (i : Int), vs.getD i .non]) (enumT xs) := by
  unfold WalkT enumT
  rw [List.length_map, List.length_range, ← RpA.length q]
  refine ⟨fun i H hi g => ⟨hi, srcS_mono g h, n1.symm, n2.symm⟩, fun H g => ⟨rfl, srcS_mono g h, n1.symm, n2.symm⟩, fun i H x H' hi g y => .inr ?_⟩
  obtain ⟨p, rfl, hp, rfl⟩ := y
  refine ⟨p, _, _, rfl, hp, rfl, .cons (.int _) (.cons (rpa_getD q i) .nil), ?_⟩
  rw [List.getElem?_map, List.getElem?_range hi]
  rfl
theorem walkT_zip {K : PySem.W.Frag} {B : Bk} {k l : Src} {a b N : Addr} {vs us : List V} {xs ys : List PyData} (h : srcS K k B.G a vs) (h2 : srcS K l B.G b us) (q : RpA K B.G vs xs) (q2 : RpA K B.G us ys) (n1 : a < N) (n2 : b < N) :
    WalkT K B (ItN (min vs.length us.length) (fun H => srcS K k H a vs ∧ srcS K l H b us ∧ a < N ∧ b < N) fun i => [vs.getD i .non, us.getD i .non]) (zipT xs ys) := by
  unfold WalkT zipT
  rw [List.length_map, List.length_range, ← RpA.length q, ← RpA.length q2]
  refine ⟨fun i H hi g => ⟨hi, srcS_mono g h, srcS_mono g h2, n1, n2⟩, fun H g => ⟨rfl, srcS_mono g h, srcS_mono g h2, n1, n2⟩, fun i H x H' hi g y => .inr ?_⟩
  obtain ⟨p, rfl, hp, rfl⟩ := y
  refine ⟨p, _, _, rfl, hp, rfl, .cons (rpa_getD q i) (.cons (rpa_getD q2 i) .nil), ?_⟩
  rw [List.getElem?_map, List.getElem?_range hi]
  rfl
section
open PyProof.Rows HT
variable {X : Cx} {e e2 : Expr} {mr : Ma} {p pos tpos : Pos} {elts : List Expr} {kk : Nat}
theorem mi_enum (hg : Gl X "enumerate") (hm : X.mg "enumerate" = none) (ha : MA X [e] mr) (hs : starEach [e] X.env = [(false, eval e X.env)] := by rfl) :
    MI X (.Tuple elts kk tpos) (.Call (.Name "enumerate" p) [e] [] pos) (iEnum mr) := by
  refine ⟨fun pn sh sg hp R iv ⟨τ, M, B, Q, h, w, s, k⟩ => ?_⟩
  let P := fun (xs : List V) (H1 : Hp) => ∃ ts M1 B1, (match ts with
    | [t] => (match seqOf t with
      | some xs => Q (enumT xs) M1
      | none => False)
    | _ => False) ∧ Wd X.K B1 M1 H1 ∧ Ext B hp B1 H1 ∧ Paired (Rt X.K B1) xs ts
  refine Call_ (ld_blt iv hg hm boot_enumerate (PyProof.Rows.callWith_type1 (thn (ha.run pos pn sh sg hp P iv ⟨τ, M, B, _, h, w, s, fun v t M1 B1 H1 h1 w1 e1 r1 => ⟨t, M1, B1, h1, w1, e1, r1⟩⟩) fun us s1 ⟨vs, H1, I1, r1, ts, M1, B1, h1, w1, e1, q1⟩ => ?_) hs rfl))
  split at h1
  · split at h1
    · rename_i t xs et
      obtain ⟨v, rfl, r⟩ := paired_one q1
      obtain ⟨kd, a, ws, rfl, hsr, q⟩ := seqOf_rt et r
      cases r1 with
      | cons r rr =>
        cases rr
        cases r
        exact pie_enumS I1 (srcS_mono w1.le hsr) fun e it n1 n2 => k _ M1 B1 H1 _ h1 w1 e1 (walkT_enum hsr q n1 n2)
    · exact h1.elim
  · exact h1.elim
theorem mi_zip2 (hg : Gl X "zip") (hm : X.mg "zip" = none) (ha : MA X [e, e2] mr) (hs : starEach [e, e2] X.env = (false, eval e X.env) :: starEach [e2] X.env := by rfl) (hpl : (backTo pos (starEach [e2] X.env)).any (·.1) = false := by rfl) :
    MI X (.Tuple elts kk tpos) (.Call (.Name "zip" p) [e, e2] [] pos) (iZip2 mr) := by
  refine ⟨fun pn sh sg hp R iv ⟨τ, M, B, Q, h, w, s, k⟩ => ?_⟩
  let P := fun (xs : List V) (H1 : Hp) => ∃ ts M1 B1, (match ts with
    | [t, u] => (match seqOf t, seqOf u with
      | some xs, some ys => Q (zipT xs ys) M1
      | _, _ => False)
    | _ => False) ∧ Wd X.K B1 M1 H1 ∧ Ext B hp B1 H1 ∧ Paired (Rt X.K B1) xs ts
  refine Call_ (ld_blt iv hg hm PyProof.Rows.boot_zip (PyProof.Rows.callWith_type1 (thn (ha.run pos pn sh sg hp P iv ⟨τ, M, B, _, h, w, s, fun v t M1 B1 H1 h1 w1 e1 r1 => ⟨t, M1, B1, h1, w1, e1, r1⟩⟩) fun us s1 ⟨vs, H1, I1, r1, ts, M1, B1, h1, w1, e1, q1⟩ => ?_) hs hpl))
  split at h1
  · split at h1
    · rename_i t u _ _ xs ys et eu
      obtain ⟨v, v2, rfl, r, r2⟩ : ∃ v v2, vs = [v, v2] ∧ Rt X.K B1 v t ∧ Rt X.K B1 v2 u := by
        cases q1 with
        | cons r rr =>
          cases rr with
          | cons r2 r3 =>
            cases r3
            exact ⟨_, _, rfl, r, r2⟩
      obtain ⟨kd, a, ws, rfl, hsr, q⟩ := seqOf_rt et r
      obtain ⟨kd2, b, ws2, rfl, hsr2, q2⟩ := seqOf_rt eu r2
      cases r1 with
      | cons r rr =>
        cases rr with
        | cons r' rr =>
          cases rr
          cases r
          cases r'
          exact pie_zipS I1 (srcS_mono w1.le hsr) (srcS_mono w1.le hsr2) fun N n1 n2 => k _ M1 B1 H1 _ h1 w1 e1 (walkT_zip hsr hsr2 q q2 n1 n2)
    · exact h1.elim
  · exact h1.elim
end
variable {τ : En} {M : Mem} {a : Ma}
@[simp] theorem x_seql {xs : List PyData} : seqOf (.d (.list xs)) = some xs := rfl
@[simp] theorem x_seqt {xs : List PyData} : seqOf (.d (.tuple xs)) = some xs := rfl
@[simp] theorem x_ienum {R : List T → Mem → Prop} : iEnum a τ M R = a τ M fun ts M1 => match ts with
  | [t] => (match seqOf t with
    | some xs => R (enumT xs) M1
    | none => False)
  | _ => False := rfl
@[simp] theorem x_izip2 {R : List T → Mem → Prop} : iZip2 a τ M R = a τ M fun ts M1 => match ts with
  | [t, u] => (match seqOf t, seqOf u with
    | some xs, some ys => R (zipT xs ys) M1
    | _, _ => False)
  | _ => False := rfl
end L3

set_option Elab.async false
set_option linter.all false
set_option maxRecDepth 100000
namespace L3
open PySem PySem.Spec L2

/-! ### is None -/
def isNonT : T → Bool
  | .d .none => true
  | _ => false
def oIsN : F2 := fun x y M Q => y = .d .none ∧ Q (.bl (isNonT x)) M
def oNotN : F2 := fun x y M Q => y = .d .none ∧ Q (.bl (!isNonT x)) M
theorem isNonT_rt {K : PySem.W.Frag} {B : Bk} {v : V} {t : T} (h : Rt K B v t) : decide (v = .non) = isNonT t := by
  cases t with
  | d x => cases (show Rp K B.G v x from h) <;> rfl
  | mr i =>
    obtain ⟨a, rfl, _⟩ := h
    rfl
  | lr i =>
    obtain ⟨a, rfl, _⟩ := h
    rfl
  | scr ns =>
    obtain ⟨a, rfl, _⟩ := h
    rfl
  | wt xs =>
    obtain ⟨a, vs, rfl, _⟩ := h
    rfl
  | exo a c d e =>
    obtain ⟨rfl, _⟩ := h
    rfl
theorem opl_isN {K : PySem.W.Frag} : OpL K (fun x y H Q => y = .non ∧ Q (.bl (decide (x = .non))) H) oIsN := by
  rintro x y t u M B H Q Q' ⟨rfl, h⟩ w rx ry k
  cases (show Rp K B.G y .none from ry)
  refine ⟨rfl, ?_⟩
  rw [isNonT_rt rx]
  exact k _ _ M B H h w (.refl _ _) (.bl _)
theorem opl_notN {K : PySem.W.Frag} : OpL K (fun x y H Q => y = .non ∧ Q (.bl (!decide (x = .non))) H) oNotN := by
  rintro x y t u M B H Q Q' ⟨rfl, h⟩ w rx ry k
  cases (show Rp K B.G y .none from ry)
  refine ⟨rfl, ?_⟩
  rw [isNonT_rt rx]
  exact k _ _ M B H h w (.refl _ _) (.bl _)
section
variable {X : Cx} {a b : Expr} {ma mb : Me} {pos : Pos}
theorem me_isN (ha : ME X a ma) (hb : ME X b mb) : ME X (.Compare a [.Is] [b] pos) (mOp oIsN ma mb) := me_cmp op_isN opl_isN ha hb (nomark _)
theorem me_notN (ha : ME X a ma) (hb : ME X b mb) : ME X (.Compare a [.IsNot] [b] pos) (mOp oNotN ma mb) := me_cmp op_notN opl_notN ha hb (nomark _)
theorem mb_isN (ha : ME X a ma) (hb : ME X b mb) : MB X (.Compare a [.Is] [b] pos) (mTest (mOp oIsN ma mb)) := mb_cmp op_isN opl_isN ha hb (nomark _)
theorem mb_notN (ha : ME X a ma) (hb : ME X b mb) : MB X (.Compare a [.IsNot] [b] pos) (mTest (mOp oNotN ma mb)) := mb_cmp op_notN opl_notN ha hb (nomark _)
end
@[simp] theorem x_isN {x : T} {M : Mem} {Q : Kt} : oIsN x (.d .none) M Q = Q (.bl (isNonT x)) M := by simp [oIsN]
@[simp] theorem x_notN {x : T} {M : Mem} {Q : Kt} : oNotN x (.d .none) M Q = Q (.bl (!isNonT x)) M := by simp [oNotN]
@[simp] theorem isNonT_n : isNonT (.d .none) = true := rfl
@[simp] theorem isNonT_i {i : Int} : isNonT (.d (.int i)) = false := rfl
@[simp] theorem isNonT_t {l : List PyData} : isNonT (.d (.tuple l)) = false := rfl
@[simp] theorem isNonT_l {l : List PyData} : isNonT (.d (.list l)) = false := rfl
end L3

set_option Elab.async false
set_option linter.all false
set_option maxRecDepth 100000
namespace L3
open PySem PySem.Spec L2

/-! ### pop(i), products of great numbers, tuples by a number -/
def fPopAt (x : T) : FA := fun ts M Q => match x, ts with
  | .lr i, [.d (.int j)] => (match M.L[i]? with
    | some (some ds) => (0 ≤ j ∧ j < 2 ^ 63 ∧ j.toNat < ds.length) ∧ ∀ z, ds[j.toNat]? = some z → Q (.d z) { M with L := M.L.set i (some (ds.eraseIdx j.toNat)) }
    | _ => False)
  | _, _ => False
theorem mel_popAt {K : PySem.W.Frag} : MeL K rPopAt fPopAt := by
  intro x xs t ts M B H Q Q' h w rx rs k
  unfold fPopAt at h
  split at h
  · rename_i i j
    split at h
    · rename_i ds hL
      obtain ⟨v, rfl, r1⟩ := paired_one rs
      cases (show Rp K B.G v (.int j) from r1)
      obtain ⟨a, rfl, ha⟩ := rx
      obtain ⟨_, vs, e, q⟩ := w.lc _ _ _ ha hL
      obtain ⟨⟨h1, h2, h3⟩, hQ⟩ := h
      have hz : ds[j.toNat]? = some ds[j.toNat] := List.getElem?_eq_getElem h3
      obtain ⟨u, g1, g2⟩ := RpA.get q hz
      refine ⟨a, vs, j, j.toNat, u, rfl, rfl, e, by omega, h2, ?_, g1, ?_⟩
      · unfold seqIndex?
        rw [RpA.length q]
        have c1 : ¬ j < 0 := by omega
        simp only [c1, if_false]
        rw [if_pos (by simp; omega)]
      · obtain ⟨w2, e2⟩ := w.setL ha hL (RpA.eraseIdx j.toNat q)
        exact k _ _ _ _ _ (hQ _ hz) w2 e2 g2
    · exact h.elim
  · exact h.elim
section
variable {X : Cx}
theorem me_popAt {mo : Me} {mr : Ma} {o x : Expr} {apos cpos : Pos} (ho : ME X o mo) (ha : MA X [x] mr) (hbase : attributeBase o "pop" X.env (eval o X.env) = eval o X.env := by rfl)
    (hfew : ((backTo cpos (starEach [x] X.env)).all (fun x => !x.1) && (backToKw cpos (keywordEach [] X.env)).all (fun x => x.1.isSome) && decide (([x] : List Expr).length + ([] : List Keyword).length + (if ([] : List Keyword).isEmpty then 0 else 1) < 30)) = true := by rfl)
    (hline : (apos.endLine == cpos.line) = true := by rfl) (hs : starEach [x] X.env = (false, eval x X.env) :: starEach [] X.env := by rfl) : ME X (.Call (.Attribute o "pop" apos) [x] [] cpos) (mMeth fPopAt mo mr) :=
  me_lm PySem.F.plainAttrs_list PySem.F.slot_list_pop PySem.F.type_list_pop mt_popAt mel_popAt ho ha hbase hfew hline hs rfl
end
def CBig (i j : Int) : Prop := i.natAbs < 2 ^ 300 ∧ j.natAbs < 2 ^ 300
def oMulW : F2 := oI CBig fun i j => .int (i * j)
theorem opr_mulW {X : Cx} : OpR X (binaryOp .Mult) (L2.rI CBig fun i j => .int (i * j)) := by
  intro pn sh sg hp x y v u Q iv rx ry ⟨i, j, e1, e2, c, q⟩
  exact op_mulW pn sh sg hp x y v u Q iv rx ry ⟨i, j, e1, e2, wide_mul c.1 c.2 (by omega) (by omega) (by omega), q⟩
theorem me_mulW {X : Cx} {a b : Expr} {ma mb : Me} {pos : Pos} (ha : ME X a ma) (hb : ME X b mb) : ME X (.BinOp a .Mult b pos) (mOp oMulW ma mb) := me_op opr_mulW (opl_I fun _ _ _ => .int _) ha hb
def oRepT : F2 := fun x y M Q => match x, y with
  | .d (.tuple xs), .d (.int j) => (xs ≠ [] ∧ 2 ≤ j ∧ j ≤ 1000 ∧ xs.length ≤ 1000) ∧ Q (.tup (List.replicate j.toNat xs).flatten) M
  | _, _ => False
theorem opl_repT {K : PySem.W.Frag} : OpL K (rRepC K) oRepT := by
  intro x y t u M B H Q Q' h w rx ry k
  unfold oRepT at h
  split at h
  · cases rx with
    | tup e1 q1 =>
      cases ry
      obtain ⟨⟨h0, h1, h2, h3⟩, q⟩ := h
      refine ⟨_, _, _, rfl, rfl, SqT.mono w.le e1, ?_, h1, h2, ?_, fun p o hp ho => ?_⟩
      · intro z
        subst z
        cases q1
        exact h0 rfl
      · rw [RpA.length q1]
        exact h3
      · obtain ⟨w', x'⟩ := w.alloc hp (.frz o (.tup _))
        exact k _ _ M _ _ q w' x' (.tup (.inl ⟨o, upd_same, ho⟩) (RpA.mono x'.g (RpA.rep q1 _)))
  · exact h.elim
theorem me_repT {X : Cx} {a b : Expr} {ma mb : Me} {pos : Pos} (ha : ME X a ma) (hb : ME X b mb) : ME X (.BinOp a .Mult b pos) (mOp oRepT ma mb) := me_op op_repC opl_repT ha hb
variable {M : Mem} {Q : Kt} {D : List Cell} {L : List (Option (List PyData))} {i : Nat}
@[simp] theorem x_mulW {i j : Int} : oMulW (.d (.int i)) (.d (.int j)) M Q = (CBig i j ∧ Q (.int (i * j)) M) := rfl
@[simp] theorem x_repT {xs : List PyData} {j : Int} : oRepT (.d (.tuple xs)) (.d (.int j)) M Q = ((xs ≠ [] ∧ 2 ≤ j ∧ j ≤ 1000 ∧ xs.length ≤ 1000) ∧ Q (.tup (List.replicate j.toNat xs).flatten) M) := rfl
@[simp] theorem x_popAt {j : Int} : fPopAt (.lr i) [.d (.int j)] M Q = (match M.L[i]? with
    | some (some ds) => (0 ≤ j ∧ j < 2 ^ 63 ∧ j.toNat < ds.length) ∧ ∀ z, ds[j.toNat]? = some z → Q (.d z) { M with L := M.L.set i (some (ds.eraseIdx j.toNat)) }
    | _ => False) := rfl

/-! ### sum(a tuple) -/
section
open PyProof.Rows
variable {prog : Program} {w : World} {A : Around} {E : Value → Shared → Prop} {s : Shared} {l : Addr}
theorem sum_intTup {xs : Array (Int × Tok)} {Q : Value → Shared → Prop} (hh : A.handled = none) (hl : s.heap.IsTuple l (intItems xs))
    (h : ∀ h' tk t', (∀ b o, s.heap.get? b = some o → h'.get? b = some o) → Q (.int (preSum (numAt xs) xs.size) t') { s with heap := h', toks := tk }) :
    wpAny (model prog w) A (call (.builtin "sum") [.ref l]) Q E s := by
  have hlt : l < s.heap.objs.size := by
    obtain ⟨o, h1, _⟩ := hl
    exact Heap.lt_size h1
  refine call_sum_walkG (wpAny_pyIter_tuple hl ?_)
  refine ⟨_, [_, l], [_], _, _, _, numAt xs, rfl, Walks.tuple (A := A.in1) hh _ l (Nat.ne_of_lt hlt) (intItems xs), ⟨⟨_, Heap.get?_push_size _ rfl, rfl, rfl⟩, hl.push _⟩, fun c hc => ?_, (fun _ _ => intItems_at), fun h' tk t' hk => ?_⟩
  · rw [Heap.size_push]
    rcases List.mem_cons.mp hc with z | z
    · rw [z]; exact Nat.lt_succ_self _
    · rw [List.mem_singleton.mp z]; exact Nat.lt_succ_of_lt hlt
  · have := h h' tk t' fun b o e => hk b o (fun z => by
      rw [List.mem_singleton.mp z] at e
      exact absurd (Heap.lt_size e) (Nat.lt_irrefl _)) (Heap.get?_push_of_some _ e)
    simpa [intItems] using this
theorem sumT_raw {its : List Value} {ns : List Int} {Q : Value → Shared → Prop} (hh : A.handled = none) (hl : s.heap.IsTuple l its.toArray) (hi : IntsAre its ns)
    (h : ∀ h' tk t', (∀ b o, s.heap.get? b = some o → h'.get? b = some o) → Q (.int ns.sum t') { s with heap := h', toks := tk }) : wpAny (model prog w) A (call (.builtin "sum") [.ref l]) Q E s := by
  obtain ⟨xs, e⟩ := hi.allInts.items
  have hn : numsOf (intItems xs).toList = ns := by rw [← e]; exact hi.numsOf
  rw [nums_intItems] at hn
  rw [e] at hl
  refine sum_intTup hh hl fun h' tk t' hk => ?_
  have := h h' tk t' hk
  rw [preSum_eq, List.take_of_length_le (by simp), hn]; exact this
end
def rSumT (K : PySem.W.Frag) : List V → Hp → VK → Prop := fun vs H Q => ∃ (a : Addr) (ns : List Int), vs = [V.ref a] ∧ SqT K H a (ns.map V.int) ∧ Q (.int ns.sum) H
theorem cr_sumT {X : Cx} (hc : X.calm = true) : CallR X (.builtin "sum") (rSumT X.K) := by
  intro pins s σ H vs us Q I r h
  obtain ⟨a, ns, rfl, hs, q⟩ := h
  obtain ⟨its, rv, hl, _⟩ := I.tuple hs
  rw [Vals.ref1 r]
  exact sumT_raw (I.ok.hd hc) hl rv.ints fun h' tk t' hk => ⟨.int _, H, I.kept hk, ⟨_, rfl⟩, q⟩
def fSumT : FA := fun ts M Q => match ts with
  | [.d (.tuple xs)] => (match intsOf xs with
    | some ns => Q (.int ns.sum) M
    | none => False)
  | _ => False
theorem rpa_ints {K : PySem.W.Frag} {G : Hp} : ∀ {ns : List Int} {vs : List V}, RpA K G vs (ns.map .int) → vs = ns.map V.int
  | [], _, .nil => rfl
  | _ :: _, _, .cons p q => by
    cases p
    rw [rpa_ints q]
    rfl
theorem cal_sumT {K : PySem.W.Frag} : CaL K (rSumT K) fSumT := by
  intro xs ts M B H Q Q' h w r k
  unfold fSumT at h
  split at h
  · obtain ⟨v, rfl, r1⟩ := paired_one r
    split at h
    · rename_i ns e
      have e2 := intsOf_eq e
      subst e2
      cases (show Rp K B.G v (.tuple _) from r1) with
      | tup e1 q1 =>
        rw [rpa_ints q1] at e1
        exact ⟨_, ns, rfl, SqT.mono w.le e1, k _ _ M B H h w (.refl _ _) (.int _)⟩
    · exact h.elim
  · exact h.elim
section
variable {X : Cx} {e : Expr} {es : List Expr} {mr : Ma} {p pos : Pos}
theorem me_sumT (hc : X.calm = true) (hg : Gl X "sum") (hm : X.mg "sum" = none) (ha : MA X (e :: es) mr) (he : starEach (e :: es) X.env = (false, eval e X.env) :: starEach es X.env := by rfl) (hpl : (backTo pos (starEach es X.env)).any (·.1) = false := by rfl) : ME X (.Call (.Name "sum" p) (e :: es) [] pos) (mCall fSumT mr) := me_callB (cr_sumT hc) cal_sumT hg hm (by decide +kernel) ha (by decide) (by decide) he hpl
end
end L3

set_option Elab.async false
set_option linter.all false
set_option maxRecDepth 100000
namespace L3
open PySem PySem.Spec L2

/-! ### a comprehension over a list of the frame's own, that stays -/
def goLcO (n : Nat) (ds : List PyData) (g : Mg) (c : Mb) (m : Me) (τ0 : En) (Q : List PyData → Mem → Prop) : List T → List PyData → Mem → Prop
  | [], acc, M => Q acc M
  | t :: ts, acc, M => g t τ0 M fun τ1 M1 => c τ1 M1 fun k M2 => if k = true then m τ1 M2 fun y M3 => (match y with
      | .d z => acc.length < sizeLine ∧ M3.L[n]? = some (some ds) ∧ goLcO n ds g c m τ0 Q ts (acc ++ [z]) M3
      | _ => False) else M2.L[n]? = some (some ds) ∧ goLcO n ds g c m τ0 Q ts acc M2
def mLcO (o : Me) (g : Mg) (c : Mb) (m : Me) (vs : List Nat) : Me := fun τ M Q => o τ M fun t M1 => match t with
  | .lr n => (match M1.L[n]? with
    | some (some ds) => goLcO n ds g c m (wipeT τ vs) (fun acc M2 => Q (.lst acc) M2) (ds.map T.d) [] M1
    | _ => False)
  | _ => False
def rIo (K : PySem.W.Frag) (m : Me) : TI := fun σ H R => ∃ τ M B Q, m τ M Q ∧ Wd K B M H ∧ Sl K B σ τ ∧ ∀ t M' B' H', Q t M' → Wd K B' M' H' → Ext B H B' H' → ∃ n ds, t = .lr n ∧ M'.L[n]? = some (some ds) ∧ ∀ a, B'.l[n]? = some a → R (Itl K a) H'
theorem mi_own {X : Cx} {e tg : Expr} {m : Me} (he : ME X e m) : PI X tg e (rIo X.K m) := by
  refine ⟨fun pn sh sg hp R iv ⟨τ, M, B, Q, h, w, s, k⟩ => ?_⟩
  let P := fun (x : V) (H1 : Hp) => ∃ t M1 B1, Q t M1 ∧ Wd X.K B1 M1 H1 ∧ Ext B hp B1 H1 ∧ Rt X.K B1 x t
  refine thn (he.run pn sh sg hp P iv ⟨τ, M, B, _, h, w, s, fun v t M1 B1 H1 h1 w1 e1 r1 => ⟨t, M1, B1, h1, w1, e1, r1⟩⟩) fun v s1 ⟨x, H1, i1, rx, t, M1, B1, h1, w1, e1, r1⟩ => ?_
  obtain ⟨n, ds, rfl, hL, k2⟩ := k t M1 B1 H1 h1 w1 e1
  obtain ⟨a', rfl, ha'⟩ := r1
  cases rx
  obtain ⟨_, xs, e, _⟩ := w1.lc _ _ _ ha' hL
  exact pie_l i1 (.of e) (k2 a' ha')
theorem drop_map_at {ds : List PyData} {i : Nat} (h : i < ds.length) : (ds.map T.d).drop i = .d ds[i] :: (ds.map T.d).drop (i + 1) := by
  rw [drop_at (by rw [List.length_map]; exact h), List.getElem_map]
theorem walk_own {K : PySem.W.Frag} {a : Addr} (m : Nat) : Walk (Itl K a) m (fun H => ∃ xs, H a = some (.lst xs) ∧ xs.length = m) fun i H x H' => H' = H ∧ ∀ xs, SqL K H a xs → xs[i]? = some x :=
  ⟨fun i H hi ⟨xs, e, l⟩ => ⟨xs, xs[i]'(by omega), .of e, List.getElem?_eq_getElem (by omega)⟩, fun H ⟨xs, e, l⟩ => ⟨xs, .of e, by omega⟩, fun _ _ _ _ _ _ y => y⟩
theorem lc_genO {K : PySem.W.Frag} {o m : Me} {g : Mg} {os : List Nat} {mc : Mb} {vs0 : List Nat} {σ : L2.St} {H : Hp} {Q' : VK} (sub : ∀ j ∈ os, j ∈ vs0) (h : rE K (mLcO o g mc m vs0) σ H Q') :
    tLc (rIo K o) (rG K os g) (rB K mc) (rE K m) vs0 σ H Q' := by
  obtain ⟨τ, M, B, Q, h, w, sl, k⟩ := h
  refine ⟨τ, M, B, _, h, w, sl, fun t M1 B1 H1 h1 w1 e1 => ?_⟩
  split at h1
  case h_2 => exact h1.elim
  rename_i n
  split at h1
  case h_2 => exact h1.elim
  rename_i ds hL
  refine ⟨n, ds, rfl, hL, fun a ha D hD => ?_⟩
  obtain ⟨dG, dr, dl⟩ := w1.fresh hD
  have sw := (sl.mono e1).wipe vs0
  refine lc_it (walk_own ds.length) (fun i H2 => ∃ acc vs M2 B2, M2.L[n]? = some (some ds) ∧ goLcO n ds g mc m (wipeT τ vs0) (fun acc M2 => Q (.lst acc) M2) ((ds.map T.d).drop i) acc M2 ∧ Wd K B2 M2 H2 ∧ Ext B1 H1 B2 H2 ∧ H2 D = some (.lst vs) ∧ RpA K B2.G vs acc ∧ B2.G D = none ∧ D ∉ B2.r ∧ D ∉ B2.l) ?_ ?_ ?_ ?_
  · exact ⟨[], [], M1, B1, hL, h1, w1.side hD _, .side hD _, upd_same, .nil, dG, dr, dl⟩
  · rintro i H2 _ ⟨acc, vs, M2, B2, hL2, _, w2, e2, _⟩
    obtain ⟨_, us, eu, qu⟩ := w2.lc n a ds (get_prefix e2.l ha) hL2
    exact ⟨us, eu, RpA.length qu⟩
  · rintro i x H2 H3 hlt ⟨acc, vs, M2, B2, hL2, h2, w2, e2, d2, r2, g2, n2, l2⟩ y
    obtain ⟨hh, y⟩ := y
    rw [hh]
    obtain ⟨_, us, eu, qu⟩ := w2.lc n a ds (get_prefix e2.l ha) hL2
    obtain ⟨u, y1, y2⟩ := RpA.get qu (List.getElem?_eq_getElem hlt)
    have y3 := y us (.of eu)
    rw [y1] at y3
    cases y3
    have e3 : Ext B2 H2 B2 H2 := .refl _ _
    rw [drop_map_at hlt, goLcO] at h2
    have keepD : ∀ {B4 : Bk} {H4 : Hp}, Ext B2 H2 B4 H4 → H4 D = some (.lst vs) ∧ B4.G D = none ∧ D ∉ B4.r ∧ D ∉ B4.l := fun {B4 H4} e4 => by
      refine ⟨e4.fr D _ d2 n2 l2, ?_, fun z => ?_, fun z => ?_⟩
      · cases q : B4.G D with
        | none => rfl
        | some o =>
          rcases e4.gf D o q with z | z | z
          · rw [g2] at z; cases z
          · rw [d2] at z; cases z
          · exact absurd z l2
      · rcases e4.rn D z with q | q
        · exact n2 q
        · rw [d2] at q; cases q
      · rcases e4.ln D z with q | q
        · exact l2 q
        · rw [d2] at q; cases q
    refine ⟨.d ds[i], wipeT τ vs0, M2, B2, _, h2, w2, sw.mono e2, y2, fun τ4 M4 B4 σ4 H4 h4 w4 e4 s4 a4 => ⟨a4.wipe sub, ?_⟩⟩
    refine ⟨τ4, M4, B4, _, h4, w4, s4, fun k5 M5 B5 H5 h5 w5 e5 => ?_⟩
    have e25 := e3.trans (e4.trans e5)
    cases k5 with
    | false =>
      obtain ⟨q1, q2, q3, q4⟩ := keepD e25
      exact ⟨acc, vs, M5, B5, h5.1, h5.2, w5, e2.trans e25, q1, RpA.mono e25.g r2, q2, q3, q4⟩
    | true =>
      refine ⟨τ4, M5, B5, _, h5, w5, s4.mono e5, fun v t M6 B6 H6 h6 w6 e6 r6 => ?_⟩
      split at h6
      · have e26 := e25.trans e6
        obtain ⟨q1, q2, q3, q4⟩ := keepD e26
        refine ⟨vs, q1, by rw [RpA.length r2]; exact h6.1, acc ++ [_], vs ++ [v], M6, B6, h6.2.1, h6.2.2, ?_, ?_, upd_same, RpA.append (RpA.mono e26.g r2) (.cons r6 .nil), q2, q3, q4⟩
        · -- the world does not know D
          refine ⟨fun a u z => ?_, w6.rlen, w6.llen, w6.nd, fun j a c z1 z2 => ?_, fun j a ds z1 z2 => ?_, fun a ha => ?_⟩
          · rw [upd_ne (ne_of_none z q2)]
            exact w6.le a u z
          · obtain ⟨p1, p2⟩ := w6.dc j a c z1 z2
            exact ⟨p1, CellAt.mono (fun _ _ e => e) (List.prefix_refl _) (upd_ne fun z => q3 (by rw [← z]; exact mem_of_get z1)) p2⟩
          · obtain ⟨p1, xs, p2, p3⟩ := w6.lc j a ds z1 z2
            exact ⟨p1, xs, (upd_ne fun z => q4 (by rw [← z]; exact mem_of_get z1)).trans p2, p3⟩
          · rw [upd_ne fun z => ?_]
            · exact w6.tr a ha
            · rw [z] at ha
              exact (List.mem_append.mp ha).elim q3 q4
        · have x6 := e2.trans e26
          refine ⟨x6.g, x6.r, x6.l, fun a u z n1 n2 => ?_, fun a z => ?_, x6.rn, x6.ln, x6.gf⟩
          · rw [upd_ne (ne_of_none z hD)]
            exact x6.fr a u z n1 n2
          · by_cases q : a = D
            · rw [q]
              exact hD
            · rw [upd_ne q] at z
              exact x6.tr a z
      · exact h6.elim
  · rintro H2 ⟨acc, vs, M2, B2, hL2, h2, w2, e2, d2, r2, g2, n2, l2⟩
    have ed : (ds.map T.d).drop ds.length = [] := by rw [← List.length_map (f := T.d), List.drop_length]
    rw [ed] at h2
    rcases Ext.adoptG (o := .lst vs) (e1.tr D hD) (e1.trans e2) with x | x
    · exact k _ _ M2 _ H2 h2 (w2.adoptG g2 n2 l2 d2) x (.lst upd_same (RpA.mono (upd_keep g2) r2))
    · exact absurd g2 x
section
variable {X : Cx} {e tg : Expr} {m o : Me} {elt : Expr} {ifs : List Expr} {scope : Scope} {own : List (Str × Nat)} {g : Mg} {os : List Nat} {mc : Mb} {pos : Pos}
theorem me_lcO (hc : X.calm = true) (hN : X.N.Nodup) (hi : ME X e o) (ok : BlkOk X.N X.env.scope scope own)
    (hg : ∀ (s : Shared) (H : Hp) (C : Addr) (cl : List (Str × Addr)) (fp : List Addr), MG (X.blk s H scope (compEnvC scope cl C X.env) fp) tg os g) (ht : ∀ (s : Shared) (H : Hp) (C : Addr) (cl : List (Str × Addr)) (fp : List Addr), MTs (X.blk s H scope (compEnvC scope cl C X.env) fp) ifs mc)
    (he : ∀ (s : Shared) (H : Hp) (C : Addr) (cl : List (Str × Addr)) (fp : List Addr), ME (X.blk s H scope (compEnvC scope cl C X.env) fp) elt m) (sub : ∀ j ∈ os, j ∈ own.map (·.2)) (hs : ∀ x, foldedSetIterable e X.env x = pure x := by intro _; rfl) :
    ME X (.ListComp elt [⟨tg, e, ifs, 0⟩] scope pos) (mLcO o g mc m (own.map (·.2))) := PE.of (pe_lc (te := rE X.K m) (tt := rB X.K mc) (g := rG X.K os g) hc hN (mi_own hi) ok hg ht he hs) fun _ _ _ h => lc_genO sub h
end
theorem x_lcO {o m : Me} {g : Mg} {mc : Mb} {vs : List Nat} {τ : En} {M : Mem} {Q : Kt} : mLcO o g mc m vs τ M Q = o τ M fun t M1 => match t with
  | .lr n => (match M1.L[n]? with
    | some (some ds) => goLcO n ds g mc m (wipeT τ vs) (fun acc M2 => Q (.lst acc) M2) (ds.map T.d) [] M1
    | _ => False)
  | _ => False := rfl
end L3

set_option Elab.async false
set_option linter.all false
set_option maxRecDepth 100000
namespace Sh
open PySem PySem.Spec L2 L3
abbrev b_round_up_0 : Ms := (mRet (mOp oMul (mOp oDiv (mOp oSub (mOp oAdd (mVar 0) (mVar 1)) (mC (.int 1))) (mVar 1)) (mVar 1)))
abbrev b_round_up : Ms := b_round_up_0
def d_round_up : FD := mDef 2 2 b_round_up
abbrev b_greatest_alignment_0 : Ms := (mRet (mCall fMax (aCons (mLc (iSeq (mVar 1)) (gN 2) bYes (mOp oIx (mOp oIx (mVar 0) (mVar 2)) (mC (.int 1))) [2]) aNil)))
abbrev b_greatest_alignment : Ms := b_greatest_alignment_0
def d_greatest_alignment : FD := mDef 2 3 b_greatest_alignment
abbrev b_span_behind_0 : Ms := (mRet (mTup (aCons (mVar 4) (aCons (mOp oAdd (mVar 4) (mVar 2)) aNil))))
abbrev b_span_behind_1 : Ms := (mSeq (mSet 4 (mCall (fDef d_round_up) (aCons (mVar 1) (aCons (mVar 3) aNil)))) b_span_behind_0)
abbrev b_span_behind_2 : Ms := (mSeq (mAsg (mVar 0) (gTu 2 (gsCons (gN 2) (gsCons (gN 3) gsNil)))) b_span_behind_1)
abbrev b_span_behind : Ms := b_span_behind_2
def d_span_behind : FD := mDef 2 5 b_span_behind
abbrev b_laid_0 : Ms := (mDrop (mMeth fApp (mVar 2) (aCons (mTup (aCons (mVar 5) (aCons (mVar 3) aNil))) aNil)))
abbrev b_laid_1 : Ms := (mSeq (mAsg (mCall (fDef d_span_behind) (aCons (mOp oIx (mVar 0) (mVar 4)) (aCons (mVar 3) aNil))) (gTu 2 (gsCons (gN 5) (gsCons (gN 3) gsNil)))) b_laid_0)
abbrev b_laid_2 : Ms := (mRet (mCall fTuple (aCons (mVar 2) aNil)))
abbrev b_laid_3 : Ms := (mSeq (mFor (iSeq (mVar 1)) (gN 4) b_laid_1) b_laid_2)
abbrev b_laid_4 : Ms := (mSeq (mSet 3 (mC (.int 0))) b_laid_3)
abbrev b_laid_5 : Ms := (mSeq (mSet 2 (mNewL aNil)) b_laid_4)
abbrev b_laid : Ms := b_laid_5
def d_laid : FD := mDef 2 6 b_laid
abbrev b_row_end_0 : Ms := (mAsg (mCall (fDef d_span_behind) (aCons (mOp oIx (mVar 0) (mVar 3)) (aCons (mVar 2) aNil))) (gTu 2 (gsCons (gN 4) (gsCons (gN 2) gsNil))))
abbrev b_row_end_1 : Ms := (mRet (mVar 2))
abbrev b_row_end_2 : Ms := (mSeq (mFor (iSeq (mVar 1)) (gN 3) b_row_end_0) b_row_end_1)
abbrev b_row_end : Ms := b_row_end_2
def d_row_end : FD := mDef 3 5 b_row_end
abbrev b_row_whole_0 : Ms := (mRet (mCall (fDef d_round_up) (aCons (mCall (fDef d_row_end) (aCons (mVar 0) (aCons (mVar 1) (aCons (mC (.int 0)) aNil)))) (aCons (mCall (fDef d_greatest_alignment) (aCons (mVar 0) (aCons (mVar 1) aNil))) aNil))))
abbrev b_row_whole : Ms := b_row_whole_0
def d_row_whole : FD := mDef 2 2 b_row_whole
abbrev b_row_padding_0 : Ms := (mRet (mOp oSub (mCall (fDef d_row_whole) (aCons (mVar 0) (aCons (mVar 1) aNil))) (mCall fSum (aCons (mLc (iSeq (mVar 1)) (gN 2) bYes (mOp oIx (mOp oIx (mVar 0) (mVar 2)) (mC (.int 0))) [2]) aNil))))
abbrev b_row_padding : Ms := b_row_padding_0
def d_row_padding : FD := mDef 2 3 b_row_padding
abbrev b__law_reel_0 : Ms := (mSet 2 (mOp oMod (mCall fInt (aCons (mOp oAdd (mOp oAdd (mOp oMul (mVar 2) (mC (.int 69069))) (mOp oMul (mVar 3) (mC (.int 11)))) (mC (.int 5))) aNil)) (mC (.int 4294967291))))
abbrev b__law_reel_1 : Ms := (mRet (mDisp [("deep", (mVar 4)), ("cells", (mOp oAdd (mVar 1) (mLst (aCons (mOp oAdd (mOp oMul (mC (.int 2)) (mCall fLen (aCons (mVar 1) aNil))) (mC (.int 1))) aNil)))), ("stamp", (mVar 2)), ("count", (mC (.int 0)))]))
abbrev b__law_reel_2 : Ms := (mSeq (mSet 4 (mLcD (iSeq (mVar 1)) (gN 3) (mTest (mOp oGe (mVar 3) (mOp oPow (mC (.int 10)) (mC (.int 18))))) (mVar 3) [3])) b__law_reel_1)
abbrev b__law_reel_3 : Ms := (mSeq (mFor (iSeq (mVar 1)) (gN 3) b__law_reel_0) b__law_reel_2)
abbrev b__law_reel_4 : Ms := (mSeq (mPar 1 2 (aCons (mLc (iSeq (mSl (mVar 0) oNone (oPart (mC (.int 63))))) (gN 3) bYes (mIte (mTest (mOp oGe (mVar 3) (mC (.int 0)))) (mOp oMul (mC (.int 2)) (mVar 3)) (mOp oSub (mOp oMul (mUn oNeg (mC (.int 2))) (mVar 3)) (mC (.int 1)))) [3]) (aCons (mOp oAdd (mCall fLen (aCons (mVar 0) aNil)) (mC (.int 7))) aNil))) b__law_reel_3)
abbrev b__law_reel : Ms := b__law_reel_4
def d__law_reel : FD := mDef 1 5 b__law_reel
abbrev b__law_draw_0 : Ms := (mDrop (mMeth fApp (mVar 2) (aCons (mOp oDiv (mVar 3) (mVar 1)) aNil)))
abbrev b__law_draw_1 : Ms := (mRet (mOp oMod (mCall fInt (aCons (mVar 3) aNil)) (mVar 1)))
abbrev b__law_draw_2 : Ms := (mSeq (mIf (mTest (mOp oGe (mVar 3) (mVar 1))) b__law_draw_0 mNext) b__law_draw_1)
abbrev b__law_draw_3 : Ms := (mSeq (mSet 3 (mMeth0 fPop (mVar 2))) b__law_draw_2)
abbrev b__law_draw_4 : Ms := (mSet 6 (mOp oMod (mCall fInt (aCons (mOp oAdd (mOp oMul (mVar 6) (mVar 6)) (mOp oMul (mOp oDGet (mVar 0) (mC (.str "stamp"))) (mOp oAdd (mVar 4) (mVar 7)))) aNil)) (mC (.int 4294967279))))
abbrev b__law_draw_5 : Ms := (mRet (mOp oMod (mCall fInt (aCons (mOp oDiv (mVar 6) (mC (.int 512))) aNil)) (mVar 1)))
abbrev b__law_draw_6 : Ms := (mSeq (mFor (iRange (aCons (mC (.int 2)) aNil)) (gN 7) b__law_draw_4) b__law_draw_5)
abbrev b__law_draw_7 : Ms := (mSeq (mSet 6 (mOp oMod (mCall fInt (aCons (mOp oAdd (mOp oAdd (mOp oMul (mOp oIx (mVar 5) (mOp oMod (mCall fInt (aCons (mOp oMul (mVar 4) (mC (.int 7))) aNil)) (mCall fLen (aCons (mVar 5) aNil)))) (mC (.int 2246822519))) (mOp oDGet (mVar 0) (mC (.str "stamp")))) (mOp oMul (mVar 4) (mC (.int 3266489917)))) aNil)) (mC (.int 4294967291)))) b__law_draw_6)
abbrev b__law_draw_8 : Ms := (mSeq (mPar 4 5 (aCons (mOp oDGet (mVar 0) (mC (.str "count"))) (aCons (mOp oDGet (mVar 0) (mC (.str "cells"))) aNil))) b__law_draw_7)
abbrev b__law_draw_9 : Ms := (mSeq (mDPut (mVar 0) (mC (.str "count")) (mOp oAdd (mOp oDGet (mVar 0) (mC (.str "count"))) (mC (.int 1)))) b__law_draw_8)
abbrev b__law_draw_10 : Ms := (mSeq (mIf (bAnd (mTest (mOp (oEq true) (mVar 2) (mLst aNil))) (mTest (mOp oGt (mVar 1) (mC (.int 1))))) b__law_draw_3 mNext) b__law_draw_9)
abbrev b__law_draw_11 : Ms := (mSeq (mSet 2 (mOp oDGet (mVar 0) (mC (.str "deep")))) b__law_draw_10)
abbrev b__law_draw : Ms := b__law_draw_11
def d__law_draw : FD := mDef 2 8 b__law_draw
abbrev b__law_pick_0 : Ms := (mRet (mOp oIx (mVar 1) (mCall (fDef d__law_draw) (aCons (mVar 0) (aCons (mCall fLen (aCons (mVar 1) aNil)) aNil)))))
abbrev b__law_pick : Ms := b__law_pick_0
def d__law_pick : FD := mDef 2 2 b__law_pick
abbrev b__law_size_0 : Ms := (mRet (mVar 2))
abbrev b__law_size_1 : Ms := (mRet (mCall fMax (aCons (mC (.int 1)) (aCons (mOp oAdd (mVar 2) (mCall (fDef d__law_pick) (aCons (mVar 0) (aCons (mLst (aCons (mUn oNeg (mC (.int 1))) (aCons (mC (.int 1)) (aCons (mUn oNeg (mC (.int 2))) (aCons (mC (.int 3)) aNil))))) aNil)))) aNil))))
abbrev b__law_size_2 : Ms := (mRet (mOp oAdd (mC (.int 1)) (mCall (fDef d__law_draw) (aCons (mVar 0) (aCons (mC (.int 40)) aNil)))))
abbrev b__law_size_3 : Ms := (mRet (mCall fMin (aCons (mOp oPow (mC (.int 10)) (mC (.int 30))) (aCons (mCall fMax (aCons (mC (.int 1)) (aCons (mOp oAdd (mVar 4) (mVar 5)) aNil))) aNil))))
abbrev b__law_size_4 : Ms := (mSeq (mSet 5 (mCall (fDef d__law_pick) (aCons (mVar 0) (aCons (mLst (aCons (mC (.int 0)) (aCons (mC (.int 0)) (aCons (mUn oNeg (mC (.int 1))) (aCons (mC (.int 1)) (aCons (mOp oDiv (mUn oNeg (mVar 1)) (mC (.int 2))) (aCons (mOp oSub (mC (.int 0)) (mOp oMul (mCall (fDef d__law_draw) (aCons (mVar 0) (aCons (mOp oPow (mC (.int 10)) (mC (.int 6))) aNil))) (mOp oPow (mC (.int 10)) (mC (.int 23))))) aNil))))))) aNil)))) b__law_size_3)
abbrev b__law_size_5 : Ms := (mSeq (mSet 4 (mOp oSub (mOp oPow (mC (.int 10)) (mC (.int 30))) (mOp oMul (mVar 1) (mCall (fDef d__law_draw) (aCons (mVar 0) (aCons (mC (.int 9)) aNil)))))) b__law_size_4)
abbrev b__law_size_6 : Ms := (mSeq (mIf (mTest (mOp oLt (mVar 3) (mC (.int 8)))) b__law_size_2 mNext) b__law_size_5)
abbrev b__law_size_7 : Ms := (mSeq (mIf (mTest (mOp oLt (mVar 3) (mC (.int 6)))) b__law_size_1 mNext) b__law_size_6)
abbrev b__law_size_8 : Ms := (mSeq (mIf (mTest (mOp oLt (mVar 3) (mC (.int 3)))) b__law_size_0 mNext) b__law_size_7)
abbrev b__law_size_9 : Ms := (mSeq (mPar 2 3 (aCons (mOp oMul (mVar 1) (mOp oAdd (mC (.int 1)) (mCall (fDef d__law_draw) (aCons (mVar 0) (aCons (mC (.int 6)) aNil))))) (aCons (mCall (fDef d__law_draw) (aCons (mVar 0) (aCons (mC (.int 9)) aNil))) aNil))) b__law_size_8)
abbrev b__law_size : Ms := b__law_size_9
def d__law_size : FD := mDef 2 6 b__law_size
abbrev b__law_book_0 : Ms := (mLPut (mVar 2) (mVar 3) (mOp oIx (mVar 2) (mOp oSub (mVar 3) (mC (.int 1)))))
abbrev b__law_book_1 : Ms := (mIf (bAnd (mTest (mOp oGt (mVar 3) (mC (.int 0)))) (mTest (mOp (oEq false) (mCall (fDef d__law_draw) (aCons (mVar 0) (aCons (mC (.int 9)) aNil))) (mC (.int 0))))) b__law_book_0 mNext)
abbrev b__law_book_2 : Ms := (mSeq (mDrop (mMeth fApp (mVar 2) (aCons (mTup (aCons (mCall (fDef d__law_size) (aCons (mVar 0) (aCons (mVar 4) aNil))) (aCons (mVar 4) aNil))) aNil))) b__law_book_1)
abbrev b__law_book_3 : Ms := (mSeq (mSet 4 (mCall (fDef d__law_pick) (aCons (mVar 0) (aCons (mLst (aCons (mC (.int 1)) (aCons (mC (.int 1)) (aCons (mC (.int 2)) (aCons (mC (.int 2)) (aCons (mC (.int 4)) (aCons (mC (.int 4)) (aCons (mC (.int 8)) (aCons (mC (.int 16)) (aCons (mC (.int 32)) (aCons (mC (.int 64)) aNil))))))))))) aNil)))) b__law_book_2)
abbrev b__law_book_4 : Ms := (mRet (mCall fTuple (aCons (mVar 2) aNil)))
abbrev b__law_book_5 : Ms := (mSeq (mFor (iRange (aCons (mVar 1) aNil)) (gN 3) b__law_book_3) b__law_book_4)
abbrev b__law_book_6 : Ms := (mSeq (mSet 2 (mNewL aNil)) b__law_book_5)
abbrev b__law_book : Ms := b__law_book_6
def d__law_book : FD := mDef 2 5 b__law_book
abbrev b__law_row_0 : Ms := (mSet 5 (mCall (fDef d__law_draw) (aCons (mVar 0) (aCons (mCall fLen (aCons (mVar 1) aNil)) aNil))))
abbrev b__law_row_1 : Ms := (mDrop (mMeth fApp (mVar 4) (aCons (mVar 5) aNil)))
abbrev b__law_row_2 : Ms := (mSeq (mIf (bOr (mTest (mOp (oEq false) (mVar 3) (mC (.int 0)))) (mTest (mOp (oEq false) (mCall (fDef d__law_draw) (aCons (mVar 0) (aCons (mC (.int 4)) aNil))) (mC (.int 0))))) b__law_row_0 mNext) b__law_row_1)
abbrev b__law_row_3 : Ms := (mRet (mCall fTuple (aCons (mVar 4) aNil)))
abbrev b__law_row_4 : Ms := (mSeq (mFor (iRange (aCons (mVar 2) aNil)) (gN 6) b__law_row_2) b__law_row_3)
abbrev b__law_row_5 : Ms := (mSeq (mSet 5 (mCall (fDef d__law_draw) (aCons (mVar 0) (aCons (mCall fLen (aCons (mVar 1) aNil)) aNil)))) b__law_row_4)
abbrev b__law_row_6 : Ms := (mSeq (mPar 3 4 (aCons (mCall (fDef d__law_draw) (aCons (mVar 0) (aCons (mC (.int 3)) aNil))) (aCons (mNewL aNil) aNil))) b__law_row_5)
abbrev b__law_row : Ms := b__law_row_6
def d__law_row : FD := mDef 3 7 b__law_row
abbrev b__law_up_0 : Ms := (mRet (mOp oAdd (mVar 0) (mOp oMod (mCall fInt (aCons (mOp oSub (mC (.int 0)) (mVar 0)) aNil)) (mVar 1))))
abbrev b__law_up : Ms := b__law_up_0
def d__law_up : FD := mDef 2 2 b__law_up
abbrev b__law_ends_0 : Ms := (mSet 4 (mOp oIx (mOp oIx (mVar 3) (mUn oNeg (mC (.int 1)))) (mC (.int 1))))
abbrev b__law_ends_1 : Ms := (mSeq (mDrop (mMeth fApp (mVar 3) (aCons (mTup (aCons (mVar 4) (aCons (mOp oAdd (mVar 4) (mOp oIx (mOp oIx (mVar 0) (mVar 5)) (mC (.int 0)))) aNil))) aNil))) b__law_ends_0)
abbrev b__law_ends_2 : Ms := (mSeq (mSet 4 (mCall (fDef d__law_up) (aCons (mVar 4) (aCons (mOp oIx (mOp oIx (mVar 0) (mVar 5)) (mC (.int 1))) aNil)))) b__law_ends_1)
abbrev b__law_ends_3 : Ms := (mRet (mFrz (mVar 3)))
abbrev b__law_ends_4 : Ms := (mSeq (mFor (iSeq (mVar 1)) (gN 5) b__law_ends_2) b__law_ends_3)
abbrev b__law_ends_5 : Ms := (mSeq (mPar 3 4 (aCons (mNewL aNil) (aCons (mVar 2) aNil))) b__law_ends_4)
abbrev b__law_ends : Ms := b__law_ends_5
def d__law_ends : FD := mDef 3 6 b__law_ends
abbrev b__law_step_0 : Ms := (mRet (mCall fMax (aCons (mLc (iSeq (mVar 1)) (gN 2) bYes (mOp oIx (mOp oIx (mVar 0) (mVar 2)) (mC (.int 1))) [2]) aNil)))
abbrev b__law_step : Ms := b__law_step_0
def d__law_step : FD := mDef 2 3 b__law_step
abbrev b_power_0 : Ms := (mRet (mOp oAnd (mVar 0) (mUn oNeg (mVar 0))))
abbrev b_power : Ms := b_power_0
def d_power : FD := mDef 1 1 b_power
abbrev b_room_0 : Ms := (mRet (mCall (fDef d_round_up) (aCons (mVar 1) (aCons (mVar 2) aNil))))
abbrev b_room_1 : Ms := (mSeq (mAsg (mVar 0) (gTu 2 (gsCons (gN 1) (gsCons (gN 2) gsNil)))) b_room_0)
abbrev b_room : Ms := b_room_1
def d_room : FD := mDef 1 3 b_room
abbrev b_rooms_0 : Ms := (mRet (mCall fTuple (aCons (mLc (iSeq (mVar 0)) (gN 1) bYes (mCall (fDef d_room) (aCons (mVar 1) aNil)) [1]) aNil)))
abbrev b_rooms : Ms := b_rooms_0
def d_rooms : FD := mDef 1 2 b_rooms
abbrev b_lacks_0 : Ms := (mRet (mCall fTuple (aCons (mLc (iSeq (mVar 0)) (gN 1) bYes (mOp oSub (mCall (fDef d_room) (aCons (mVar 1) aNil)) (mOp oIx (mVar 1) (mC (.int 0)))) [1]) aNil)))
abbrev b_lacks : Ms := b_lacks_0
def d_lacks : FD := mDef 1 2 b_lacks
abbrev b_unit_0 : Ms := (mRet (mCall fMin (aCons (mLc (iSeq (mVar 0)) (gN 1) bYes (mCall (fDef d_power) (aCons (mCall (fDef d_room) (aCons (mVar 1) aNil)) aNil)) [1]) aNil)))
abbrev b_unit : Ms := b_unit_0
def d_unit : FD := mDef 1 2 b_unit
abbrev b__law_record_0 : Ms := (mLPut (mVar 3) (mCall (fDef d__law_draw) (aCons (mVar 0) (aCons (mCall fLen (aCons (mVar 3) aNil)) aNil))) (mOp oAdd (mC (.int 1)) (mCall (fDef d__law_draw) (aCons (mVar 0) (aCons (mC (.int 9)) aNil)))))
abbrev b__law_record_1 : Ms := (mRet (mCall fTuple (aCons (mVar 3) aNil)))
abbrev b__law_record_2 : Ms := (mSeq (mIf (mTest (mOp (oEq false) (mLc (iSeq (mFrz (mVar 3))) (gN 5) (mTest (mOp oGt (mVar 5) (mC (.int 0)))) (mVar 5) [5]) (mLst aNil))) b__law_record_0 mNext) b__law_record_1)
abbrev b__law_record_3 : Ms := (mSeq (mSet 3 (mLcL (iSeq (mVar 1)) (gN 4) bYes (mCall (fDef d__law_pick) (aCons (mVar 0) (aCons (mVar 2) aNil))) [4])) b__law_record_2)
abbrev b__law_record_4 : Ms := (mSeq (mSet 2 (mLst (aCons (mC (.int 0)) (aCons (mC (.int 0)) (aCons (mC (.int 1)) (aCons (mC (.int 1)) (aCons (mC (.int 2)) (aCons (mC (.int 3)) (aCons (mCall (fDef d__law_draw) (aCons (mVar 0) (aCons (mC (.int 30)) aNil))) (aCons (mOp oPow (mC (.int 10)) (mC (.int 30))) (aCons (mCall (fDef d__law_draw) (aCons (mVar 0) (aCons (mOp oPow (mC (.int 10)) (mC (.int 9))) aNil))) aNil))))))))))) b__law_record_3)
abbrev b__law_record : Ms := b__law_record_4
def d__law_record : FD := mDef 2 6 b__law_record
abbrev b__law_power_0 : Ms := (mPar 0 1 (aCons (mOp oDiv (mVar 0) (mC (.int 2))) (aCons (mOp oMul (mVar 1) (mC (.int 2))) aNil)))
abbrev b__law_power_1 : Ms := (mRet (mVar 1))
abbrev b__law_power_2 : Ms := (mSeq (mWhile (mTest (mOp (oEq false) (mOp oMod (mCall fInt (aCons (mVar 0) aNil)) (mC (.int 2))) (mC (.int 0)))) b__law_power_0) b__law_power_1)
abbrev b__law_power_3 : Ms := (mSeq (mSet 1 (mC (.int 1))) b__law_power_2)
abbrev b__law_power : Ms := b__law_power_3
def d__law_power : FD := mDef 1 2 b__law_power
abbrev b__law_rooms_0 : Ms := (mRet (mLc (iSeq (mVar 0)) (gTu 2 (gsCons (gN 1) (gsCons (gN 2) gsNil))) bYes (mCall (fDef d__law_up) (aCons (mVar 1) (aCons (mVar 2) aNil))) [1, 2]))
abbrev b__law_rooms : Ms := b__law_rooms_0
def d__law_rooms : FD := mDef 1 3 b__law_rooms
end Sh

set_option Elab.async false
set_option linter.all false
set_option maxRecDepth 100000
namespace Sh
open PySem PySem.Spec L2 L3

/-! ### the reel -/
def rk (cells : List Int) (stamp count : Int) : List (Key × T) := [(.inr "deep", .mr 0), (.inr "cells", .lst (cells.map .int)), (.inr "stamp", .int stamp), (.inr "count", .int count)]
def rd (deep cells : List Int) (stamp count : Int) : List Cell := [.lst (deep.map T.int), .dct (rk cells stamp count)]
@[simp] theorem rk_deep {c : List Int} {s n : Int} : lookT (rk c s n) (.inr "deep") = some (.mr 0) := by
  unfold rk lookT
  rfl
@[simp] theorem rk_cells {c : List Int} {s n : Int} : lookT (rk c s n) (.inr "cells") = some (.lst (c.map .int)) := by
  unfold rk lookT
  rfl
@[simp] theorem rk_stamp {c : List Int} {s n : Int} : lookT (rk c s n) (.inr "stamp") = some (.int s) := by
  unfold rk lookT
  rfl
@[simp] theorem rk_count {c : List Int} {s n : Int} : lookT (rk c s n) (.inr "count") = some (.int n) := by
  unfold rk lookT
  rfl
@[simp] theorem rk_put {c : List Int} {s n m : Int} : putT (rk c s n) (.inr "count") (.int m) = rk c s m := by
  unfold rk putT
  rfl
@[simp] theorem rk_len {c : List Int} {s n : Int} : (rk c s n).length = 4 := rfl
structure RI (D : List Cell) : Prop where
  ex : ∃ (deep cells : List Int) (stamp count : Int), D = rd deep cells stamp count ∧ cells ≠ [] ∧ cells.length ≤ 64 ∧ deep.length ≤ 64 ∧ 0 ≤ stamp ∧ stamp < 4294967291 ∧ 0 ≤ count
theorem sz4 : (4 : Nat) < sizeLine := by rw [sizeLine_eq]; decide
theorem sz64 {n : Nat} (h : n ≤ 100000) : n < sizeLine := by rw [sizeLine_eq]; omega
theorem sz64' {n : Nat} (h : n ≤ 100000) : n ≤ sizeLine := by rw [sizeLine_eq]; omega
theorem datas_ints : ∀ l : List Int, datas (l.map T.int) = some (l.map PyData.int)
  | [] => rfl
  | x :: l => by
    show (datas (l.map T.int)).map (PyData.int x :: ·) = _
    rw [datas_ints l]
    rfl
theorem shaped_ints (l : List Int) : SeqAt.shaped (.list (l.map .int)) = true := by
  have h1 : ∀ l : List Int, PyData.canLayAll0 (l.map .int) = true := by
    intro l
    induction l with
    | nil => rfl
    | cons x l ih => simp [PyData.canLayAll0, PyData.canLay0, ih]
  have h2 : ∀ l : List Int, PyData.depthAll (l.map .int) ≤ 1 := by
    intro l
    induction l with
    | nil => simp [PyData.depthAll]
    | cons x l ih =>
      simp [PyData.depthAll, PyData.depth]
      omega
  unfold SeqAt.shaped
  rw [Bool.and_eq_true]
  refine ⟨by simp [PyData.canLay0, h1], decide_eq_true ?_⟩
  have := h2 l
  simp only [PyData.depth]
  omega
theorem eqv_nil (l : List PyData) : PyData.eqv (.list l) (.list []) = l.isEmpty := by
  cases l <;> simp [PyData.eqv, PyData.eqvAll]
theorem atI_mod {l : List Int} {i : Int} (h0 : 0 ≤ i) (h1 : i < l.length) : ∃ v, atI (l.map PyData.int) i = some (.int v) := by
  obtain ⟨n, rfl⟩ : ∃ n : Nat, i = n := ⟨i.toNat, by omega⟩
  have hn : n < l.length := by omega
  exact ⟨l[n], atI_nat (by rw [List.getElem?_map, List.getElem?_eq_getElem hn]; rfl)⟩
theorem he_nil {deep : List Int} {X : Cell} {n : Bool} {Q : Kt} : oEq n (.mr 0) (.d (.list [])) ⟨[.lst (deep.map T.int), X], []⟩ Q = Q (.bl (if n then !deep.isEmpty else deep.isEmpty)) ⟨[.lst (deep.map T.int), X], []⟩ := by
  rw [x_eq (a := .list (deep.map .int)) (b := .list []) ?_ rfl (shaped_ints _) (shaped_ints []) (fun _ z => nomatch z), eqv_nil]
  · cases deep <;> rfl
  · simp [now, datas_ints]
theorem rang {i j : Int} (h : 0 < j) : 0 ≤ i % j ∧ i % j < j := ⟨Int.emod_nonneg _ (by omega), Int.emod_lt_of_pos _ h⟩
/-- the draw's second half -/
theorem draw_tail {deep cells : List Int} {stamp count many : Int} {Q : T → List Cell → Prop} {t3 : Option T} (hc : cells ≠ []) (hcl : cells.length ≤ 64) (hdl : deep.length ≤ 64) (hs : 0 ≤ stamp) (hs2 : stamp < 4294967291) (hn : 0 ≤ count) (h1 : 1 ≤ many) (h2 : many < 18446744073709551616)
    (q : ∀ n D', 0 ≤ n → n < many → RI D' → Q (.int n) D') : b__law_draw_9 { nx := fun _ M => Q .non M.D, rt := fun t M => noL t = true ∧ Q t M.D } [some (.mr 1), some (.int many), some (.mr 0), t3, none, none, none, none] ⟨rd deep cells stamp count, []⟩ := by
  have hl : 0 < cells.length := List.length_pos_iff.mpr hc
  refine w_seq ?_
  simp [rd, sz4]
  refine w_seq ?_
  simp
  refine w_seq ?_
  have hr := rang (i := (count + 1) * 7) (j := cells.length) (by omega)
  obtain ⟨v, hv⟩ := atI_mod (l := cells) (i := (count + 1) * 7 % cells.length) hr.1 hr.2
  simp
  refine ⟨by unfold CMul; omega, hl, _, hv, ?_⟩
  simp
  refine ⟨by unfold CMul; omega, by unfold CMul; omega, ?_⟩
  refine w_seq (w_for ?_)
  simp [rangeT, List.range_succ]
  have hm := rang (i := v * 2246822519 + stamp + (count + 1) * 3266489917) (j := 4294967291) (by omega)
  rw [x_forc]
  simp
  refine ⟨by unfold CMul; omega, by unfold CMul; omega, ?_⟩
  rw [x_forc]
  simp
  have hm2 := rang (i := (v * 2246822519 + stamp + (count + 1) * 3266489917) % 4294967291 * ((v * 2246822519 + stamp + (count + 1) * 3266489917) % 4294967291) + stamp * (count + 1)) (j := 4294967279) (by omega)
  refine ⟨by unfold CMul; omega, by unfold CMul; omega, ?_⟩
  rw [x_forn]
  simp
  refine ⟨by unfold CDv; omega, by omega, ?_⟩
  have hf := fun x : Int => rang (i := x) (j := many) (by omega)
  exact q _ _ (hf _).1 (hf _).2 ⟨deep, cells, stamp, count + 1, rfl, hc, hcl, hdl, hs, hs2, by omega⟩
theorem sp_draw {D : List Cell} {many : Int} {Q : T → List Cell → Prop} (hD : RI D) (h1 : 1 ≤ many) (h2 : many < 18446744073709551616) (q : ∀ n D', 0 ≤ n → n < many → RI D' → Q (.int n) D') : d__law_draw [.mr 1, .int many] D Q := by
  obtain ⟨deep, cells, stamp, count, rfl, hc, hcl, hdl, hs, hs2, hn⟩ := hD.ex
  refine ⟨rfl, ?_⟩
  have ht := fun (t3 : Option T) => draw_tail (t3 := t3) hc hcl hdl hs hs2 hn h1 h2 q
  refine w_seq ?_
  simp [rd]
  refine w_seq (w_if ?_)
  simp [he_nil]
  by_cases hd : deep = []
  · subst hd
    exact .inl ⟨rfl, ht none⟩
  · refine .inr ⟨hd, ?_⟩
    by_cases hm : many ≤ 1
    · exact .inl ⟨hm, ht none⟩
    · refine .inr ⟨by omega, ?_⟩
      obtain ⟨d0, x, rfl⟩ : ∃ d0 x, deep = d0 ++ [x] := ⟨deep.dropLast, deep.getLast hd, (List.dropLast_concat_getLast hd).symm⟩
      refine w_seq ?_
      simp
      refine w_seq (w_if ?_)
      simp
      have hp := fun x : Int => rang (i := x) (j := many) (by omega)
      have hl2 : d0.length + 1 ≤ 64 := by simpa using hdl
      by_cases hx : x < many
      · exact .inl ⟨hx, by omega, q _ _ (hp x).1 (hp x).2 ⟨d0, cells, stamp, count, rfl, hc, hcl, by omega, hs, hs2, hn⟩⟩
      · refine .inr ⟨by omega, by unfold CDv; omega, sz64 (by omega), by omega, q _ _ (hp x).1 (hp x).2 ⟨d0 ++ [x / many], cells, stamp, count, ?_, hc, hcl, by simpa using hl2, hs, hs2, hn⟩⟩
        simp [rd]
end Sh

set_option Elab.async false
set_option linter.all false
set_option maxRecDepth 100000
namespace Sh
open PySem PySem.Spec L2 L3

/-! ### loops by an invariant -/
theorem for_all {g : Mg} {b : Ms} {E : Es} {ts : List T} {τ : En} {M : Mem} (I : Nat → En → Mem → Prop) (h0 : I 0 τ M)
    (step : ∀ (i : Nat) (τ : En) (M : Mem) (t : T) (R : En → Mem → Prop), ts[i]? = some t → I i τ M → (∀ τ' M', I (i + 1) τ' M' → R τ' M') → g t τ M fun τ1 M1 => b { E with nx := R, ct := R, bk := E.nx } τ1 M1)
    (done : ∀ τ M, I ts.length τ M → E.nx τ M) : goFor g b E ts τ M := by
  have key : ∀ (rest : List T) (i : Nat) (τ : En) (M : Mem), ts.drop i = rest → i ≤ ts.length → I i τ M → goFor g b E rest τ M := by
    intro rest
    induction rest with
    | nil =>
      intro i τ M e hi h
      have : i = ts.length := by
        have := congrArg List.length e
        simp at this
        omega
      subst this
      exact done τ M h
    | cons t rest ih =>
      intro i τ M e hi h
      have hlt : i < ts.length := by
        rcases Nat.lt_or_ge i ts.length with q | q
        · exact q
        · rw [List.drop_eq_nil_of_le q] at e; cases e
      rw [drop_at hlt] at e
      obtain ⟨e1, e2⟩ := List.cons.inj e
      rw [x_forc]
      refine step i τ M t _ (by rw [← e1]; exact List.getElem?_eq_getElem hlt) h fun τ' M' h' => ?_
      exact ih (i + 1) τ' M' e2 hlt h'
  exact key ts 0 τ M rfl (Nat.zero_le _) h0
theorem lc_all {g : Mg} {c : Mb} {m : Me} {τ0 : En} {F : List PyData → Mem → Prop} {ts : List T} {M : Mem} (I : Nat → List PyData → Mem → Prop) (h0 : I 0 [] M)
    (step : ∀ (i : Nat) (acc : List PyData) (M : Mem) (t : T) (R : List PyData → Mem → Prop), ts[i]? = some t → I i acc M → (∀ acc' M', I (i + 1) acc' M' → R acc' M') →
      g t τ0 M fun τ1 M1 => c τ1 M1 fun k M2 => if k = true then m τ1 M2 fun y M3 => (match y with | .d z => acc.length < sizeLine ∧ R (acc ++ [z]) M3 | _ => False) else R acc M2)
    (done : ∀ acc M, I ts.length acc M → F acc M) : goLc g c m τ0 F ts [] M := by
  have key : ∀ (rest : List T) (i : Nat) (acc : List PyData) (M : Mem), ts.drop i = rest → i ≤ ts.length → I i acc M → goLc g c m τ0 F rest acc M := by
    intro rest
    induction rest with
    | nil =>
      intro i acc M e hi h
      have : i = ts.length := by
        have := congrArg List.length e
        simp at this
        omega
      subst this
      exact done acc M h
    | cons t rest ih =>
      intro i acc M e hi h
      have hlt : i < ts.length := by
        rcases Nat.lt_or_ge i ts.length with q | q
        · exact q
        · rw [List.drop_eq_nil_of_le q] at e; cases e
      rw [drop_at hlt] at e
      obtain ⟨e1, e2⟩ := List.cons.inj e
      rw [x_lcc]
      exact step i acc M t (fun a m' => goLc g c m τ0 F rest a m') (by rw [← e1]; exact List.getElem?_eq_getElem hlt) h fun a' M' h' => ih (i + 1) a' M' e2 hlt h'
  exact key ts 0 [] M rfl (Nat.zero_le _) h0
/-- a comprehension that changes nothing: f of every item of which p -/
theorem lc_pf {g : Mg} {c : Mb} {m : Me} {τ0 : En} {F : List PyData → Mem → Prop} {α : Type} {ts : List α} {e : α → T} {M : Mem} (p : α → Bool) (f : α → PyData) (hz : ts.length ≤ sizeLine)
    (step : ∀ (x : α) (acc : List PyData) (R : List PyData → Mem → Prop), x ∈ ts → acc.length < sizeLine → R (if p x = true then acc ++ [f x] else acc) M →
      g (e x) τ0 M fun τ1 M1 => c τ1 M1 fun k M2 => if k = true then m τ1 M2 fun y M3 => (match y with | .d z => acc.length < sizeLine ∧ R (acc ++ [z]) M3 | _ => False) else R acc M2)
    (done : F ((ts.filter p).map f) M) : goLc g c m τ0 F (ts.map e) [] M := by
  refine lc_all (fun i acc M' => M' = M ∧ acc = ((ts.take i).filter p).map f) ⟨rfl, rfl⟩ ?_ ?_
  · rintro i acc M' t R ht ⟨rfl, rfl⟩ k
    rw [List.getElem?_map] at ht
    cases hx : ts[i]? with
    | none => rw [hx] at ht; cases ht
    | some x =>
      rw [hx] at ht
      cases ht
      have hi : i < ts.length := by
        rcases Nat.lt_or_ge i ts.length with q | q
        · exact q
        · rw [List.getElem?_eq_none q] at hx; cases hx
      have hm : x ∈ ts := List.mem_of_getElem? hx
      have hlen : (((ts.take i).filter p).map f).length < sizeLine := by
        rw [List.length_map]
        have := List.length_filter_le p (ts.take i)
        rw [List.length_take] at this
        omega
      refine step x _ R hm hlen (k _ _ ⟨rfl, ?_⟩)
      rw [List.take_add_one, hx, Option.toList_some, List.filter_append, List.map_append]
      by_cases hp : p x = true
      · rw [if_pos hp]
        simp [hp]
      · rw [if_neg hp]
        simp [hp]
  · rintro acc M' ⟨rfl, rfl⟩
    rw [List.length_map, List.take_length]
    exact done
theorem lc_pure {g : Mg} {m : Me} {τ0 : En} {F : List PyData → Mem → Prop} {α : Type} {ts : List α} {e : α → T} {M : Mem} (f : α → PyData) (hz : ts.length ≤ sizeLine)
    (step : ∀ (x : α) (acc : List PyData) (R : List PyData → Mem → Prop), x ∈ ts → acc.length < sizeLine → R (acc ++ [f x]) M →
      g (e x) τ0 M fun τ1 M1 => m τ1 M1 fun y M3 => (match y with | .d z => acc.length < sizeLine ∧ R (acc ++ [z]) M3 | _ => False))
    (done : F (ts.map f) M) : goLc g bYes m τ0 F (ts.map e) [] M := by
  refine lc_pf (fun _ => true) f hz (fun x acc R hx ha hr => ?_) (by rw [List.filter_eq_self.mpr (by simp)]; exact done)
  simp only [x_byes, if_true]
  exact step x acc R hx ha (by simpa using hr)

/-! ### the reel made -/
theorem cut63 {ns : List Int} (h : ns.length ≤ 63) : cutT ns none (some 63) = ns := by
  unfold cutT
  have h1 : HT.sIx ns.length 0 none = 0 := rfl
  have h2 : HT.sIx ns.length ns.length (some 63) = ns.length := by
    show (if (63 : Int) < 0 then ((63 : Int) + (ns.length : Int)).toNat else min (63 : Int).toNat ns.length) = ns.length
    rw [if_neg (by omega)]
    omega
  rw [h1, h2]
  simp
def dbl (n : Int) : Int := if 0 ≤ n then 2 * n else -2 * n - 1
theorem map_map' (f : Int → Int) (l : List Int) : l.map (fun x => PyData.int (f x)) = (l.map f).map .int := by rw [List.map_map]; rfl
theorem sp_reel {ns : List Int} {Q : T → List Cell → Prop} (h : ns.length ≤ 63) (q : ∀ D, RI D → Q (.mr 1) D) : d__law_reel [.scr ns] [] Q := by
  have h0 : ns.length ≤ sizeLine := sz64' (by omega)
  refine ⟨rfl, w_seq ?_⟩
  simp only [x_par, x_acons, x_lc, x_iseq, x_sl, x_var]
  simp [wipeT, cut63 h]
  refine lc_pure (e := T.d ∘ PyData.int) (fun n => .int (dbl n)) h0 (fun x acc R _ ha hr => ?_) ?_
  · simp
    unfold dbl at hr
    by_cases hx : 0 ≤ x
    · rw [if_pos hx] at hr
      exact .inr ⟨hx, by unfold CMul; omega, ha, hr⟩
    · rw [if_neg hx] at hr
      exact .inl ⟨by omega, by unfold CMul; omega, ha, hr⟩
  · rw [map_map']
    have hl : (ns.map dbl).length ≤ 63 := by rw [List.length_map]; exact h
    generalize ns.map dbl = cs at hl
    refine w_seq (w_for ?_)
    simp
    refine for_all (fun i τ M => M = ⟨[], []⟩ ∧ ∃ st w, τ = [some (.scr ns), some (.lst (cs.map .int)), some (.int st), w, none] ∧ 0 ≤ st ∧ st < 4294967291) ⟨rfl, _, _, rfl, by omega, by omega⟩ ?_ ?_
    · rintro i τ M t R ht ⟨rfl, st, w, rfl, h1, h2⟩ k
      rw [List.getElem?_map] at ht
      cases hx : cs[i]? with
      | none => rw [hx] at ht; cases ht
      | some x =>
        rw [hx] at ht
        cases ht
        have hm := rang (i := st * 69069 + x * 11 + 5) (j := 4294967291) (by omega)
        simp
        refine ⟨by unfold CMul; omega, by unfold CMul; omega, ?_⟩
        exact k _ _ ⟨rfl, _, _, rfl, hm.1, hm.2⟩
    · rintro τ M ⟨rfl, st, w, rfl, h1, h2⟩
      dsimp only
      refine w_seq ?_
      simp only [x_set, mLcD, x_iseq, x_var]
      simp [wipeT]
      refine lc_pf (e := T.d ∘ PyData.int) (fun n => decide (1000000000000000000 ≤ n)) (fun n => .int n) (sz64' (by omega)) (fun x acc R _ ha hr => ?_) ?_
      · simp [CPow]
        by_cases hx : 1000000000000000000 ≤ x
        · rw [if_pos (decide_eq_true hx)] at hr
          exact .inr ⟨hx, ha, hr⟩
        · rw [if_neg (by simpa using hx)] at hr
          exact .inl ⟨by omega, hr⟩
      · generalize hdp : cs.filter (fun n => decide (1000000000000000000 ≤ n)) = dp
        have hdl : dp.length ≤ 63 := by
          rw [← hdp]
          exact Nat.le_trans (List.length_filter_le _ _) hl
        simp [mDisp, goD, sizeLine_eq]
        refine ⟨by unfold CMul; omega, by omega, by decide, ?_⟩
        refine q _ ⟨dp, cs ++ [2 * (cs.length : Int) + 1], st, 0, ?_, by simp, by simp; omega, by omega, h1, h2, by omega⟩
        simp [rd, rk]
end Sh

set_option Elab.async false
set_option linter.all false
set_option maxRecDepth 100000
namespace Sh
open PySem PySem.Spec L2 L3

theorem datas_ds : ∀ l : List PyData, datas (l.map T.d) = some l
  | [] => rfl
  | x :: l => by
    show (datas (l.map T.d)).map (x :: ·) = _
    rw [datas_ds l]
    rfl
theorem sp_pick {D : List Cell} {xs : List PyData} {Q : T → List Cell → Prop} (hD : RI D) (h1 : xs ≠ []) (h2 : xs.length < 100000) (q : ∀ x D', x ∈ xs → RI D' → Q (.d x) D') : d__law_pick [.mr 1, .lst xs] D Q := by
  have hl : 0 < xs.length := List.length_pos_iff.mpr h1
  refine ⟨rfl, ?_⟩
  try simp
  refine sp_draw hD (by omega) (by omega) fun n D' n0 n1 hD' => ?_
  obtain ⟨k, rfl⟩ : ∃ k : Nat, n = k := ⟨n.toNat, by omega⟩
  have hk : k < xs.length := by omega
  try simp
  exact ⟨_, atI_nat (List.getElem?_eq_getElem hk), q _ _ (List.getElem_mem hk) hD'⟩
/-- the steps that a kind may have -/
def Al (a : Int) : Prop := a = 1 ∨ a = 2 ∨ a = 4 ∨ a = 8 ∨ a = 16 ∨ a = 32 ∨ a = 64
theorem Al.pos {a : Int} (h : Al a) : 1 ≤ a ∧ a ≤ 64 := by unfold Al at h; omega
theorem sp_size {D : List Cell} {a : Int} {Q : T → List Cell → Prop} (hD : RI D) (h : Al a) (q : ∀ s D', 1 ≤ s → s ≤ 1000000000000000000000000000000 → RI D' → Q (.int s) D') : d__law_size [.mr 1, .int a] D Q := by
  have ha := h.pos
  refine ⟨rfl, w_seq ?_⟩
  try simp
  refine sp_draw hD (by omega) (by omega) fun n D1 n0 n1 hD1 => ?_
  try simp
  have h1 : 1 ≤ a * (1 + n) ∧ a * (1 + n) ≤ 384 := by
    have : n = 0 ∨ n = 1 ∨ n = 2 ∨ n = 3 ∨ n = 4 ∨ n = 5 := by omega
    rcases this with rfl | rfl | rfl | rfl | rfl | rfl <;> omega
  generalize a * (1 + n) = near at h1
  refine ⟨by unfold CMul; omega, ?_⟩
  refine sp_draw hD1 (by omega) (by omega) fun lot D2 l0 l1 hD2 => ?_
  try simp
  refine w_seq (w_if ?_)
  try simp
  by_cases c1 : lot < 3
  · exact .inr ⟨c1, q _ _ h1.1 (by omega) hD2⟩
  refine .inl ⟨by omega, w_seq (w_if ?_)⟩
  try simp
  by_cases c2 : lot < 6
  · refine .inr ⟨c2, by simp [sizeLine_eq], ?_⟩
    refine sp_pick hD2 (by simp) (by simp) fun x D3 hx hD3 => ?_
    simp at hx
    have : ∃ v : Int, x = .int v ∧ -2 ≤ v ∧ v ≤ 3 := by
      rcases hx with rfl | rfl | rfl | rfl
      · exact ⟨-1, rfl, by omega, by omega⟩
      · exact ⟨1, rfl, by omega, by omega⟩
      · exact ⟨-2, rfl, by omega, by omega⟩
      · exact ⟨3, rfl, by omega, by omega⟩
    obtain ⟨v, rfl, v1, v2⟩ := this
    simp
    refine q _ _ ?_ ?_ hD3
    · split <;> omega
    · split <;> omega
  refine .inl ⟨by omega, w_seq (w_if ?_)⟩
  try simp
  by_cases c3 : lot < 8
  · refine .inr ⟨c3, ?_⟩
    refine sp_draw hD2 (by omega) (by omega) fun v D3 v0 v1 hD3 => ?_
    simp
    exact q _ _ (by omega) (by omega) hD3
  refine .inl ⟨by omega, w_seq ?_⟩
  simp [CPow]
  refine sp_draw hD2 (by omega) (by omega) fun v D3 v0 v1 hD3 => ?_
  try simp
  refine ⟨by unfold CMul; omega, w_seq ?_⟩
  simp [CDv, CPow]
  refine sp_draw hD3 (by omega) (by omega) fun z D4 z0 z1 hD4 => ?_
  try simp
  refine ⟨by unfold CMul; omega, by simp [sizeLine_eq], ?_⟩
  refine sp_pick hD4 (by simp) (by simp) fun x D5 hx hD5 => ?_
  have : ∃ v : Int, x = .int v := by
    simp at hx
    rcases hx with rfl | rfl | rfl | rfl | rfl <;> exact ⟨_, rfl⟩
  obtain ⟨o, rfl⟩ := this
  simp [CPow]
  refine q _ _ ?_ ?_ hD5
  · split <;> split <;> omega
  · split <;> split <;> omega
end Sh

set_option Elab.async false
set_option linter.all false
set_option maxRecDepth 100000
namespace Sh
open PySem PySem.Spec L2 L3

/-- a kind, as data -/
def kd (k : Int × Int) : PyData := .tuple [.int k.1, .int k.2]
def GK (k : Int × Int) : Prop := (1 ≤ k.1 ∧ k.1 ≤ 1000000000000000000000000000000) ∧ Al k.2
structure GB (K : List (Int × Int)) : Prop where
  ne : K ≠ []
  six : K.length ≤ 6
  ok : ∀ k ∈ K, GK k
theorem range_at {n i : Nat} {t : T} (h : (rangeT n)[i]? = some t) : i < n ∧ t = .int (i : Int) := by
  unfold rangeT at h
  rw [List.getElem?_map] at h
  rcases Nat.lt_or_ge i n with q | q
  · rw [List.getElem?_range q] at h
    cases h
    exact ⟨q, rfl⟩
  · rw [List.getElem?_eq_none (by rw [List.length_range]; exact q)] at h
    cases h
theorem range_len {n : Nat} : (rangeT n).length = n := by unfold rangeT; simp
theorem sp_book {D : List Cell} {many : Int} {Q : T → List Cell → Prop} (hD : RI D) (h1 : 1 ≤ many) (h2 : many ≤ 6) (q : ∀ K D', GB K → (K.length : Int) = many → RI D' → Q (.tup (K.map kd)) D') : d__law_book [.mr 1, .int many] D Q := by
  refine ⟨rfl, w_seq ?_⟩
  try simp
  refine w_seq (w_for ?_)
  try simp
  refine ⟨by omega, ?_⟩
  refine for_all (fun i τ M => ∃ K D' p st, M = ⟨D', [some (K.map kd)]⟩ ∧ RI D' ∧ K.length = i ∧ (∀ k ∈ K, GK k) ∧ τ = [some (.mr 1), some (.int many), some (.lr 0), p, st]) ⟨[], D, none, none, rfl, hD, rfl, by simp, rfl⟩ ?_ ?_
  · rintro i τ M t R ht ⟨K, D', p, st, rfl, hD', rfl, hK, rfl⟩ k
    obtain ⟨hi, rfl⟩ := range_at ht
    try simp
    refine w_seq ?_
    try simp [sizeLine_eq]
    refine sp_pick hD' (by simp) (by simp) fun x D1 hx hD1 => ?_
    have : ∃ a, x = .int a ∧ Al a := by
      simp at hx
      unfold Al
      rcases hx with rfl | rfl | rfl | rfl | rfl | rfl | rfl <;> exact ⟨_, rfl, by omega⟩
    obtain ⟨a, rfl, ha⟩ := this
    try simp
    refine w_seq ?_
    try simp
    refine sp_size hD1 ha fun s D2 s1 s2 hD2 => ?_
    have hKs : ∀ k ∈ K ++ [(s, a)], GK k := by
      intro k hk
      rcases List.mem_append.mp hk with z | z
      · exact hK k z
      · rw [List.mem_singleton] at z
        subst z
        exact ⟨⟨s1, s2⟩, ha⟩
    try simp [sizeLine_eq]
    refine ⟨by omega, ?_⟩
    have e1 : List.map kd K ++ [PyData.tuple [PyData.int s, PyData.int a]] = List.map kd (K ++ [(s, a)]) := by simp [kd]
    rw [e1]
    by_cases hk0 : 0 < K.length
    · refine .inr ⟨hk0, ?_⟩
      refine sp_draw hD2 (by omega) (by omega) fun z D3 z0 z1 hD3 => ?_
      try simp
      by_cases hz : z = 0
      · refine .inr ⟨hz, ?_⟩
        have hlt : K.length - 1 < K.length := by omega
        have e2 : atI (List.map kd K ++ [kd (s, a)]) ((K.length : Int) - 1) = some (kd K[K.length - 1]) := by
          have e3 : ((K.length : Int) - 1) = ((K.length - 1 : Nat) : Int) := by omega
          rw [e3]
          refine atI_nat ?_
          rw [List.getElem?_append_left (by simpa using hlt), List.getElem?_map, List.getElem?_eq_getElem hlt]
          rfl
        refine ⟨_, e2, K.length, ?_, ?_⟩
        · unfold ixN
          rw [if_pos (by omega), if_pos (by omega)]
          simp
        · have hmem : K[K.length - 1] ∈ K := List.getElem_mem hlt
          refine k _ _ ⟨K ++ [K[K.length - 1]], D3, _, _, ?_, hD3, by simp, ?_, rfl⟩
          · simp [List.set_append]
          · intro k hk
            rcases List.mem_append.mp hk with z | z
            · exact hK k z
            · rw [List.mem_singleton] at z
              rw [z]
              exact hK _ hmem
      · exact .inl ⟨hz, k _ _ ⟨K ++ [(s, a)], D3, _, _, by simp [kd], hD3, by simp, hKs, rfl⟩⟩
    · exact .inl ⟨by simpa using hk0, k _ _ ⟨K ++ [(s, a)], D2, _, _, by simp [kd], hD2, by simp, hKs, rfl⟩⟩
  · rintro τ M ⟨K, D', p, st, rfl, hD', hl, hK, rfl⟩
    rw [range_len] at hl
    try simp
    refine q K D' ⟨?_, by omega, hK⟩ (by omega) hD'
    intro z
    subst z
    simp at hl
    omega
end Sh

set_option Elab.async false
set_option linter.all false
set_option maxRecDepth 100000
namespace Sh
open PySem PySem.Spec L2 L3

/-! ### the mathematics of rows -/
def rup (n m : Int) : Int := (n + m - 1) / m * m
theorem rup_eq {n m : Int} (h : 0 < m) : n + (0 - n) % m = rup n m := by
  unfold rup
  have h1 : (n + m - 1) / m = -((0 - n) / m) := by
    have e := Int.mul_ediv_add_emod (0 - n) m
    have a := Int.emod_nonneg (0 - n) (show m ≠ 0 by omega)
    have b := Int.emod_lt_of_pos (0 - n) h
    refine Int.le_antisymm ?_ ?_
    · have : (n + m - 1) / m < -((0 - n) / m) + 1 := by
        rw [Int.ediv_lt_iff_lt_mul h, Int.add_mul, Int.neg_mul, Int.mul_comm ((0 - n) / m) m]
        omega
      omega
    · rw [Int.le_ediv_iff_mul_le h, Int.neg_mul, Int.mul_comm ((0 - n) / m) m]
      omega
  rw [h1]
  have e := Int.mul_ediv_add_emod (0 - n) m
  rw [Int.neg_mul, Int.mul_comm ((0 - n) / m) m]
  omega
theorem rup_le {n m : Int} (h : 0 < m) : n ≤ rup n m ∧ rup n m ≤ n + m - 1 := by
  rw [← rup_eq h]
  have a := Int.emod_nonneg (0 - n) (show m ≠ 0 by omega)
  have b := Int.emod_lt_of_pos (0 - n) h
  omega
abbrev Bk6 := List (Int × Int)
def kat (K : Bk6) (i : Nat) : Int × Int := K.getD i (1, 1)
def sbeg (K : Bk6) (i : Nat) (e : Int) : Int := rup e (kat K i).2
def sfin (K : Bk6) (i : Nat) (e : Int) : Int := rup e (kat K i).2 + (kat K i).1
def spans (K : Bk6) : List Nat → Int → List (Int × Int)
  | [], _ => []
  | i :: r, e => (sbeg K i e, sfin K i e) :: spans K r (sfin K i e)
def rend (K : Bk6) : List Nat → Int → Int
  | [], e => e
  | i :: r, e => rend K r (sfin K i e)
theorem spans_snoc (K : Bk6) (i : Nat) : ∀ (r : List Nat) (e : Int), spans K (r ++ [i]) e = spans K r e ++ [(sbeg K i (rend K r e), sfin K i (rend K r e))]
  | [], e => rfl
  | j :: r, e => by
    show _ :: spans K (r ++ [i]) _ = _
    rw [spans_snoc K i r]
    rfl
theorem rend_snoc (K : Bk6) (i : Nat) : ∀ (r : List Nat) (e : Int), rend K (r ++ [i]) e = sfin K i (rend K r e)
  | [], e => rfl
  | j :: r, e => by
    show rend K (r ++ [i]) _ = _
    rw [rend_snoc K i r]
    rfl
theorem spans_len (K : Bk6) : ∀ (r : List Nat) (e : Int), (spans K r e).length = r.length
  | [], _ => rfl
  | i :: r, e => by simp [spans, spans_len K r]
def mx : List Int → Int
  | [] => 0
  | [x] => x
  | x :: y :: r => max x (mx (y :: r))
theorem mx_ge : ∀ {l : List Int} {x : Int}, x ∈ l → x ≤ mx l
  | [y], x, h => by
    rw [List.mem_singleton.mp h]
    exact Int.le_refl _
  | y :: z :: r, x, h => by
    unfold mx
    rcases List.mem_cons.mp h with q | q
    · rw [q]; omega
    · have := mx_ge q; omega
theorem mx_mem : ∀ {l : List Int}, l ≠ [] → mx l ∈ l
  | [y], _ => by simp [mx]
  | y :: z :: r, _ => by
    unfold mx
    have := mx_mem (l := z :: r) (by simp)
    rcases Int.le_total y (mx (z :: r)) with q | q
    · rw [Int.max_eq_right q]; exact List.mem_cons_of_mem _ this
    · rw [Int.max_eq_left q]; exact List.mem_cons_self
theorem mx_uniq {l : List Int} {m : Int} (h : m ∈ l) (g : ∀ y ∈ l, y ≤ m) : m = mx l := by
  have h1 := mx_ge h
  have h2 := g _ (mx_mem (l := l) (by intro z; rw [z] at h; cases h))
  omega
def als (K : Bk6) (r : List Nat) : List Int := r.map fun i => (kat K i).2
def szs (K : Bk6) (r : List Nat) : List Int := r.map fun i => (kat K i).1

/-! ### data -/
def bkD (K : Bk6) : PyData := .tuple (K.map kd)
def ix (i : Nat) : PyData := .int (i : Int)
def rowD (r : List Nat) : PyData := .tuple (r.map ix)
structure GR (K : Bk6) (r : List Nat) : Prop where
  ne : r ≠ []
  hd : r.length ≤ 100
  ok : ∀ i ∈ r, i < K.length
theorem kat_ok {K : Bk6} (g : GB K) {i : Nat} (h : i < K.length) : GK (kat K i) ∧ K[i]? = some (kat K i) := by
  unfold kat
  rw [List.getD_eq_getElem?_getD, List.getElem?_eq_getElem h]
  exact ⟨g.ok _ (List.getElem_mem h), rfl⟩
theorem at_book {K : Bk6} (g : GB K) {i : Nat} (h : i < K.length) : atI (K.map kd) (i : Int) = some (kd (kat K i)) := by
  refine atI_nat ?_
  rw [List.getElem?_map, (kat_ok g h).2]
  rfl
@[simp] theorem at_0 {x y : PyData} : atI [x, y] 0 = some x := rfl
@[simp] theorem at_1 {x y : PyData} : atI [x, y] 1 = some y := rfl
@[simp] theorem at_k0 {k : Int × Int} {M : Mem} {Q : Kt} : oIx (.d (kd k)) (.d (.int 0)) M Q = Q (.int k.1) M := by simp [kd]
@[simp] theorem at_k1 {k : Int × Int} {M : Mem} {Q : Kt} : oIx (.d (kd k)) (.d (.int 1)) M Q = Q (.int k.2) M := by simp [kd]
theorem sp_round_up {n m : Int} {D : List Cell} {Q : T → List Cell → Prop} (h1 : 0 < m) (h2 : m ≤ 64) (q : Q (.int (rup n m)) D) : d_round_up [.int n, .int m] D Q := by
  refine ⟨rfl, ?_⟩
  try simp
  exact ⟨by unfold CDv; omega, by unfold CMul; omega, q⟩
theorem sp_up {n m : Int} {D : List Cell} {Q : T → List Cell → Prop} (h1 : 0 < m) (h2 : m ≤ 64) (q : Q (.int (rup n m)) D) : d__law_up [.int n, .int m] D Q := by
  refine ⟨rfl, ?_⟩
  rw [← rup_eq h1] at q
  try simp
  exact ⟨h1, by simpa using q⟩
theorem sp_span {k : Int × Int} {e : Int} {D : List Cell} {Q : T → List Cell → Prop} (g : GK k) (q : Q (.tup [.int (rup e k.2), .int (rup e k.2 + k.1)]) D) : d_span_behind [.d (kd k), .int e] D Q := by
  have := g.2.pos
  refine ⟨rfl, w_seq ?_⟩
  simp [kd]
  refine w_seq ?_
  try simp
  refine sp_round_up (by omega) (by omega) ?_
  simp [sizeLine_eq]
  exact q
theorem row_at {r : List Nat} {i : Nat} {t : T} (h : ((r.map ix).map T.d)[i]? = some t) : ∃ j, r[i]? = some j ∧ t = .int (j : Int) ∧ i < r.length := by
  rw [List.getElem?_map, List.getElem?_map] at h
  cases q : r[i]? with
  | none => rw [q] at h; cases h
  | some j =>
    rw [q] at h
    cases h
    refine ⟨j, rfl, rfl, ?_⟩
    rcases Nat.lt_or_ge i r.length with z | z
    · exact z
    · rw [List.getElem?_eq_none z] at q; cases q
theorem take_snoc {α : Type} {r : List α} {i : Nat} {j : α} (h : r[i]? = some j) : r.take (i + 1) = r.take i ++ [j] := by
  rw [List.take_add_one, h]
  rfl
theorem sp_row_end {K : Bk6} {r : List Nat} {e : Int} {D : List Cell} {Q : T → List Cell → Prop} (g : GB K) (gr : GR K r) (q : Q (.int (rend K r e)) D) : d_row_end [.d (bkD K), .d (rowD r), .int e] D Q := by
  refine ⟨rfl, w_seq (w_for ?_)⟩
  simp [rowD]
  refine for_all (fun i τ M => M = ⟨D, []⟩ ∧ ∃ p w, τ = [some (.d (bkD K)), some (.tup (r.map ix)), some (.int (rend K (r.take i) e)), p, w]) ⟨rfl, _, _, rfl⟩ ?_ ?_
  · rintro i τ M t R ht ⟨rfl, p, w, rfl⟩ k
    rw [← List.map_map] at ht
    obtain ⟨j, hj, rfl, hi⟩ := row_at ht
    have jl := gr.ok j (List.mem_of_getElem? hj)
    simp [bkD]
    refine ⟨_, at_book g jl, ?_⟩
    try simp
    refine sp_span (kat_ok g jl).1 ?_
    try simp
    rw [take_snoc hj, rend_snoc] at k
    exact k _ _ ⟨rfl, _, _, rfl⟩
  · rintro τ M ⟨rfl, p, w, rfl⟩
    have : (List.map (T.d ∘ ix) r).length = r.length := by simp
    simp [this]
    exact q
theorem wipe3 {a b c : Option T} : wipeT [a, b, c] [2] = [a, b, none] := rfl
theorem sz_row {K : Bk6} {r : List Nat} (gr : GR K r) : r.length ≤ sizeLine := sz64' (by have := gr.hd; omega)
theorem mapT (r : List Nat) : List.map (T.d ∘ ix) r = r.map fun (i : Nat) => T.int (i : Int) := rfl
/-- [book[place][1] for place in row], [book[place][0] ..] -/
theorem lc_al {K : Bk6} {r : List Nat} {M : Mem} {F : List PyData → Mem → Prop} (g : GB K) (gr : GR K r) {a : Option T} (q : F ((als K r).map .int) M) :
    goLc (gN 2) bYes (mOp oIx (mOp oIx (mVar 0) (mVar 2)) (mC (.int 1))) [some (.d (bkD K)), a, none] F (r.map fun (i : Nat) => T.int (i : Int)) [] M := by
  refine lc_pure (fun i => .int (kat K i).2) (sz_row gr) (fun i acc R hi ha hr => ?_) ?_
  · simp [bkD]
    refine ⟨_, at_book g (gr.ok i hi), ?_⟩
    try simp
    exact ⟨ha, hr⟩
  · unfold als at q
    rw [List.map_map] at q
    exact q
theorem lc_sz {K : Bk6} {r : List Nat} {M : Mem} {F : List PyData → Mem → Prop} (g : GB K) (gr : GR K r) {a : Option T} (q : F ((szs K r).map .int) M) :
    goLc (gN 2) bYes (mOp oIx (mOp oIx (mVar 0) (mVar 2)) (mC (.int 0))) [some (.d (bkD K)), a, none] F (r.map fun (i : Nat) => T.int (i : Int)) [] M := by
  refine lc_pure (fun i => .int (kat K i).1) (sz_row gr) (fun i acc R hi ha hr => ?_) ?_
  · simp [bkD]
    refine ⟨_, at_book g (gr.ok i hi), ?_⟩
    try simp
    exact ⟨ha, hr⟩
  · unfold szs at q
    rw [List.map_map] at q
    exact q
theorem f_max {ns : List Int} {M : Mem} {Q : Kt} (h : ns ≠ []) (q : Q (.int (mx ns)) M) : fMax [.lst (ns.map .int)] M Q := by
  have e : nowI (.lst (ns.map .int)) M = some ns := by
    show intsOf (ns.map .int) = some ns
    exact intsOf_map ns
  show (match nowI (.lst (ns.map .int)) M with
    | some ns => 0 < ns.length ∧ ∀ m, m ∈ ns → (∀ y, y ∈ ns → y ≤ m) → Q (.int m) M
    | none => False)
  rw [e]
  exact ⟨List.length_pos_iff.mpr h, fun m h1 h2 => by rw [mx_uniq h1 h2]; exact q⟩
theorem f_sum {ns : List Int} {M : Mem} {Q : Kt} (q : Q (.int ns.sum) M) : fSum [.lst (ns.map .int)] M Q := by
  have e : nowI (.lst (ns.map .int)) M = some ns := by
    show intsOf (ns.map .int) = some ns
    exact intsOf_map ns
  show (match nowI (.lst (ns.map .int)) M with
    | some ns => Q (.int ns.sum) M
    | none => False)
  rw [e]
  exact q
theorem als_ne {K : Bk6} {r : List Nat} (gr : GR K r) : als K r ≠ [] := by
  unfold als
  intro z
  exact gr.ne (List.map_eq_nil_iff.mp z)
theorem als_al {K : Bk6} {r : List Nat} (g : GB K) (gr : GR K r) : Al (mx (als K r)) := by
  have h := mx_mem (als_ne gr)
  unfold als at h ⊢
  obtain ⟨i, h1, h2⟩ := List.mem_map.mp h
  rw [← h2]
  exact (kat_ok g (gr.ok i h1)).1.2
theorem sp_gal {K : Bk6} {r : List Nat} {D : List Cell} {Q : T → List Cell → Prop} (g : GB K) (gr : GR K r) (q : Q (.int (mx (als K r))) D) : d_greatest_alignment [.d (bkD K), .d (rowD r)] D Q := by
  refine ⟨rfl, ?_⟩
  simp only [x_ret, x_call, x_acons, x_anil, x_lc, x_iseq, x_var]
  simp [rowD, wipeT, mapT]
  exact lc_al g gr (f_max (als_ne gr) ⟨rfl, q⟩)
theorem sp_step {K : Bk6} {r : List Nat} {D : List Cell} {Q : T → List Cell → Prop} (g : GB K) (gr : GR K r) (q : Q (.int (mx (als K r))) D) : d__law_step [.d (bkD K), .d (rowD r)] D Q := by
  refine ⟨rfl, ?_⟩
  simp only [x_ret, x_call, x_acons, x_anil, x_lc, x_iseq, x_var]
  simp [rowD, wipeT, mapT]
  exact lc_al g gr (f_max (als_ne gr) ⟨rfl, q⟩)
def whole (K : Bk6) (r : List Nat) : Int := rup (rend K r 0) (mx (als K r))
theorem sp_row_whole {K : Bk6} {r : List Nat} {D : List Cell} {Q : T → List Cell → Prop} (g : GB K) (gr : GR K r) (q : Q (.int (whole K r)) D) : d_row_whole [.d (bkD K), .d (rowD r)] D Q := by
  have := (als_al g gr).pos
  refine ⟨rfl, ?_⟩
  simp
  refine sp_row_end g gr ?_
  simp
  refine sp_gal g gr ?_
  simp
  exact sp_round_up (by omega) (by omega) ⟨rfl, q⟩
theorem sp_row_padding {K : Bk6} {r : List Nat} {D : List Cell} {Q : T → List Cell → Prop} (g : GB K) (gr : GR K r) (q : Q (.int (whole K r - (szs K r).sum)) D) : d_row_padding [.d (bkD K), .d (rowD r)] D Q := by
  refine ⟨rfl, ?_⟩
  simp
  refine sp_row_whole g gr ?_
  simp only [x_lc, x_iseq, x_var]
  simp [rowD, wipeT, mapT]
  refine lc_sz g gr (f_sum ?_)
  simp
  exact q
def sd (p : Int × Int) : PyData := .tuple [.int p.1, .int p.2]
theorem sp_laid {K : Bk6} {r : List Nat} {D : List Cell} {Q : T → List Cell → Prop} (g : GB K) (gr : GR K r) (q : Q (.tup ((spans K r 0).map sd)) D) : d_laid [.d (bkD K), .d (rowD r)] D Q := by
  refine ⟨rfl, w_seq ?_⟩
  simp
  refine w_seq ?_
  simp
  refine w_seq (w_for ?_)
  simp [rowD]
  refine for_all (fun i τ M => M = ⟨D, [some ((spans K (r.take i) 0).map sd)]⟩ ∧ ∃ p w, τ = [some (.d (bkD K)), some (.tup (r.map ix)), some (.lr 0), some (.int (rend K (r.take i) 0)), p, w]) ⟨rfl, _, _, rfl⟩ ?_ ?_
  · rintro i τ M t R ht ⟨rfl, p, w, rfl⟩ k
    rw [← List.map_map] at ht
    obtain ⟨j, hj, rfl, hi⟩ := row_at ht
    have jl := gr.ok j (List.mem_of_getElem? hj)
    have hr := gr.hd
    refine w_seq ?_
    simp [bkD]
    refine ⟨_, at_book g jl, ?_⟩
    try simp
    refine sp_span (kat_ok g jl).1 ?_
    simp [sizeLine_eq, spans_len]
    refine ⟨by omega, ?_⟩
    rw [take_snoc hj, rend_snoc, spans_snoc] at k
    exact k _ _ ⟨by simp [sd, sbeg, sfin], _, _, rfl⟩
  · rintro τ M ⟨rfl, p, w, rfl⟩
    have : (List.map (T.d ∘ ix) r).length = r.length := by simp
    simp [this]
    exact q
theorem atI_end {α : Type} (l : List α) (x : α) : atI (l ++ [x]) (-1) = some x := atI_last l x
theorem sp_ends {K : Bk6} {r : List Nat} {e : Int} {D : List Cell} {Q : T → List Cell → Prop} (g : GB K) (gr : GR K r) (q : Q (.lst ((spans K r e).map sd)) D) : d__law_ends [.d (bkD K), .d (rowD r), .int e] D Q := by
  refine ⟨rfl, w_seq ?_⟩
  simp
  refine w_seq (w_for ?_)
  simp [rowD]
  refine for_all (fun i τ M => M = ⟨D, [some ((spans K (r.take i) e).map sd)]⟩ ∧ ∃ p, τ = [some (.d (bkD K)), some (.tup (r.map ix)), some (.int e), some (.lr 0), some (.int (rend K (r.take i) e)), p]) ⟨rfl, _, rfl⟩ ?_ ?_
  · rintro i τ M t R ht ⟨rfl, p, rfl⟩ k
    rw [← List.map_map] at ht
    obtain ⟨j, hj, rfl, hi⟩ := row_at ht
    have jl := gr.ok j (List.mem_of_getElem? hj)
    have hk := (kat_ok g jl).1.2.pos
    have hr := gr.hd
    have ab := at_book g jl
    refine w_seq ?_
    simp [bkD, ab]
    refine sp_up (by omega) (by omega) ?_
    try simp
    refine w_seq ?_
    simp [sizeLine_eq, spans_len, ab]
    refine ⟨by omega, ?_⟩
    rw [take_snoc hj, rend_snoc, spans_snoc] at k
    simp [atI_end]
    exact k _ _ ⟨by simp [sd, sbeg, sfin], _, rfl⟩
  · rintro τ M ⟨rfl, p, rfl⟩
    have : (List.map (T.d ∘ ix) r).length = r.length := by simp
    simp [this]
    exact q
end Sh

set_option Elab.async false
set_option linter.all false
set_option maxRecDepth 100000
namespace Sh
open PySem PySem.Spec L2 L3

/-! ### data that repr shows -/
structure Sw (w k : Nat) (d : PyData) : Prop where
  sh : d.showable = true
  nd : d.hasDict = false
  ls : d.leavesShort 62 = true
  wt : d.weight ≤ w
  dp : d.depth ≤ k
structure SwA (w k : Nat) (d : List PyData) : Prop where
  sh : PyData.showableAll d = true
  nd : PyData.hasDictAll d = false
  ls : PyData.leavesShortAll 62 d = true
  wt : PyData.weightAll d ≤ w
  dp : PyData.depthAll d ≤ k
theorem Sw.mono {w k w' k' : Nat} {d : PyData} (h : Sw w k d) (hw : w ≤ w') (hk : k ≤ k') : Sw w' k' d := ⟨h.sh, h.nd, h.ls, Nat.le_trans h.wt hw, Nat.le_trans h.dp hk⟩
theorem SwA.mono {w k w' k' : Nat} {d : List PyData} (h : SwA w k d) (hw : w ≤ w') (hk : k ≤ k') : SwA w' k' d := ⟨h.sh, h.nd, h.ls, Nat.le_trans h.wt hw, Nat.le_trans h.dp hk⟩
theorem sw_int {i : Int} (h : i.natAbs < 10 ^ 60) : Sw 200 0 (.int i) := by
  have h1 : i.natAbs < 2 ^ 200 := Nat.lt_trans h (by decide)
  have h2 : i.natAbs.log2 < 200 := by
    by_cases z : i.natAbs = 0
    · rw [z]; decide
    · exact (Nat.log2_lt z).mpr h1
  refine ⟨?_, by simp [PyData.hasDict], ?_, ?_, by simp [PyData.depth]⟩
  · simp only [PyData.showable]
    exact decide_eq_true (by omega)
  · have e := int_text_length_le10 (k := 60) (by decide) h
    simp only [PyData.leavesShort]
    refine decide_eq_true ?_
    show (Str.ofString (toString i)).length ≤ 62
    rw [ofString_length]
    omega
  · simp only [PyData.weight]
    split <;> omega
theorem sw_nil : SwA 0 0 [] := ⟨by simp [PyData.showableAll], by simp [PyData.hasDictAll], by simp [PyData.leavesShortAll], by simp [PyData.weightAll], by simp [PyData.depthAll]⟩
theorem sw_cons {w w' k : Nat} {x : PyData} {l : List PyData} (h : Sw w k x) (g : SwA w' k l) : SwA (w + 1 + w') k (x :: l) := by
  refine ⟨by simp [PyData.showableAll, h.sh, g.sh], by simp [PyData.hasDictAll, h.nd, g.nd], by simp [PyData.leavesShortAll, h.ls, g.ls], ?_, ?_⟩
  · have := h.wt
    have := g.wt
    simp only [PyData.weightAll]
    omega
  · have := h.dp
    have := g.dp
    simp only [PyData.depthAll]
    omega
theorem sw_one {w k : Nat} {x : PyData} (h : Sw w k x) : SwA (w + 1) k [x] := (sw_cons h (sw_nil.mono (Nat.le_refl _) (Nat.zero_le _))).mono (by omega) (Nat.le_refl _)
theorem sw_all {w k : Nat} : ∀ {l : List PyData}, (∀ x ∈ l, Sw w k x) → SwA (l.length * (w + 1)) k l
  | [], _ => sw_nil.mono (by omega) (Nat.zero_le _)
  | x :: l, h => (sw_cons (h x List.mem_cons_self) (sw_all fun y hy => h y (List.mem_cons_of_mem _ hy))).mono (by rw [List.length_cons, Nat.succ_mul]; omega) (Nat.le_refl _)
theorem sw_map {α : Type} {w k : Nat} {l : List α} {f : α → PyData} (h : ∀ x ∈ l, Sw w k (f x)) : SwA (l.length * (w + 1)) k (l.map f) := by
  have := sw_all (w := w) (k := k) (l := l.map f) fun y hy => by
    obtain ⟨x, hx, rfl⟩ := List.mem_map.mp hy
    exact h x hx
  rw [List.length_map] at this
  exact this
theorem sw_list {w k : Nat} {l : List PyData} (h : SwA w k l) : Sw w (k + 1) (.list l) :=
  ⟨by simp [PyData.showable, h.sh], by simp [PyData.hasDict, h.nd], by simp [PyData.leavesShort, h.ls], by simp only [PyData.weight]; exact h.wt, by simp only [PyData.depth]; have := h.dp; omega⟩
theorem sw_tup {w k : Nat} {l : List PyData} (h : SwA w k l) : Sw w (k + 1) (.tuple l) :=
  ⟨by simp [PyData.showable, h.sh], by simp [PyData.hasDict, h.nd], by simp [PyData.leavesShort, h.ls], by simp only [PyData.weight]; exact h.wt, by simp only [PyData.depth]; have := h.dp; omega⟩
theorem Sw.ok {w k : Nat} {d : PyData} (h : Sw w k d) (hw : w ≤ 200000) (hk : k ≤ 100) : OkShow d := by
  refine ⟨h.sh, h.nd, Nat.le_trans h.dp hk, ?_⟩
  have := PyData.shown_le 62 (by omega) d h.ls
  have := h.wt
  rw [sizeLine_eq]
  have : (62 + 2) * d.weight ≤ 64 * 200000 := Nat.mul_le_mul (by omega) (by omega)
  omega
/-! ### of books and rows -/
theorem sw_kd {k : Int × Int} (g : GK k) : Sw 402 1 (kd k) := by
  have h1 := g.1
  have h2 := g.2.pos
  exact (sw_tup (sw_cons (sw_int (i := k.1) (by omega)) (sw_one (sw_int (i := k.2) (by omega))))).mono (by omega) (by omega)
theorem sw_bk {K : Bk6} (g : GB K) : Sw 2418 2 (bkD K) :=
  (sw_tup (sw_map fun k hk => sw_kd (g.ok k hk))).mono (by have := g.six; omega) (by omega)
theorem sw_row {K : Bk6} {r : List Nat} (g : GB K) (gr : GR K r) : Sw 20100 1 (rowD r) :=
  (sw_tup (sw_map (l := r) (f := ix) fun i hi => sw_int (i := (i : Int)) (by have := gr.ok i hi; have := g.six; omega))).mono (by have := gr.hd; omega) (by omega)
theorem rend_le {K : Bk6} (g : GB K) : ∀ {r : List Nat} {e : Int}, (∀ i ∈ r, i < K.length) → 0 ≤ e → e ≤ rend K r e ∧ rend K r e ≤ e + r.length * 1000000000000000000000000000064
  | [], e, _, h0 => by simp [rend]
  | i :: r, e, h, h0 => by
    have hk := (kat_ok g (h i List.mem_cons_self)).1
    have hp := hk.2.pos
    have h1 := hk.1
    have h2 := rup_le (n := e) (m := (kat K i).2) (by omega)
    have ih := rend_le g (r := r) (e := sfin K i e) (fun j hj => h j (List.mem_cons_of_mem _ hj)) (by unfold sfin; omega)
    unfold sfin at ih
    show e ≤ rend K r (sfin K i e) ∧ rend K r (sfin K i e) ≤ _
    unfold sfin
    rw [List.length_cons]
    omega
theorem spans_le {K : Bk6} (g : GB K) : ∀ {r : List Nat} {e : Int}, (∀ i ∈ r, i < K.length) → 0 ≤ e → ∀ p ∈ spans K r e, (0 ≤ p.1 ∧ p.1 ≤ e + r.length * 1000000000000000000000000000064) ∧ 0 ≤ p.2 ∧ p.2 ≤ e + r.length * 1000000000000000000000000000064
  | [], e, _, h0, p, hp => by cases hp
  | i :: r, e, h, h0, p, hp => by
    have hk := (kat_ok g (h i List.mem_cons_self)).1
    have hq := hk.2.pos
    have h1 := hk.1
    have h2 := rup_le (n := e) (m := (kat K i).2) (by omega)
    rw [List.length_cons]
    rcases List.mem_cons.mp hp with z | z
    · subst z
      unfold sbeg sfin
      refine ⟨⟨?_, ?_⟩, ?_, ?_⟩ <;> simp only [] <;> omega
    · have ih := spans_le g (r := r) (e := sfin K i e) (fun j hj => h j (List.mem_cons_of_mem _ hj)) (by unfold sfin; omega) p z
      unfold sfin at ih
      omega
theorem sw_spans {K : Bk6} {r : List Nat} (g : GB K) (gr : GR K r) : SwA 40300 1 ((spans K r 0).map sd) := by
  refine (sw_map fun p hp => ?_).mono (w := (spans K r 0).length * (402 + 1)) (by rw [spans_len]; have := gr.hd; omega) (Nat.le_refl 1)
  have h := spans_le g gr.ok (Int.le_refl 0) p hp
  have hr := gr.hd
  refine (sw_tup (sw_cons (sw_int (i := p.1) ?_) (sw_one (sw_int (i := p.2) ?_)))).mono (by omega) (by omega)
  · omega
  · omega
theorem whole_le {K : Bk6} {r : List Nat} (g : GB K) (gr : GR K r) : 0 ≤ whole K r ∧ whole K r ≤ 100000000000000000000000000006500 := by
  have h := rend_le g gr.ok (Int.le_refl 0)
  have ha := (als_al g gr).pos
  have h2 := rup_le (n := rend K r 0) (m := mx (als K r)) (by omega)
  have hr := gr.hd
  unfold whole
  omega
theorem szs_le {K : Bk6} (g : GB K) : ∀ {r : List Nat}, (∀ i ∈ r, i < K.length) → 0 ≤ (szs K r).sum ∧ (szs K r).sum ≤ r.length * 1000000000000000000000000000000
  | [], _ => by simp [szs]
  | i :: r, h => by
    have hk := (kat_ok g (h i List.mem_cons_self)).1.1
    have ih := szs_le g (r := r) fun j hj => h j (List.mem_cons_of_mem _ hj)
    unfold szs at ih ⊢
    rw [List.map_cons, List.sum_cons, List.length_cons]
    omega
theorem sp_row {K : Bk6} {many : Int} {D : List Cell} {Q : T → List Cell → Prop} (hD : RI D) (g : GB K) (h1 : 1 ≤ many) (h2 : many ≤ 100) (q : ∀ r D', GR K r → (r.length : Int) = many → RI D' → Q (.d (rowD r)) D') : d__law_row [.mr 1, .d (bkD K), .int many] D Q := by
  have hK : 1 ≤ K.length := List.length_pos_iff.mpr g.ne
  have h6 := g.six
  have dl : ∀ {D1 : List Cell} {R : T → List Cell → Prop}, RI D1 → (∀ (j : Nat) D', j < K.length → RI D' → R (.int (j : Int)) D') → d__law_draw [.mr 1, .int (K.length : Int)] D1 R := fun {D1 R} h k => sp_draw h (by omega) (by omega) fun n D' n0 n1 hD' => by
    obtain ⟨j, rfl⟩ : ∃ j : Nat, n = j := ⟨n.toNat, by omega⟩
    exact k j D' (by omega) hD'
  refine ⟨rfl, w_seq ?_⟩
  try simp
  refine sp_draw hD (by omega) (by omega) fun lot D1 l0 l1 hD1 => ?_
  try simp
  refine w_seq ?_
  simp [bkD]
  refine dl hD1 fun j D2 hj hD2 => ?_
  try simp
  refine w_seq (w_for ?_)
  try simp
  refine ⟨by omega, ?_⟩
  refine for_all (fun i τ M => ∃ (r : List Nat) (D' : List Cell) (p : Option T) (j : Nat), M = ⟨D', [some (r.map ix)]⟩ ∧ RI D' ∧ r.length = i ∧ j < K.length ∧ (∀ i ∈ r, i < K.length) ∧ τ = [some (.mr 1), some (.d (bkD K)), some (.int many), some (.int lot), some (.lr 0), some (.int (j : Int)), p]) ⟨[], D2, none, j, rfl, hD2, rfl, hj, by simp, rfl⟩ ?_ ?_
  · rintro i τ M t R ht ⟨r, D', p, j, rfl, hD', rfl, hj, hr, rfl⟩ k
    obtain ⟨hi, rfl⟩ := range_at ht
    have app : ∀ (j : Nat) D' , RI D' → j < K.length → r.length < sizeLine ∧ R [some (.mr 1), some (.d (bkD K)), some (.int many), some (.int lot), some (.lr 0), some (.int (j : Int)), some (.int (r.length : Int))] ⟨D', [some (r.map ix ++ [.int (j : Int)])]⟩ := by
      intro j D' hD' hj
      refine ⟨sz64 (by omega), k _ _ ⟨r ++ [j], D', _, j, ?_, hD', by simp, hj, ?_, rfl⟩⟩
      · simp [ix]
      · intro i hi
        rcases List.mem_append.mp hi with z | z
        · exact hr i z
        · rw [List.mem_singleton.mp z]
          exact hj
    refine w_seq (w_if ?_)
    try simp
    by_cases hl : lot = 0
    · refine .inr ⟨hl, ?_⟩
      simp [bkD]
      refine dl hD' fun j2 D3 hj2 hD3 => ?_
      try simp
      exact app j2 D3 hD3 hj2
    · refine .inl ⟨hl, ?_⟩
      refine sp_draw hD' (by omega) (by omega) fun z D3 z0 z1 hD3 => ?_
      try simp
      by_cases hz : z = 0
      · refine .inr ⟨hz, ?_⟩
        simp [bkD]
        refine dl hD3 fun j2 D4 hj2 hD4 => ?_
        try simp
        exact app j2 D4 hD4 hj2
      · exact .inl ⟨hz, app j D3 hD3 hj⟩
  · rintro τ M ⟨r, D', p, j, rfl, hD', hl, hj, hr, rfl⟩
    rw [range_len] at hl
    try simp
    refine q r D' ⟨?_, by omega, hr⟩ (by omega) hD'
    intro z
    subst z
    simp at hl
    omega
end Sh

set_option Elab.async false
set_option linter.all false
set_option maxRecDepth 100000
namespace Sh
open PySem PySem.Spec L2 L3

/-! ### more is never less -/
theorem rup_mono {a b m : Int} (h : 0 < m) (q : a ≤ b) : rup a m ≤ rup b m :=
  Int.mul_le_mul_of_nonneg_right (Int.ediv_le_ediv h (by omega)) (by omega)
theorem rup_dvd {n m : Int} : m ∣ rup n m := ⟨(n + m - 1) / m, Int.mul_comm _ _⟩
theorem rup_mod {n m : Int} : rup n m % m = 0 := Int.emod_eq_zero_of_dvd rup_dvd
theorem rup_fix {x m : Int} (h : 0 < m) (d : m ∣ x) : rup x m = x := by
  obtain ⟨c, rfl⟩ := d
  unfold rup
  have e : m * c + m - 1 = m - 1 + m * c := by omega
  rw [e, Int.add_mul_ediv_left _ _ (by omega), Int.ediv_eq_zero_of_lt (by omega) (by omega), Int.zero_add, Int.mul_comm]
theorem rup_least {n m x : Int} (h : 0 < m) (q : n ≤ x) (d : m ∣ x) : rup n m ≤ x := by
  have := rup_mono h q
  rw [rup_fix h d] at this
  exact this
theorem rup_dv {n m k : Int} (h : 0 < m) (h' : 0 < k) (d : m ∣ k) : rup n m ≤ rup n k := rup_least h (rup_le h').1 (Int.dvd_trans d rup_dvd)
theorem Al.dvd {a b : Int} (h : Al a) (g : Al b) (q : a ≤ b) : a ∣ b := by
  unfold Al at h g
  rcases h with rfl | rfl | rfl | rfl | rfl | rfl | rfl <;> rcases g with rfl | rfl | rfl | rfl | rfl | rfl | rfl <;> first | omega | decide
theorem rup_al {n m k a b : Int} (h : Al a) (g : Al b) (q : a ≤ b) (z : m ≤ k) : rup m a ≤ rup k b := by
  have := h.pos
  have := g.pos
  exact Int.le_trans (rup_mono (by omega) z) (rup_dv (by omega) (by omega) (h.dvd g q))
theorem kat_al {K : Bk6} (g : GB K) (i : Nat) : Al (kat K i).2 ∧ 1 ≤ (kat K i).1 := by
  rcases Nat.lt_or_ge i K.length with h | h
  · exact ⟨(kat_ok g h).1.2, (kat_ok g h).1.1.1⟩
  · unfold kat
    rw [List.getD_eq_getElem?_getD, List.getElem?_eq_none h]
    exact ⟨.inl rfl, Int.le_refl _⟩
theorem sfin_mono {K : Bk6} (g : GB K) (i : Nat) {e k : Int} (h : e ≤ k) : sfin K i e ≤ sfin K i k := by
  have := (kat_al g i).1.pos
  have := rup_mono (m := (kat K i).2) (by omega) h
  unfold sfin
  omega
theorem sfin_ge {K : Bk6} (g : GB K) (i : Nat) (e : Int) : e + (kat K i).1 ≤ sfin K i e := by
  have := (kat_al g i).1.pos
  have := (rup_le (n := e) (m := (kat K i).2) (by omega)).1
  unfold sfin
  omega
theorem rend_mono {K : Bk6} (g : GB K) : ∀ (r : List Nat) {e k : Int}, e ≤ k → rend K r e ≤ rend K r k
  | [], _, _, h => h
  | i :: r, _, _, h => rend_mono g r (sfin_mono g i h)
theorem rend_app (K : Bk6) : ∀ (s t : List Nat) (e : Int), rend K (s ++ t) e = rend K t (rend K s e)
  | [], _, _ => rfl
  | i :: s, t, e => rend_app K s t (sfin K i e)
theorem rend_ins {K : Bk6} (g : GB K) (s t : List Nat) (j : Nat) (e : Int) : rend K (s ++ t) e ≤ rend K (s ++ j :: t) e := by
  rw [rend_app, rend_app]
  refine rend_mono g t ?_
  have := sfin_ge g j (rend K s e)
  have := (kat_al g j).2
  omega
theorem rend_sum {K : Bk6} (g : GB K) : ∀ (r : List Nat) (e : Int), e + (szs K r).sum ≤ rend K r e
  | [], e => by simp [szs, rend]
  | i :: r, e => by
    have h := rend_sum g r (sfin K i e)
    have h2 := sfin_ge g i e
    unfold szs at h ⊢
    rw [List.map_cons, List.sum_cons]
    show _ ≤ rend K r (sfin K i e)
    omega
def KLe (K L : Bk6) : Prop := ∀ i, (kat K i).1 ≤ (kat L i).1 ∧ (kat K i).2 ≤ (kat L i).2
theorem rend_book {K L : Bk6} (g : GB K) (g' : GB L) (h : KLe K L) : ∀ (r : List Nat) {e k : Int}, e ≤ k → rend K r e ≤ rend L r k
  | [], _, _, q => q
  | i :: r, e, k, q => by
    refine rend_book g g' h r ?_
    have := rup_al (n := 0) (kat_al g i).1 (kat_al g' i).1 (h i).2 q
    have := (h i).1
    unfold sfin
    omega
theorem mx_le {l k : List Int} (hl : l ≠ []) (h : ∀ x ∈ l, ∃ y ∈ k, x ≤ y) : mx l ≤ mx k := by
  obtain ⟨y, hy, q⟩ := h _ (mx_mem hl)
  have := mx_ge hy
  omega
theorem whole_ins {K : Bk6} {s t : List Nat} {j : Nat} (g : GB K) (g1 : GR K (s ++ t)) (g2 : GR K (s ++ j :: t)) : whole K (s ++ t) ≤ whole K (s ++ j :: t) := by
  refine rup_al (n := 0) (als_al g g1) (als_al g g2) (mx_le (als_ne g1) fun x hx => ⟨x, ?_, Int.le_refl _⟩) (rend_ins g s t j 0)
  unfold als at hx ⊢
  obtain ⟨i, hi, rfl⟩ := List.mem_map.mp hx
  refine List.mem_map_of_mem ?_
  rcases List.mem_append.mp hi with z | z
  · exact List.mem_append_left _ z
  · exact List.mem_append_right _ (List.mem_cons_of_mem _ z)
theorem whole_book {K L : Bk6} {r : List Nat} (g : GB K) (g' : GB L) (h : KLe K L) (g1 : GR K r) (g2 : GR L r) : whole K r ≤ whole L r := by
  refine rup_al (n := 0) (als_al g g1) (als_al g' g2) (mx_le (als_ne g1) fun x hx => ?_) (rend_book g g' h r (Int.le_refl 0))
  unfold als at hx ⊢
  obtain ⟨i, hi, rfl⟩ := List.mem_map.mp hx
  exact ⟨_, List.mem_map_of_mem hi, (h i).2⟩
theorem whole_sum {K : Bk6} {r : List Nat} (g : GB K) (gr : GR K r) : (szs K r).sum ≤ whole K r := by
  have := (als_al g gr).pos
  have := (rup_le (n := rend K r 0) (m := mx (als K r)) (by omega)).1
  have := rend_sum g r 0
  unfold whole
  omega
theorem whole_mod {K : Bk6} {r : List Nat} : whole K r % mx (als K r) = 0 := rup_mod

/-! ### parts of tuples -/
theorem cut_to {α : Type} {l : List α} {p : Nat} (h : p ≤ l.length) : cutT l none (some (p : Int)) = l.take p := by
  unfold cutT
  have h1 : HT.sIx l.length 0 none = 0 := rfl
  have h2 : HT.sIx l.length l.length (some (p : Int)) = p := by
    show (if (p : Int) < 0 then ((p : Int) + (l.length : Int)).toNat else min (p : Int).toNat l.length) = p
    rw [if_neg (by omega)]
    omega
  rw [h1, h2]
  simp
theorem cut_from {α : Type} {l : List α} {p : Nat} (h : p ≤ l.length) : cutT l (some (p : Int)) none = l.drop p := by
  unfold cutT
  have h1 : HT.sIx l.length 0 (some (p : Int)) = p := by
    show (if (p : Int) < 0 then ((p : Int) + (l.length : Int)).toNat else min (p : Int).toNat l.length) = p
    rw [if_neg (by omega)]
    omega
  have h2 : HT.sIx l.length l.length none = l.length := rfl
  rw [h1, h2, ← List.length_drop, List.take_length]
theorem sp_pickT {D : List Cell} {xs : List PyData} {Q : T → List Cell → Prop} (hD : RI D) (h1 : xs ≠ []) (h2 : xs.length < 100000) (q : ∀ x D', x ∈ xs → RI D' → Q (.d x) D') : d__law_pick [.mr 1, .tup xs] D Q := by
  have hl : 0 < xs.length := List.length_pos_iff.mpr h1
  refine ⟨rfl, ?_⟩
  try simp
  refine sp_draw hD (by omega) (by omega) fun n D' n0 n1 hD' => ?_
  obtain ⟨k, rfl⟩ : ∃ k : Nat, n = k := ⟨n.toNat, by omega⟩
  have hk : k < xs.length := by omega
  try simp
  exact ⟨_, atI_nat (List.getElem?_eq_getElem hk), q _ _ (List.getElem_mem hk) hD'⟩
theorem kat_set {K : Bk6} {p i : Nat} {x : Int × Int} (h : p < K.length) : kat (K.set p x) i = if i = p then x else kat K i := by
  unfold kat
  rw [List.getD_eq_getElem?_getD, List.getD_eq_getElem?_getD, List.getElem?_set]
  by_cases q : p = i
  · subst q
    simp [h]
  · rw [if_neg q, if_neg (fun z => q z.symm)]
theorem set_parts {α : Type} {l : List α} {p : Nat} {x : α} (h : p < l.length) : l.take p ++ [x] ++ l.drop (p + 1) = l.set p x := by
  rw [List.set_eq_take_append_cons_drop, if_pos h, List.append_assoc]
  rfl
end Sh

set_option Elab.async false
set_option linter.all false
set_option maxRecDepth 100000
namespace Sh
open PySem PySem.Spec L2 L3

/-! ### rooms of records -/
def rm (K : Bk6) (i : Nat) : Int := rup (kat K i).1 (kat K i).2
def num (N : List Int) (i : Nat) : Int := N.getD i 0
def tot (K : Bk6) (N : List Int) : Int := ((List.range K.length).map fun i => num N i * rm K i).sum
def thr (K : Bk6) (N : List Int) : List Nat := (List.range K.length).filter fun i => decide (0 < num N i)
def due (K : Bk6) (N : List Int) : Int := rup (tot K N) (mx (als K (thr K N)))
def recD (N : List Int) : PyData := .tuple (N.map .int)
structure GN (K : Bk6) (N : List Int) : Prop where
  len : N.length = K.length
  ok : ∀ n ∈ N, 0 ≤ n ∧ n ≤ 1000000000000000000000000000000
  pos : ∃ n ∈ N, 0 < n
theorem num_ok {K : Bk6} {N : List Int} (g : GN K N) (i : Nat) : 0 ≤ num N i ∧ num N i ≤ 1000000000000000000000000000000 := by
  unfold num
  rw [List.getD_eq_getElem?_getD]
  rcases Nat.lt_or_ge i N.length with h | h
  · rw [List.getElem?_eq_getElem h]
    exact g.ok _ (List.getElem_mem h)
  · rw [List.getElem?_eq_none h]
    simp
theorem num_at {N : List Int} {i : Nat} (h : i < N.length) : num N i = N[i] := by
  unfold num
  rw [List.getD_eq_getElem?_getD, List.getElem?_eq_getElem h]
  rfl
theorem GN.gr {K : Bk6} {N : List Int} (g : GN K N) (gb : GB K) : GR K (thr K N) := by
  refine ⟨?_, ?_, fun i hi => ?_⟩
  · obtain ⟨n, hn, h0⟩ := g.pos
    obtain ⟨i, hi, e⟩ := List.getElem_of_mem hn
    intro z
    have h1 := List.filter_eq_nil_iff.mp z i (List.mem_range.mpr (by rw [← g.len]; exact hi))
    rw [num_at hi, e] at h1
    exact h1 (decide_eq_true h0)
  · have h1 := List.length_filter_le (fun i => decide (0 < num N i)) (List.range K.length)
    rw [List.length_range] at h1
    have := gb.six
    unfold thr
    omega
  · exact List.mem_range.mp (List.mem_filter.mp hi).1
theorem rm_ok {K : Bk6} (g : GB K) {i : Nat} (h : i < K.length) : 1 ≤ rm K i ∧ rm K i ≤ 1000000000000000000000000000063 := by
  have h1 := (kat_ok g h).1
  have h2 := h1.1
  have h3 := h1.2.pos
  have := rup_le (n := (kat K i).1) (m := (kat K i).2) (by omega)
  unfold rm
  omega
theorem sum_le {α : Type} {l : List α} {f g : α → Int} (h : ∀ x ∈ l, f x ≤ g x) : (l.map f).sum ≤ (l.map g).sum := by
  induction l with
  | nil => simp
  | cons a l ih =>
    have h1 := h a List.mem_cons_self
    have h2 := ih fun x hx => h x (List.mem_cons_of_mem _ hx)
    simp only [List.map_cons, List.sum_cons]
    omega
theorem sum_const {α : Type} (l : List α) (c : Int) : (l.map fun _ => c).sum = l.length * c := by
  induction l with
  | nil => simp
  | cons a l ih =>
    simp only [List.map_cons, List.sum_cons, List.length_cons, ih]
    rw [Int.natCast_succ, Int.add_mul]
    omega
theorem prod_ok {K : Bk6} {N : List Int} (g : GB K) (gn : GN K N) {i : Nat} (h : i < K.length) : 0 ≤ num N i * rm K i ∧ num N i * rm K i ≤ 1000000000000000000000000000000 * 1000000000000000000000000000063 := by
  have h1 := num_ok gn i
  have h2 := rm_ok g h
  exact ⟨Int.mul_nonneg h1.1 (by omega), Int.mul_le_mul h1.2 h2.2 (by omega) (by omega)⟩
theorem tot_ok {K : Bk6} {N : List Int} (g : GB K) (gn : GN K N) : 0 ≤ tot K N ∧ tot K N ≤ 6 * (1000000000000000000000000000000 * 1000000000000000000000000000063) := by
  have h6 := g.six
  constructor
  · have := sum_le (l := List.range K.length) (f := fun _ => 0) (g := fun i => num N i * rm K i) fun i hi => (prod_ok g gn (List.mem_range.mp hi)).1
    rw [sum_const] at this
    unfold tot
    omega
  · have := sum_le (l := List.range K.length) (f := fun i => num N i * rm K i) (g := fun _ => 1000000000000000000000000000000 * 1000000000000000000000000000063) fun i hi => (prod_ok g gn (List.mem_range.mp hi)).2
    rw [sum_const, List.length_range] at this
    unfold tot
    omega
theorem due_ok {K : Bk6} {N : List Int} (g : GB K) (gn : GN K N) : 0 ≤ due K N ∧ due K N ≤ 6 * (1000000000000000000000000000000 * 1000000000000000000000000000063) + 63 := by
  have h := tot_ok g gn
  have ha := (als_al g (gn.gr g)).pos
  have h2 := rup_le (n := tot K N) (m := mx (als K (thr K N))) (by omega)
  unfold due
  omega
theorem sw_int61 {i : Int} (h : i.natAbs < 10 ^ 61) : Sw 300 0 (.int i) := by
  have h1 : i.natAbs < 2 ^ 203 := Nat.lt_trans h (by decide)
  have h2 : i.natAbs.log2 < 203 := by
    by_cases z : i.natAbs = 0
    · rw [z]; decide
    · exact (Nat.log2_lt z).mpr h1
  refine ⟨?_, by simp [PyData.hasDict], ?_, ?_, by simp [PyData.depth]⟩
  · simp only [PyData.showable]
    exact decide_eq_true (by omega)
  · have e := int_text_length_le10 (k := 61) (by decide) h
    simp only [PyData.leavesShort]
    refine decide_eq_true ?_
    show (Str.ofString (toString i)).length ≤ 62
    rw [ofString_length]
    omega
  · simp only [PyData.weight]
    split <;> omega
theorem due_sw {K : Bk6} {N : List Int} (g : GB K) (gn : GN K N) : Sw 300 0 (.int (due K N)) := sw_int61 (by have := due_ok g gn; omega)
theorem rec_sw {K : Bk6} {N : List Int} (g : GB K) (gn : GN K N) : Sw 1806 1 (recD N) :=
  (sw_tup (sw_map (l := N) (f := PyData.int) fun n hn => sw_int61 (by have := gn.ok n hn; omega))).mono (by have := gn.len; have := g.six; omega) (by omega)

/-! ### fewer and twice -/
theorem thr_mem {K : Bk6} {N : List Int} {i : Nat} : i ∈ thr K N ↔ i < K.length ∧ 0 < num N i := by
  unfold thr
  rw [List.mem_filter, List.mem_range, decide_eq_true_iff]
theorem due_le {K : Bk6} {N P : List Int} (g : GB K) (gn : GN K N) (gp : GN K P) (h : ∀ i, num N i ≤ num P i) : due K N ≤ due K P := by
  refine rup_al (n := 0) (als_al g (gn.gr g)) (als_al g (gp.gr g)) (mx_le (als_ne (gn.gr g)) fun x hx => ⟨x, ?_, Int.le_refl _⟩) (sum_le fun i hi => ?_)
  · unfold als at hx ⊢
    obtain ⟨i, hi, rfl⟩ := List.mem_map.mp hx
    have := thr_mem.mp hi
    exact List.mem_map_of_mem (thr_mem.mpr ⟨this.1, Int.lt_of_lt_of_le this.2 (h i)⟩)
  · exact Int.mul_le_mul_of_nonneg_right (h i) (by have := rm_ok g (List.mem_range.mp hi); omega)
theorem sum_two {α : Type} {l : List α} {f g : α → Int} (h : ∀ x ∈ l, f x = 2 * g x) : (l.map f).sum = 2 * (l.map g).sum := by
  induction l with
  | nil => simp
  | cons a l ih =>
    have h1 := h a List.mem_cons_self
    have h2 := ih fun x hx => h x (List.mem_cons_of_mem _ hx)
    simp only [List.map_cons, List.sum_cons]
    omega
theorem due_two {K : Bk6} {N P : List Int} (g : GB K) (gn : GN K N) (gp : GN K P) (h : ∀ i, num P i = 2 * num N i) : due K P ≤ 2 * due K N := by
  have e1 : thr K P = thr K N := by
    unfold thr
    refine List.filter_congr fun i _ => ?_
    rw [h i]
    by_cases z : 0 < num N i
    · rw [decide_eq_true z, decide_eq_true (by omega)]
    · rw [decide_eq_false z, decide_eq_false (by omega)]
  have e2 : tot K P = 2 * tot K N := sum_two fun i _ => by rw [h i, Int.mul_assoc]
  have ha := (als_al g (gn.gr g)).pos
  unfold due
  rw [e1, e2]
  refine rup_least (by omega) ?_ (Int.dvd_trans rup_dvd ⟨2, Int.mul_comm _ _⟩)
  have := (rup_le (n := tot K N) (m := mx (als K (thr K N))) (by omega)).1
  omega

/-! ### falling rows -/
def Fl (K : Bk6) (r : List Nat) : Prop := r.Pairwise fun i j => (kat K j).2 ≤ (kat K i).2
theorem rend_fl {K : Bk6} (g : GB K) : ∀ {r : List Nat} {e E : Int}, Fl K r → (∀ i ∈ r, i < K.length) → e ≤ E → (∀ i ∈ r, (kat K i).2 ∣ E) → rend K r e ≤ E + (r.map (rm K)).sum
  | [], e, E, _, _, h, _ => by simpa [rend] using h
  | i :: r, e, E, hf, hk, h, hd => by
    obtain ⟨h1, h2⟩ := List.pairwise_cons.mp hf
    have hi := hd i List.mem_cons_self
    have il := hk i List.mem_cons_self
    have ka := (kat_ok g il).1.2
    have kp := ka.pos
    have b1 : rup e (kat K i).2 ≤ E := rup_least (by omega) h hi
    have b2 := (rup_le (n := (kat K i).1) (m := (kat K i).2) (by omega)).1
    have ih := rend_fl g (r := r) (e := sfin K i e) (E := E + rm K i) h2 (fun j hj => hk j (List.mem_cons_of_mem _ hj)) (by unfold sfin rm; omega) fun j hj => by
      have kj := (kat_ok g (hk j (List.mem_cons_of_mem _ hj))).1.2
      have d := kj.dvd ka (h1 j hj)
      exact Int.dvd_add (Int.dvd_trans d hi) (Int.dvd_trans d rup_dvd)
    rw [List.map_cons, List.sum_cons]
    show rend K r (sfin K i e) ≤ _
    omega
end Sh

set_option Elab.async false
set_option linter.all false
set_option maxRecDepth 100000
namespace Sh
open PySem PySem.Spec L2 L3

/-! ### the greatest power of two in a number -/
def lowN (n : Nat) : Nat := n - (n &&& (n - 1))
theorem low_odd {n : Nat} (h : n % 2 = 1) : lowN n = 1 := by
  unfold lowN
  have : n &&& (n - 1) = n - 1 := by
    refine Nat.eq_of_testBit_eq fun i => ?_
    rw [Nat.testBit_and]
    cases i with
    | zero =>
      simp [Nat.testBit_zero]
      omega
    | succ j =>
      rw [Nat.testBit_succ, Nat.testBit_succ]
      have e : n / 2 = (n - 1) / 2 := by omega
      rw [e, Bool.and_self]
  rw [this]
  omega
theorem low_even {n : Nat} (h : n % 2 = 0) (h0 : 0 < n) : lowN n = 2 * lowN (n / 2) := by
  unfold lowN
  have : n &&& (n - 1) = 2 * (n / 2 &&& (n / 2 - 1)) := by
    refine Nat.eq_of_testBit_eq fun i => ?_
    rw [Nat.testBit_and]
    cases i with
    | zero =>
      simp [Nat.testBit_zero]
      omega
    | succ j =>
      rw [Nat.testBit_succ, Nat.testBit_succ, Nat.testBit_succ]
      have e : (n - 1) / 2 = n / 2 - 1 := by omega
      have e2 : 2 * (n / 2 &&& (n / 2 - 1)) / 2 = (n / 2 &&& (n / 2 - 1)) := by omega
      rw [e, e2, Nat.testBit_and]
  have le : (n / 2 &&& (n / 2 - 1)) ≤ n / 2 := Nat.and_le_left
  rw [this]
  omega
theorem low_pos : ∀ {n : Nat}, 0 < n → 1 ≤ lowN n ∧ lowN n ≤ n ∧ lowN n ∣ n := by
  intro n
  induction n using Nat.strongRecOn with
  | ind n ih =>
    intro h
    by_cases q : n % 2 = 1
    · rw [low_odd q]
      exact ⟨by omega, by omega, Nat.one_dvd n⟩
    · have q0 : n % 2 = 0 := by omega
      obtain ⟨h1, h2, h3⟩ := ih (n / 2) (by omega) (by omega)
      rw [low_even q0 h]
      refine ⟨by omega, by omega, ?_⟩
      obtain ⟨c, hc⟩ := h3
      refine ⟨c, ?_⟩
      rw [Nat.mul_assoc, ← hc]
      omega
theorem and_neg {n : Int} (h : 0 < n) : Builtin.bitAnd n (-n) = (lowN n.toNat : Int) := by
  rw [PyProof.Rows.bitAnd_pn (by omega) (by omega)]
  have e : (Builtin.bitNot (-n)).toNat = n.toNat - 1 := by
    unfold Builtin.bitNot
    omega
  rw [e]
  unfold lowN
  have le : (n.toNat &&& (n.toNat - 1)) ≤ n.toNat := Nat.and_le_left
  omega
end Sh
namespace L3
open PySem PySem.Spec L2 PyProof.Rows
/-! ### a tuple once -/
theorem tuple_mul1 (l : Addr) (items : Array Value) (n : Nat) (dd : Option Addr) (sl : Array (Option Value)) (u : Tok) :
    Meets (Builtin.«tuple.__mul__» ⟨[.ref l, .int 1 u], []⟩) (fun _ R s => s.heap.get? l = some { cls := .type "tuple", dict := dd, data := .seq items n, slots := sl } ∧
      R (.ok (.ret (Value.ref l))) s) :=
  .of_wp fun prog w A R s h => by
    obtain ⟨hp, g, d, tk, os⟩ := s
    obtain ⟨hl, h⟩ := h
    have f1 := AutoSeq1.idx_int
    have c0 : (decide ((1 : Int) < -(2 ^ 63)) || decide ((1 : Int) ≥ 2 ^ 63)) = false := by decide
    have c1 : (items.isEmpty || (1 : Int) == 1) = true := by simp
    wp_walk using wpAny_loadPart' hl
    repeat (first
      | (refine wpAny_ite_false (decide_eq_false (by rw [c0]; exact Bool.false_ne_true)) ?_; wp_walk using wpAny_loadPart' hl)
      | (refine wpAny_ite_true (decide_eq_true c1) ?_; wp_walk using wpAny_loadPart' hl))
    exact ⟨_, rfl, h⟩
def rRep1 (K : PySem.W.Frag) : R2 := fun x y H Q => ∃ l xs, x = .ref l ∧ y = .int 1 ∧ SqT K H l xs ∧ Q (.ref l) H
theorem op_rep1 {X : Cx} : OpR X (binaryOp .Mult) (rRep1 X.K) := by
  intro pins s σ H x y v u Q I rx ry h
  obtain ⟨l, xs, rfl, rfl, hT, q⟩ := h
  cases rx
  obtain ⟨t, rfl⟩ := ry
  obtain ⟨its, r, ⟨⟨cls, dd, data, sl⟩, ho, hc, n, hd⟩, hs⟩ := I.tuple hT
  simp only at hc hd
  subst hc hd
  exact wpAny_binaryOp_repeat_ref (T := "tuple") (U := "int") (by decide) ⟨_, ho, rfl⟩ (fun s' => typeIs_int s' 1 t) noFill_tuple_mul F.fills_int_mul F.slot_int_rmul repeat_tuple F.slot_int_index.lookup
    (call_meets F.slot_int_rmul (typeIs_int s 1 t) F.entry_int_rmul (F.args_int_rmul_2 _ _) (int_rmul_tuple 1 t l its.toArray n dd sl)
      ⟨ho, rfl, ⟨_, ho, rfl⟩, call_meets F.slot_tuple_mul ⟨_, ho, rfl⟩ F.entry_tuple_mul (F.args_tuple_mul_2 _ _) (tuple_mul1 l its.toArray n dd sl t) ⟨ho, .ref l, H, I, rfl, q⟩⟩)
def oRepA : F2 := fun x y M Q => match x, y with
  | .d (.tuple xs), .d (.int j) => (xs ≠ [] ∧ 1 ≤ j ∧ j ≤ 1000 ∧ xs.length ≤ 1000) ∧ Q (.tup (List.replicate j.toNat xs).flatten) M
  | _, _ => False
theorem opl_repA {K : PySem.W.Frag} : OpL K (fun x y H Q => rRep1 K x y H Q ∨ rRepC K x y H Q) oRepA := by
  intro x y t u M B H Q Q' h w rx ry k
  unfold oRepA at h
  split at h
  · rename_i xs j
    obtain ⟨⟨h0, h1, h2, h3⟩, q⟩ := h
    by_cases c : j = 1
    · subst c
      cases rx with
      | tup e1 q1 =>
        cases ry
        refine .inl ⟨_, _, rfl, rfl, SqT.mono w.le e1, ?_⟩
        have e : (List.replicate (1 : Int).toNat xs).flatten = xs := by simp
        rw [e] at q
        exact k _ _ M B H q w (.refl _ _) (.tup e1 q1)
    · exact .inr (opl_repT x y (.d (.tuple xs)) (.d (.int j)) M B H Q Q' ⟨⟨h0, by omega, h2, h3⟩, q⟩ w rx ry k)
  · exact h.elim
theorem me_repA {X : Cx} {a b : Expr} {ma mb : Me} {pos : Pos} (ha : ME X a ma) (hb : ME X b mb) : ME X (.BinOp a .Mult b pos) (mOp oRepA ma mb) := me_op (OpR.or op_rep1 op_repC) opl_repA ha hb
@[simp] theorem x_repA {xs : List PyData} {j : Int} {M : Mem} {Q : Kt} : oRepA (.d (.tuple xs)) (.d (.int j)) M Q = ((xs ≠ [] ∧ 1 ≤ j ∧ j ≤ 1000 ∧ xs.length ≤ 1000) ∧ Q (.tup (List.replicate j.toNat xs).flatten) M) := rfl
end L3

set_option Elab.async false
set_option linter.all false
set_option maxRecDepth 100000
namespace L3
open PySem PySem.Spec L2

/-! ### lists of the deck made within a display; pop(i), insert(i, x) of them -/
section
variable {X : Cx} {e tg : Expr} {m : Me} {pos : Pos} {elt : Expr} {ifs : List Expr} {scope : Scope} {own : List (Str × Nat)} {i : Mi} {g : Mg} {os : List Nat} {mc : Mb}
theorem me_lcD (hc : X.calm = true) (hN : X.N.Nodup) (hi : MI X tg e i) (ok : BlkOk X.N X.env.scope scope own)
    (hg : ∀ (s : Shared) (H : Hp) (C : Addr) (cl : List (Str × Addr)) (fp : List Addr), MG (X.blk s H scope (compEnvC scope cl C X.env) fp) tg os g) (ht : ∀ (s : Shared) (H : Hp) (C : Addr) (cl : List (Str × Addr)) (fp : List Addr), MTs (X.blk s H scope (compEnvC scope cl C X.env) fp) ifs mc)
    (he : ∀ (s : Shared) (H : Hp) (C : Addr) (cl : List (Str × Addr)) (fp : List Addr), ME (X.blk s H scope (compEnvC scope cl C X.env) fp) elt m) (sub : ∀ j ∈ os, j ∈ own.map (·.2)) (hs : ∀ x, foldedSetIterable e X.env x = pure x := by intro _; rfl) :
    ME X (.ListComp elt [⟨tg, e, ifs, 0⟩] scope pos) (mLcD i g mc m (own.map (·.2))) := PE.of (pe_lc (te := rE X.K m) (tt := rB X.K mc) (g := rG X.K os g) hc hN hi ok hg ht he hs) fun _ _ _ h => lc_ofD sub h
end
theorem paired_eraseIdx {F : V → T → Prop} : ∀ {xs : List V} {ts : List T} (n : Nat), Paired F xs ts → Paired F (xs.eraseIdx n) (ts.eraseIdx n)
  | _, _, _, .nil => .nil
  | _, _, 0, .cons _ q => q
  | _, _, n + 1, .cons p q => .cons p (paired_eraseIdx n q)
theorem paired_take {F : V → T → Prop} : ∀ {xs : List V} {ts : List T} (n : Nat), Paired F xs ts → Paired F (xs.take n) (ts.take n)
  | _, _, _, .nil => by simp; exact .nil
  | _, _, 0, .cons _ q => .nil
  | _, _, n + 1, .cons p q => .cons p (paired_take n q)
theorem paired_drop {F : V → T → Prop} : ∀ {xs : List V} {ts : List T} (n : Nat), Paired F xs ts → Paired F (xs.drop n) (ts.drop n)
  | _, _, _, .nil => by simp; exact .nil
  | _, _, 0, .cons p q => .cons p q
  | _, _, n + 1, .cons p q => paired_drop n q
theorem paired_append {F : V → T → Prop} : ∀ {xs : List V} {ts : List T} {ys : List V} {us : List T}, Paired F xs ts → Paired F ys us → Paired F (xs ++ ys) (ts ++ us)
  | _, _, _, _, .nil, q => q
  | _, _, _, _, .cons p r, q => .cons p (paired_append r q)
def fPopD (x : T) : FA := fun ts M Q => match x, ts with
  | .mr i, [.d (.int j)] => (match M.D[i]? with
    | some (.lst us) => (0 ≤ j ∧ j < 2 ^ 63 ∧ j.toNat < us.length) ∧ ∀ z, us[j.toNat]? = some z → Q z { M with D := M.D.set i (.lst (us.eraseIdx j.toNat)) }
    | _ => False)
  | _, _ => False
theorem mel_popD {K : PySem.W.Frag} : MeL K rPopAt fPopD := by
  intro x xs t ts M B H Q Q' h w rx rs k
  unfold fPopD at h
  split at h
  · rename_i i j
    split at h
    · rename_i us hD
      obtain ⟨v, rfl, r1⟩ := paired_one rs
      cases (show Rp K B.G v (.int j) from r1)
      obtain ⟨a, rfl, ha⟩ := rx
      obtain ⟨_, vs, e, q⟩ := w.dc _ _ _ ha hD
      obtain ⟨⟨h1, h2, h3⟩, hQ⟩ := h
      have hz : us[j.toNat]? = some us[j.toNat] := List.getElem?_eq_getElem h3
      obtain ⟨u, g1, g2⟩ := paired_get q hz
      refine ⟨a, vs, j, j.toNat, u, rfl, rfl, e, by omega, h2, ?_, g1, ?_⟩
      · unfold seqIndex?
        rw [paired_len q]
        have c1 : ¬ j < 0 := by omega
        simp only [c1, if_false]
        rw [if_pos (by simp; omega)]
      · obtain ⟨w2, e2⟩ := w.setD ha hD (o := .lst (vs.eraseIdx j.toNat)) (c := .lst (us.eraseIdx j.toNat)) fun H' eH => ⟨_, eH, paired_eraseIdx _ q⟩
        exact k _ _ _ _ _ (hQ _ hz) w2 e2 g2.undeck
    · exact h.elim
  · exact h.elim
def fInsD (x : T) : FA := fun ts M Q => match x, ts with
  | .mr i, [.d (.int j), t] => (match M.D[i]? with
    | some (.lst us) => (noL t = true ∧ us.length < sizeLine ∧ 0 ≤ j ∧ j < 2 ^ 63) ∧ Q .non { M with D := M.D.set i (.lst (us.take j.toNat ++ [t] ++ us.drop j.toNat)) }
    | _ => False)
  | _, _ => False
theorem mel_insD {K : PySem.W.Frag} : MeL K (fun x vs H Q => ∃ (l : Addr) (xs : List V) (i : Int) (y : V), x = .ref l ∧ vs = [.int i, y] ∧ H l = some (.lst xs) ∧ xs.length < sizeLine ∧ 0 ≤ i ∧ i < 2 ^ 63 ∧ Q .non (upd H l (.lst (xs.take i.toNat ++ [y] ++ xs.drop i.toNat)))) fInsD := by
  intro x xs t ts M B H Q Q' h w rx rs k
  unfold fInsD at h
  split at h
  · rename_i i j z
    split at h
    · rename_i us hD
      obtain ⟨v, u, rfl, r1, r2⟩ := paired_two rs
      cases (show Rp K B.G v (.int j) from r1)
      obtain ⟨a, rfl, ha⟩ := rx
      obtain ⟨_, vs, e, q⟩ := w.dc _ _ _ ha hD
      obtain ⟨⟨hno, h1, h2, h3⟩, hQ⟩ := h
      refine ⟨a, vs, j, u, rfl, rfl, e, by rw [paired_len q]; exact h1, h2, h3, ?_⟩
      obtain ⟨w2, e2⟩ := w.setD ha hD (o := .lst (vs.take j.toNat ++ [u] ++ vs.drop j.toNat)) (c := .lst (us.take j.toNat ++ [z] ++ us.drop j.toNat)) fun H' eH => ⟨_, eH, paired_append (paired_append (paired_take _ q) (.cons (r2.deck hno) .nil)) (paired_drop _ q)⟩
      exact k _ _ _ _ _ hQ w2 e2 .non
    · exact h.elim
  · exact h.elim
section
variable {X : Cx}
theorem me_popD {mo : Me} {mr : Ma} {o x : Expr} {apos cpos : Pos} (ho : ME X o mo) (ha : MA X [x] mr) (hbase : attributeBase o "pop" X.env (eval o X.env) = eval o X.env := by rfl)
    (hfew : ((backTo cpos (starEach [x] X.env)).all (fun x => !x.1) && (backToKw cpos (keywordEach [] X.env)).all (fun x => x.1.isSome) && decide (([x] : List Expr).length + ([] : List Keyword).length + (if ([] : List Keyword).isEmpty then 0 else 1) < 30)) = true := by rfl)
    (hline : (apos.endLine == cpos.line) = true := by rfl) (hs : starEach [x] X.env = (false, eval x X.env) :: starEach [] X.env := by rfl) : ME X (.Call (.Attribute o "pop" apos) [x] [] cpos) (mMeth fPopD mo mr) :=
  me_lm PySem.F.plainAttrs_list PySem.F.slot_list_pop PySem.F.type_list_pop mt_popAt mel_popD ho ha hbase hfew hline hs rfl
theorem me_insD {mo : Me} {mr : Ma} {o x y : Expr} {apos cpos : Pos} (ho : ME X o mo) (ha : MA X [x, y] mr) (hbase : attributeBase o "insert" X.env (eval o X.env) = eval o X.env := by rfl)
    (hfew : ((backTo cpos (starEach [x, y] X.env)).all (fun x => !x.1) && (backToKw cpos (keywordEach [] X.env)).all (fun x => x.1.isSome) && decide (([x, y] : List Expr).length + ([] : List Keyword).length + (if ([] : List Keyword).isEmpty then 0 else 1) < 30)) = true := by rfl)
    (hline : (apos.endLine == cpos.line) = true := by rfl) (hs : starEach [x, y] X.env = (false, eval x X.env) :: starEach [y] X.env := by rfl) (hpl : (backTo cpos (starEach [y] X.env)).any (·.1) = false := by rfl) : ME X (.Call (.Attribute o "insert" apos) [x, y] [] cpos) (mMeth fInsD mo mr) :=
  me_lm PySem.F.plainAttrs_list PySem.F.slot_list_insert PySem.F.type_list_insert mt_insert mel_insD ho ha hbase hfew hline hs hpl
end
section
variable {i : Nat} {M : Mem} {Q : Kt} {D : List Cell}
@[simp] theorem x_popDj {j : Int} : fPopD (.mr i) [.d (.int j)] M Q = (match M.D[i]? with
    | some (.lst us) => (0 ≤ j ∧ j < 2 ^ 63 ∧ j.toNat < us.length) ∧ ∀ z, us[j.toNat]? = some z → Q z { M with D := M.D.set i (.lst (us.eraseIdx j.toNat)) }
    | _ => False) := rfl
@[simp] theorem x_insDj {j : Int} {t : T} : fInsD (.mr i) [.d (.int j), t] M Q = (match M.D[i]? with
    | some (.lst us) => (noL t = true ∧ us.length < sizeLine ∧ 0 ≤ j ∧ j < 2 ^ 63) ∧ Q .non { M with D := M.D.set i (.lst (us.take j.toNat ++ [t] ++ us.drop j.toNat)) }
    | _ => False) := rfl
end

section
variable {τ : En} {M : Mem} {E : Es} {d k v : Me} {r : Ma} {Q : Kt}
@[simp] theorem x_lputD : mLPutD d k v E τ M = v τ M fun t M1 => d τ M1 fun x M2 => k τ M2 fun y M3 => match x, y with
  | .mr i, .d (.int j) => (match M3.D[i]? with
    | some (.lst ds) => noL t = true ∧ ∃ n, ixN ds.length j = some n ∧ E.nx τ { M3 with D := M3.D.set i (.lst (ds.set n t)) }
    | _ => False)
  | _, _ => False := rfl
@[simp] theorem x_newD : mNewD r τ M Q = r τ M fun ts M1 => ((∀ t ∈ ts, noL t = true) ∧ ts.length ≤ sizeLine) ∧ Q (.mr M1.D.length) { M1 with D := M1.D ++ [.lst ts] } := rfl
end

/-! ### floor division by great numbers -/
def CDvW (i j : Int) : Prop := 0 < j ∧ j.natAbs < 2 ^ 300
def oDivW : F2 := oI CDvW fun i j => .int (i / j)
theorem opr_divW {X : Cx} : OpR X (binaryOp .FloorDiv) (L2.rI CDvW fun i j => .int (i / j)) := by
  intro pn sh sg hp x y v u Q iv rx ry ⟨i, j, e1, e2, c, q⟩
  refine op_fdivW pn sh sg hp x y v u Q iv rx ry ⟨i, j, e1, e2, ⟨c.1, ?_⟩, q⟩
  have h1 := c.1
  have h2 := c.2
  have h3 : j.natAbs ≠ 0 := by omega
  have := (Nat.log2_lt h3).mpr h2
  omega
theorem me_divW {X : Cx} {a b : Expr} {ma mb : Me} {pos : Pos} (ha : ME X a ma) (hb : ME X b mb) : ME X (.BinOp a .FloorDiv b pos) (mOp oDivW ma mb) := me_op opr_divW (opl_I fun _ _ _ => .int _) ha hb
@[simp] theorem x_divW {i j : Int} {M : Mem} {Q : Kt} : oDivW (.d (.int i)) (.d (.int j)) M Q = (CDvW i j ∧ Q (.int (i / j)) M) := rfl

/-! ### x += e -/
def mAugI (f : Int → Int → Int) (i : Nat) (m : Me) : Ms := fun E τ M => ∃ t, τ[i]? = some (some t) ∧ m τ M fun u M1 => match t, u with
  | .d (.int a), .d (.int b) => E.nx (τ.set i (some (.int (f a b)))) M1
  | _, _ => False
section
variable {X : Cx} {e : Expr} {m : Me} {pos pos' : Pos} {i : Nat} {x : Str}
theorem ms_augI {op : Operator} {f : Int → Int → Int} (ho : PIp X op (ipI f)) (hN : X.N.Nodup) (hi : X.N[i]? = some x) (hx : Loc X.env.scope x) (he : ME X e m) (hf : X.fn x = true ∨ X.env.scope.names.lookup x = some .local := by first | exact .inl rfl | exact .inr rfl | assumption) : MS X (.AugAssign (.Name x pos') op e pos) (mAugI f i m) := PS.of (ps_aug hN hi hx (hf := hf) he ho) fun D σ H ⟨E, τ, M, B, ⟨t, ht, h⟩, w, sl, go⟩ => by
  obtain ⟨v, hv, rv⟩ := sl.at_ i t ht
  refine ⟨v, hv, τ, M, B, _, h, w, sl, fun u tu M1 B1 H1 h1 w1 e1 r1 => ?_⟩
  split at h1
  · rename_i a b
    cases (show Rp X.K B.G v (.int a) from rv)
    cases (show Rp X.K B1.G u (.int b) from r1)
    exact ⟨a, b, rfl, rfl, go.nx _ M1 B1 _ H1 h1 w1 e1 ((sl.mono e1).set i (t := .int (f a b)) (.int _))⟩
  · exact h1.elim
end
@[simp] theorem x_augI {f : Int → Int → Int} {i : Nat} {m : Me} {E : Es} {τ : En} {M : Mem} : mAugI f i m E τ M = ∃ t, τ[i]? = some (some t) ∧ m τ M fun u M1 => match t, u with
  | .d (.int a), .d (.int b) => E.nx (τ.set i (some (.int (f a b)))) M1
  | _, _ => False := rfl

/-! ### range(a, b) -/
def rangeT2 (lo : Int) (n : Nat) : List T := (List.range n).map fun (i : Nat) => T.int (lo + (i : Int))
def iRange2 (r : Ma) : Mi := fun τ M Q => r τ M fun ts M1 => match ts with
  | [.d (.int i), .d (.int j)] => (-(2 ^ 62) ≤ i ∧ i < 2 ^ 62 ∧ -(2 ^ 62) ≤ j ∧ j < 2 ^ 62) ∧ Q (rangeT2 i (j - i).toNat) M1
  | _ => False
theorem mi_range2 {X : Cx} {tg a b : Expr} {pos p : Pos} {mr : Ma} (hg : Gl X "range") (hm : X.mg "range" = none) (ha : MA X [a, b] mr) (hs : starEach [a, b] X.env = [(false, eval a X.env), (false, eval b X.env)] := by rfl) (hs2 : starEach [b] X.env = [(false, eval b X.env)] := by rfl) : MI X tg (.Call (.Name "range" p) [a, b] [] pos) (iRange2 mr) := PI.of (pi_range2 hg hm ha hs hs2) fun σ H R ⟨τ, M, B, Q, h, w, s, k⟩ => by
  refine ⟨τ, M, B, _, h, w, s, fun v t M1 B1 H1 h1 w1 e1 r1 => ?_⟩
  split at h1
  · obtain ⟨v, u, rfl, r, r'⟩ := paired_two r1
    cases r
    cases r'
    rename_i i j
    refine ⟨i, j, rfl, h1.1, k _ M1 B1 H1 _ h1.2 w1 e1 ?_⟩
    unfold WalkT rangeT2
    rw [List.length_map, List.length_range]
    refine walk_range.mono (fun _ _ => trivial) fun k H x H' hi _ y => .inl ⟨y.1, T.int (i + (k : Int)), ?_, ?_⟩
    · rw [List.getElem?_map, List.getElem?_range hi]
      rfl
    · rw [y.2]
      exact .int _
  · exact h1.elim
@[simp] theorem x_irange2 {a : Ma} {τ : En} {M : Mem} {R : List T → Mem → Prop} : iRange2 a τ M R = a τ M fun ts M1 => match ts with
  | [.d (.int i), .d (.int j)] => (-(2 ^ 62) ≤ i ∧ i < 2 ^ 62 ∧ -(2 ^ 62) ≤ j ∧ j < 2 ^ 62) ∧ R (rangeT2 i (j - i).toNat) M1
  | _ => False := rfl
theorem range2_at {lo : Int} {n i : Nat} {t : T} (h : (rangeT2 lo n)[i]? = some t) : i < n ∧ t = .int (lo + (i : Int)) := by
  unfold rangeT2 at h
  rw [List.getElem?_map] at h
  by_cases q : i < n
  · rw [List.getElem?_range q] at h
    cases h
    exact ⟨q, rfl⟩
  · rw [List.getElem?_eq_none (by simpa using q)] at h
    cases h
theorem range2_len {lo : Int} {n : Nat} : (rangeT2 lo n).length = n := by unfold rangeT2; simp
end L3

set_option Elab.async false
set_option linter.all false
set_option maxRecDepth 100000
namespace L3
open PySem PySem.Spec L2

/-! ### list(range(n)) -/
def rgD (n : Int) : List PyData := (List.range n.toNat).map fun (i : Nat) => .int (i : Int)
def mListR (m : Me) : Me := fun τ M Q => m τ M fun t M1 => match t with
  | .d (.int n) => (0 ≤ n ∧ n ≤ 16777216) ∧ Q (.lst (rgD n)) M1
  | _ => False
theorem rpa_rg {K : PySem.W.Frag} {G : Hp} : ∀ l : List Nat, RpA K G (l.map fun (i : Nat) => V.int (0 + (i : Int))) (l.map fun (i : Nat) => PyData.int (i : Int))
  | [] => .nil
  | i :: l => .cons (by show Rp K G (V.int (0 + (i : Int))) (PyData.int (i : Int)); rw [Int.zero_add]; exact .int _) (rpa_rg l)
theorem me_listR {X : Cx} {a : Expr} {p p2 pos pos2 : Pos} {ma : Me} (hc : X.calm = true) (hg : Gl X "list") (hm : X.mg "list" = none) (hg2 : Gl X "range") (hm2 : X.mg "range" = none) (ha : ME X a ma)
    (hs : starEach [a] X.env = (false, eval a X.env) :: starEach [] X.env := by rfl)
    (hs2 : starEach [.Call (.Name "range" p2) [a] [] pos2] X.env = (false, eval (.Call (.Name "range" p2) [a] [] pos2) X.env) :: starEach [] X.env := by rfl) :
    ME X (.Call (.Name "list" p) [.Call (.Name "range" p2) [a] [] pos2] [] pos) (mListR ma) := PE.of (pe_listRg hc hg hm (prg_1 hg2 hm2 ha hs) hs2) fun σ H Q' ⟨τ, M, B, Q, h, w, s, k⟩ => by
  refine ⟨τ, M, B, _, h, w, s, fun v t M1 B1 H1 h1 w1 e1 r1 => ?_⟩
  split at h1
  · rename_i n
    cases (show Rp X.K B1.G v (.int n) from r1)
    refine ⟨n, rfl, ⟨by omega, by omega, by omega, by omega, by omega⟩, fun q hq => ?_⟩
    obtain ⟨w4, e4⟩ := w1.alloc hq (.lst (rgV 0 n))
    refine k _ _ _ _ _ h1.2 w4 (e1.trans e4) (.lst upd_same ?_)
    unfold rgV rgD
    rw [Int.sub_zero]
    exact rpa_rg _
  · exact h1.elim
@[simp] theorem x_listR {m : Me} {τ : En} {M : Mem} {Q : Kt} : mListR m τ M Q = m τ M fun t M1 => match t with
  | .d (.int n) => (0 ≤ n ∧ n ≤ 16777216) ∧ Q (.lst (rgD n)) M1
  | _ => False := rfl

/-! ### max(a tuple) -/
section
open PyProof.Rows
variable {prog : Program} {w : World} {A : Around} {E : Value → Shared → Prop} {s : Shared} {l : Addr}
theorem max_intTup {xs : Array (Int × Tok)} {Q : Value → Shared → Prop} (hh : A.handled = none) (hl : s.heap.IsTuple l (intItems xs)) (h0 : 0 < xs.size)
    (h : ∀ h' tk i t, (∀ b o, s.heap.get? b = some o → h'.get? b = some o) → i < xs.size → (∀ j, j < xs.size → numAt xs j ≤ numAt xs i) → Q (.int (numAt xs i) t) { s with heap := h', toks := tk }) :
    wpAny (model prog w) A (call (.builtin "max") [.ref l]) Q E s := by
  have hlt : l < s.heap.objs.size := by
    obtain ⟨o, h1, _⟩ := hl
    exact Heap.lt_size h1
  have hsz : (intItems xs).size = xs.size := by simp [intItems]
  refine call_max_walk (wpAny_pyIter_tuple hl ?_)
  refine ⟨_, [_, l], [_], _, _, _, fun i j => decide (numAt xs i > numAt xs j), rfl, Walks.tuple (A := A.in1) hh _ l (Nat.ne_of_lt hlt) (intItems xs), ⟨⟨_, Heap.get?_push_size _ rfl, rfl, rfl⟩, hl.push _⟩, fun c hc => ?_, by omega, CmpOf.ints_gt (numAt xs) (fun _ _ => intItems_at), fun v h' tk hv hk => ?_⟩
  · rw [Heap.size_push]
    rcases List.mem_cons.mp hc with z | z
    · rw [z]; exact Nat.lt_succ_self _
    · rw [List.mem_singleton.mp z]; exact Nat.lt_succ_of_lt hlt
  · obtain ⟨t, rfl⟩ := intItems_at hv
    have hb := argBest_gt (numAt xs) ((intItems xs).size - 1)
    refine h h' tk _ t (fun b o e => hk b o (fun z => by
      rw [List.mem_singleton.mp z] at e
      exact absurd (Heap.lt_size e) (Nat.lt_irrefl _)) (Heap.get?_push_of_some _ e)) (by omega) fun j hj => hb.2 j (by omega)
theorem maxT_raw {its : List Value} {ns : List Int} {Q : Value → Shared → Prop} (hh : A.handled = none) (hl : s.heap.IsTuple l its.toArray) (hi : IntsAre its ns) (h0 : 0 < ns.length)
    (h : ∀ h' tk m t, (∀ b o, s.heap.get? b = some o → h'.get? b = some o) → m ∈ ns → (∀ y, y ∈ ns → y ≤ m) → Q (.int m t) { s with heap := h', toks := tk }) : wpAny (model prog w) A (call (.builtin "max") [.ref l]) Q E s := by
  obtain ⟨xs, e⟩ := hi.allInts.items
  have hn : numsOf (intItems xs).toList = ns := by rw [← e]; exact hi.numsOf
  rw [nums_intItems] at hn
  rw [e] at hl
  have hs : xs.size = ns.length := by rw [← hn]; simp
  have hat : ∀ i, (h : i < ns.length) → numAt xs i = ns[i] := by
    intro i h
    have h2 : i < xs.size := by omega
    subst hn
    simp [numAt, Array.getElem?_eq_getElem h2]
  refine max_intTup hh hl (by omega) fun h' tk i t hk hi2 hmx => ?_
  refine h h' tk _ t hk ?_ fun y hy => ?_
  · rw [hat i (by omega)]
    exact List.getElem_mem _
  · obtain ⟨j, hj, rfl⟩ := List.getElem_of_mem hy
    rw [← hat j hj]
    exact hmx j (by omega)
end
def rMaxT (K : PySem.W.Frag) : List V → Hp → VK → Prop := fun vs H Q => ∃ (a : Addr) (ns : List Int), vs = [V.ref a] ∧ SqT K H a (ns.map V.int) ∧ 0 < ns.length ∧ ∀ m, m ∈ ns → (∀ y, y ∈ ns → y ≤ m) → Q (.int m) H
theorem cr_maxT {X : Cx} (hc : X.calm = true) : CallR X (.builtin "max") (rMaxT X.K) := by
  intro pins s σ H vs us Q I r h
  obtain ⟨a, ns, rfl, hs, h0, q⟩ := h
  obtain ⟨its, rv, hl, _⟩ := I.tuple hs
  rw [Vals.ref1 r]
  exact maxT_raw (I.ok.hd hc) hl rv.ints h0 fun h' tk m t hk h1 h2 => ⟨.int _, H, I.kept hk, ⟨_, rfl⟩, q m h1 h2⟩
def fMaxT : FA := fun ts M Q => match ts with
  | [.d (.tuple xs)] => (match intsOf xs with
    | some ns => 0 < ns.length ∧ ∀ m, m ∈ ns → (∀ y, y ∈ ns → y ≤ m) → Q (.int m) M
    | none => False)
  | _ => False
theorem cal_maxT {K : PySem.W.Frag} : CaL K (rMaxT K) fMaxT := by
  intro xs ts M B H Q Q' h w r k
  unfold fMaxT at h
  split at h
  · obtain ⟨v, rfl, r1⟩ := paired_one r
    split at h
    · rename_i ns e
      have e2 := intsOf_eq e
      subst e2
      cases (show Rp K B.G v (.tuple _) from r1) with
      | tup e1 q1 =>
        rw [rpa_ints q1] at e1
        exact ⟨_, ns, rfl, SqT.mono w.le e1, h.1, fun m h1 h2 => k _ _ M B H (h.2 m h1 h2) w (.refl _ _) (.int _)⟩
    · exact h.elim
  · exact h.elim
section
variable {X : Cx} {e : Expr} {es : List Expr} {mr : Ma} {p pos : Pos}
theorem me_maxT (hc : X.calm = true) (hg : Gl X "max") (hm : X.mg "max" = none) (ha : MA X (e :: es) mr) (he : starEach (e :: es) X.env = (false, eval e X.env) :: starEach es X.env := by rfl) (hpl : (backTo pos (starEach es X.env)).any (·.1) = false := by rfl) : ME X (.Call (.Name "max" p) (e :: es) [] pos) (mCall fMaxT mr) := me_callB (cr_maxT hc) cal_maxT hg hm (by decide +kernel) ha (by decide) (by decide) he hpl
end
end L3

set_option Elab.async false
set_option linter.all false
set_option maxRecDepth 100000
namespace L3
open PySem PySem.Spec L2

/-! ### a list + a list that the frame changes later -/
def oAddL : F2 := fun x y M Q => match x, y with
  | .d (.list a), .d (.list b) => a.length + b.length ≤ sizeLine ∧ Q (.lr M.L.length) { M with L := M.L ++ [some (a ++ b)] }
  | _, _ => False
theorem opl_addL {K : PySem.W.Frag} : OpL K rCat oAddL := by
  intro x y t u M B H Q Q' h w rx ry k
  unfold oAddL at h
  split at h
  · cases rx with
    | lst e1 q1 =>
      cases ry with
      | lst e2 q2 =>
        refine ⟨_, _, _, _, rfl, rfl, w.le _ _ e1, w.le _ _ e2, ?_, fun p hp => ?_⟩
        · rw [RpA.length q1, RpA.length q2]
          exact h.1
        · obtain ⟨w2, e2⟩ := w.newL hp (RpA.append q1 q2)
          exact k _ _ _ _ _ h.2 w2 e2 ⟨p, rfl, by rw [← w.llen]; exact get_snoc⟩
  · exact h.elim
theorem me_addL {X : Cx} {a b : Expr} {ma mb : Me} {pos : Pos} (ha : ME X a ma) (hb : ME X b mb) : ME X (.BinOp a .Add b pos) (mOp oAddL ma mb) := me_op op_cat opl_addL ha hb
@[simp] theorem x_addL {a b : List PyData} {M : Mem} {Q : Kt} : oAddL (.d (.list a)) (.d (.list b)) M Q = (a.length + b.length ≤ sizeLine ∧ Q (.lr M.L.length) { M with L := M.L ++ [some (a ++ b)] }) := rfl
end L3

set_option Elab.async false
set_option linter.all false
set_option maxRecDepth 100000
namespace L3
open PySem PySem.Spec L2 PyProof.Rows
/-! ### a tuple no times -/
theorem tuple_mul0 (l : Addr) (items : Array Value) (n : Nat) (dd : Option Addr) (sl : Array (Option Value)) (u : Tok) (hne : items.isEmpty = false) :
    Meets (Builtin.«tuple.__mul__» ⟨[.ref l, .int 0 u], []⟩) (fun _ R s => s.heap.get? l = some { cls := .type "tuple", dict := dd, data := .seq items n, slots := sl } ∧
      R (.ok (.ret (Value.ref s.heap.objs.size))) { s with heap := s.heap.push { cls := .type "tuple", data := .seq #[] } }) :=
  .of_wp fun prog w A R s h => by
    obtain ⟨hp, g, d, tk, os⟩ := s
    obtain ⟨hl, h⟩ := h
    have f1 := AutoSeq1.idx_int
    have c0 : (decide ((0 : Int) < -(2 ^ 63)) || decide ((0 : Int) ≥ 2 ^ 63)) = false := by decide
    have c1 : (items.isEmpty || (0 : Int) == 1) = false := by rw [hne]; decide
    wp_walk using wpAny_loadPart' hl
    repeat (first
      | (refine wpAny_ite_false (decide_eq_false (by rw [c0]; exact Bool.false_ne_true)) ?_; wp_walk using wpAny_loadPart' hl)
      | (refine wpAny_ite_false (decide_eq_false (by rw [c1]; exact Bool.false_ne_true)) ?_; wp_walk using wpAny_loadPart' hl))
    exact ⟨_, rfl, h⟩
def rRep0 (K : PySem.W.Frag) : R2 := fun x y H Q => ∃ l xs, x = .ref l ∧ y = .int 0 ∧ SqT K H l xs ∧ xs ≠ [] ∧ ∀ (p : Addr) (o : Obj), H p = none → o.dict = none → Q (.ref p) (upd H p (.frz o (.tup [])))
theorem op_rep0 {X : Cx} : OpR X (binaryOp .Mult) (rRep0 X.K) := by
  intro pins s σ H x y v u Q I rx ry h
  obtain ⟨l, xs, rfl, rfl, hT, hne, q⟩ := h
  cases rx
  obtain ⟨t, rfl⟩ := ry
  obtain ⟨its, r, ⟨⟨cls, dd, data, sl⟩, ho, hc, n, hd⟩, hs⟩ := I.tuple hT
  simp only at hc hd
  subst hc hd
  have hi : its.toArray.isEmpty = false := by
    cases r with
    | nil => exact absurd rfl hne
    | cons _ _ => rfl
  refine wpAny_binaryOp_repeat_ref (T := "tuple") (U := "int") (by decide) ⟨_, ho, rfl⟩ (fun s' => typeIs_int s' 0 t) noFill_tuple_mul F.fills_int_mul F.slot_int_rmul repeat_tuple F.slot_int_index.lookup
    (call_meets F.slot_int_rmul (typeIs_int s 0 t) F.entry_int_rmul (F.args_int_rmul_2 _ _) (int_rmul_tuple 0 t l its.toArray n dd sl)
      ⟨ho, rfl, ⟨_, ho, rfl⟩, call_meets F.slot_tuple_mul ⟨_, ho, rfl⟩ F.entry_tuple_mul (F.args_tuple_mul_2 _ _) (tuple_mul0 l its.toArray n dd sl t hi) ⟨ho, ?_⟩⟩)
  exact ⟨.ref s.heap.objs.size, upd H s.heap.objs.size (.frz (nuT []) (.tup [])), I.laid (fun b u e => Heap.get?_push_of_some _ e) (Nat.le_refl _) (okC (Nat.zero_le _) .nil (Heap.get?_push_size _ rfl)), rfl, q _ _ I.fresh rfl⟩
def oRepZ : F2 := fun x y M Q => match x, y with
  | .d (.tuple xs), .d (.int j) => (xs ≠ [] ∧ 0 ≤ j ∧ j ≤ 1000 ∧ xs.length ≤ 1000) ∧ Q (.tup (List.replicate j.toNat xs).flatten) M
  | _, _ => False
theorem opl_repZ {K : PySem.W.Frag} : OpL K (fun x y H Q => rRep0 K x y H Q ∨ (rRep1 K x y H Q ∨ rRepC K x y H Q)) oRepZ := by
  intro x y t u M B H Q Q' h w rx ry k
  unfold oRepZ at h
  split at h
  · rename_i xs j
    obtain ⟨⟨h0, h1, h2, h3⟩, q⟩ := h
    by_cases c : j = 0
    · subst c
      cases rx with
      | tup e1 q1 =>
        cases ry
        refine .inl ⟨_, _, rfl, rfl, SqT.mono w.le e1, ?_, fun p o hp ho => ?_⟩
        · intro z
          subst z
          cases q1
          exact h0 rfl
        · obtain ⟨w', x'⟩ := w.alloc hp (.frz o (.tup []))
          have e : (List.replicate (0 : Int).toNat xs).flatten = [] := by simp
          rw [e] at q
          exact k _ _ M _ _ q w' x' (.tup (.inl ⟨o, upd_same, ho⟩) .nil)
    · exact .inr (opl_repA x y (.d (.tuple xs)) (.d (.int j)) M B H Q Q' ⟨⟨h0, by omega, h2, h3⟩, q⟩ w rx ry k)
  · exact h.elim
theorem me_repZ {X : Cx} {a b : Expr} {ma mb : Me} {pos : Pos} (ha : ME X a ma) (hb : ME X b mb) : ME X (.BinOp a .Mult b pos) (mOp oRepZ ma mb) := me_op (OpR.or op_rep0 (OpR.or op_rep1 op_repC)) opl_repZ ha hb
@[simp] theorem x_repZ {xs : List PyData} {j : Int} {M : Mem} {Q : Kt} : oRepZ (.d (.tuple xs)) (.d (.int j)) M Q = ((xs ≠ [] ∧ 0 ≤ j ∧ j ≤ 1000 ∧ xs.length ≤ 1000) ∧ Q (.tup (List.replicate j.toNat xs).flatten) M) := rfl
end L3

set_option Elab.async false
set_option linter.all false
set_option maxRecDepth 100000
namespace L3
open PySem PySem.Spec L2

/-! ### what is never reached -/
def mDead : Ms := fun _ _ _ => False
theorem ms_dead {X : Cx} {st : Stmt} : MS X st mDead := ⟨fun _ _ _ _ _ _ ⟨_, _, _, _, h, _⟩ => h.elim⟩
@[simp] theorem x_dead {E : Es} {τ : En} {M : Mem} : mDead E τ M = False := rfl

/-! ### constants of the module -/
theorem me_gl {X : Cx} {x : Str} {pos : Pos} {d : PyData} (hg : Gl X x) (h : ∃ u v, X.mg x = some u ∧ RelV v u ∧ ∀ G, Rp X.K G v d) (hdb : (x == ("__debug__" : Str)) = false := by decide) : ME X (.Name x pos) (mC d) := by
  obtain ⟨u, v, h1, h2, h3⟩ := h
  exact PE.of (pe_glob hg h1 h2 hdb) fun σ H Q' ⟨τ, M, B, Q, q, w, s, k⟩ => k v (.d d) M B H q w (.refl _ _) (h3 _)

/-! ### isinstance of built-in types -/
def tyN : PyData → Option String
  | .none => some "NoneType"
  | .bool _ => some "bool"
  | .int _ => some "int"
  | .str _ => some "str"
  | .list _ => some "list"
  | .tuple _ => some "tuple"
  | _ => none
def mIsi (T0 : String) (m : Me) : Me := fun τ M Q => m τ M fun t M1 => match t with
  | .d x => ∃ a r, tyN x = some a ∧ kitB a T0 = some r ∧ Q (.bl r) M1
  | _ => False
theorem tyX_of {K : PySem.W.Frag} {G H : Hp} (le : ∀ a o, G a = some o → H a = some o) {v : V} {x : PyData} {a : String} (r : Rp K G v x) (e : tyN x = some a) : TyX K H v (.type a) := by
  cases r with
  | non => cases e; exact .base .non
  | bl b => cases e; exact .base (.bl b)
  | int i => cases e; exact .base (.int i)
  | str s => cases e; exact .base (.str s)
  | lst g _ => cases e; exact .base (.lst (le _ _ g))
  | tup g _ =>
    cases e
    rcases g with ⟨o, g, _⟩ | ⟨o, its, n, g1, g2, _⟩
    · exact .fTuple (le _ _ g)
    · exact .kTuple g1 g2
theorem me_isi {X : Cx} {e : Expr} {ty : Str} {T0 : String} {p p2 pos : Pos} {m : Me} (hg : Gl X "isinstance") (hm : X.mg "isinstance" = none) (hg2 : Gl X ty) (hm2 : X.mg ty = none) (hb2 : bootBuiltins ty = some (.type T0)) (ha : ME X e m) (hn2 : ty ≠ "__name__" := by decide) (hd2 : (ty == ("__debug__" : Str)) = false := by decide)
    (hs1 : starEach [e, .Name ty p2] X.env = (false, eval e X.env) :: starEach [.Name ty p2] X.env := by rfl) (hs2 : starEach [.Name ty p2] X.env = (false, eval (.Name ty p2) X.env) :: starEach [] X.env := by rfl) (hpl : (backTo pos (starEach [.Name ty p2] X.env)).any (·.1) = false := by rfl) :
    ME X (.Call (.Name "isinstance" p) [e, .Name ty p2] [] pos) (mIsi T0 m) := by
  refine PE.of (pe_callB call_isi hg hm (by decide +kernel) (pa_cons ha (pa_cons (pe_bltn (v := V.ty T0) hg2 hm2 hb2 rfl hn2 hd2) pa_nil hs2) hs1) (by decide) (by decide) hs1 hpl) fun σ H Q' ⟨τ, M, B, Q, h, w, s, k⟩ => ?_
  refine ⟨τ, M, B, _, h, w, s, fun v t M1 B1 H1 h1 w1 e1 r1 => ?_⟩
  split at h1
  · rename_i x
    obtain ⟨a, r, h2, h3, h4⟩ := h1
    refine ⟨v, V.ty T0, .type a, .type T0, r, rfl, .ty T0, tyX_of w1.le r1 h2, kit_ty h3, ?_⟩
    exact k _ _ M1 B1 H1 h4 w1 e1 (.bl r)
  · exact h1.elim
@[simp] theorem x_isi {T0 : String} {m : Me} {τ : En} {M : Mem} {Q : Kt} : mIsi T0 m τ M Q = m τ M fun t M1 => match t with
  | .d x => ∃ a r, tyN x = some a ∧ kitB a T0 = some r ∧ Q (.bl r) M1
  | _ => False := rfl

/-! ### texts -/
def strsOf : List PyData → Option (List Str)
  | [] => some []
  | .str s :: r => (strsOf r).map (s :: ·)
  | _ => none
theorem strsOf_eq : ∀ {ds : List PyData} {ss : List Str}, strsOf ds = some ss → ds = ss.map .str
  | [], ss, e => by cases e; rfl
  | .str s :: r, ss, e => by
    cases h : strsOf r with
    | none => simp [strsOf, h] at e
    | some q =>
      simp [strsOf, h] at e
      rw [← e, strsOf_eq h]
      rfl
  | .none :: _, _, e => by cases e
  | .bool _ :: _, _, e => by cases e
  | .int _ :: _, _, e => by cases e
  | .list _ :: _, _, e => by cases e
  | .tuple _ :: _, _, e => by cases e
  | .dict _ :: _, _, e => by cases e
theorem strsOf_map : ∀ ss : List Str, strsOf (ss.map .str) = some ss
  | [] => rfl
  | s :: r => by
    show (strsOf (r.map .str)).map (s :: ·) = _
    rw [strsOf_map r]
    rfl
theorem rpa_strs {K : PySem.W.Frag} {G : Hp} : ∀ ss : List Str, RpA K G (ss.map V.str) (ss.map .str)
  | [] => .nil
  | s :: r => .cons (.str s) (rpa_strs r)
theorem rpa_strs' {K : PySem.W.Frag} {G : Hp} : ∀ {ss : List Str} {vs : List V}, RpA K G vs (ss.map .str) → vs = ss.map V.str
  | [], _, .nil => rfl
  | _ :: _, _, .cons p q => by
    cases p
    rw [rpa_strs' q]
    rfl
def MeS (K : PySem.W.Frag) (r : V → List V → Hp → VK → Prop) (f : Str → FA) : Prop := ∀ a xs ts M B H Q Q', f a ts M Q → Wd K B M H → Paired (Rt K B) xs ts →
  (∀ v t' M' B' H', Q t' M' → Wd K B' M' H' → Ext B H B' H' → Rt K B' v t' → Q' v H') → r (.str a) xs H Q'
def mSm (f : Str → FA) (o : Me) (r : Ma) : Me := fun τ M Q => o τ M fun x M1 => match x with
  | .d (.str a) => r τ M1 fun ts M2 => f a ts M2 Q
  | _ => False
section
variable {X : Cx} {o e : Expr} {es : List Expr} {mo m : Me} {mr : Ma} {name : Str} {id : String} {apos cpos : Pos} {r : V → List V → Hp → VK → Prop} {f : Str → FA}
theorem me_sm (slot : Slot "str" name id) (hty : typeOf (.builtin id) = pure (.type "method_descriptor")) (hm : MtR X id r) (hl : MeS X.K r f) (ho : ME X o mo) (ha : MA X (e :: es) mr)
    (hbase : attributeBase o name X.env (eval o X.env) = eval o X.env := by rfl)
    (hfew : ((backTo cpos (starEach (e :: es) X.env)).all (fun x => !x.1) && (backToKw cpos (keywordEach [] X.env)).all (fun x => x.1.isSome) && decide ((e :: es).length + ([] : List Keyword).length + (if ([] : List Keyword).isEmpty then 0 else 1) < 30)) = true := by rfl)
    (hline : (apos.endLine == cpos.line) = true := by rfl) (hs : starEach (e :: es) X.env = (false, eval e X.env) :: starEach es X.env := by rfl) (hplain : (backTo cpos (starEach es X.env)).any (·.1) = false := by rfl) :
    ME X (.Call (.Attribute o name apos) (e :: es) [] cpos) (mSm f mo mr) := by
  refine PE.of (pe_bm PySem.F.plainAttrs_str slot hty hm ho ha hbase hfew hline hs hplain) fun σ H Q' ⟨τ, M, B, Q, h, w, s, k⟩ => ?_
  refine ⟨τ, M, B, _, h, w, s, fun v t M1 B1 H1 h1 w1 e1 r1 => ?_⟩
  split at h1
  · rename_i a
    cases (show Rp X.K B1.G v (.str a) from r1)
    refine ⟨rfl, τ, M1, B1, _, h1, w1, s.mono e1, fun vs ts M2 B2 H2 h2 w2 e2 r2 => ?_⟩
    exact hl a vs ts M2 B2 H2 Q Q' h2 w2 r2 fun v t M3 B3 H3 h3 w3 e3 => k v t M3 B3 H3 h3 w3 (e1.trans (e2.trans e3))
  · exact h1.elim
end
def fSplit (a : Str) : FA := fun ts M Q => match ts with
  | [.d (.str b)] => ((b.length == 0) = false ∧ a.length + 2 ≤ sizeLine) ∧ Q (.lst ((Txt.split a b).map .str)) M
  | _ => False
def fPart (a : Str) : FA := fun ts M Q => match ts with
  | [.d (.str b)] => ((b.length == 0) = false ∧ a.length ≤ sizeLine) ∧ Q (.wt [.str (Txt.partition a b).1, .str (Txt.partition a b).2.1, .str (Txt.partition a b).2.2]) M
  | _ => False
def fStarts (a : Str) : FA := fun ts M Q => match ts with
  | [.d (.str b)] => Q (.bl (Txt.startswith a b)) M
  | _ => False
def fJoin (a : Str) : FA := fun ts M Q => match ts with
  | [.d (.list ds)] => (match strsOf ds with
    | some ys => (ys.map (·.length)).sum + ys.length * a.length ≤ 16777216 ∧ Q (.str (Txt.join a ys)) M
    | none => False)
  | _ => False
section
variable {X : Cx} {o x : Expr} {mo : Me} {mr : Ma} {apos cpos : Pos}
theorem me_split (ho : ME X o mo) (ha : MA X [x] mr) (hbase : attributeBase o "split" X.env (eval o X.env) = eval o X.env := by rfl)
    (hfew : ((backTo cpos (starEach [x] X.env)).all (fun x => !x.1) && (backToKw cpos (keywordEach [] X.env)).all (fun x => x.1.isSome) && decide (([x] : List Expr).length + ([] : List Keyword).length + (if ([] : List Keyword).isEmpty then 0 else 1) < 30)) = true := by rfl)
    (hline : (apos.endLine == cpos.line) = true := by rfl) (hs : starEach [x] X.env = (false, eval x X.env) :: starEach [] X.env := by rfl) : ME X (.Call (.Attribute o "split" apos) [x] [] cpos) (mSm fSplit mo mr) :=
  me_sm PySem.F.slot_str_split PySem.F.type_str_split mt_split (fun a xs ts M B H Q Q' h w r k => by
    unfold fSplit at h
    split at h
    · obtain ⟨v, rfl, r1⟩ := paired_one r
      rename_i b
      cases (show Rp X.K B.G v (.str b) from r1)
      refine ⟨a, b, rfl, rfl, h.1.1, h.1.2, fun p hp => ?_⟩
      obtain ⟨w4, e4⟩ := w.alloc hp (.lst ((Txt.split a b).map V.str))
      exact k _ _ M _ _ h.2 w4 e4 (.lst upd_same (rpa_strs _))
    · exact h.elim) ho ha hbase hfew hline hs rfl
theorem me_part (ho : ME X o mo) (ha : MA X [x] mr) (hbase : attributeBase o "partition" X.env (eval o X.env) = eval o X.env := by rfl)
    (hfew : ((backTo cpos (starEach [x] X.env)).all (fun x => !x.1) && (backToKw cpos (keywordEach [] X.env)).all (fun x => x.1.isSome) && decide (([x] : List Expr).length + ([] : List Keyword).length + (if ([] : List Keyword).isEmpty then 0 else 1) < 30)) = true := by rfl)
    (hline : (apos.endLine == cpos.line) = true := by rfl) (hs : starEach [x] X.env = (false, eval x X.env) :: starEach [] X.env := by rfl) : ME X (.Call (.Attribute o "partition" apos) [x] [] cpos) (mSm fPart mo mr) :=
  me_sm PySem.F.slot_str_partition PySem.F.type_str_partition mt_partition (fun a xs ts M B H Q Q' h w r k => by
    unfold fPart at h
    split at h
    · obtain ⟨v, rfl, r1⟩ := paired_one r
      rename_i b
      cases (show Rp X.K B.G v (.str b) from r1)
      refine ⟨a, b, rfl, rfl, h.1.1, h.1.2, fun p hp => ?_⟩
      obtain ⟨w4, e4⟩ := w.alloc hp (.tup [.str (Txt.partition a b).1, .str (Txt.partition a b).2.1, .str (Txt.partition a b).2.2])
      exact k _ _ M _ _ h.2 w4 e4 ⟨_, _, rfl, .inl (.inl upd_same), .cons (.str _) (.cons (.str _) (.cons (.str _) .nil))⟩
    · exact h.elim) ho ha hbase hfew hline hs rfl
theorem me_starts (ho : ME X o mo) (ha : MA X [x] mr) (hbase : attributeBase o "startswith" X.env (eval o X.env) = eval o X.env := by rfl)
    (hfew : ((backTo cpos (starEach [x] X.env)).all (fun x => !x.1) && (backToKw cpos (keywordEach [] X.env)).all (fun x => x.1.isSome) && decide (([x] : List Expr).length + ([] : List Keyword).length + (if ([] : List Keyword).isEmpty then 0 else 1) < 30)) = true := by rfl)
    (hline : (apos.endLine == cpos.line) = true := by rfl) (hs : starEach [x] X.env = (false, eval x X.env) :: starEach [] X.env := by rfl) : ME X (.Call (.Attribute o "startswith" apos) [x] [] cpos) (mSm fStarts mo mr) :=
  me_sm PySem.F.slot_str_startswith PySem.F.type_str_startswith mt_startswith (fun a xs ts M B H Q Q' h w r k => by
    unfold fStarts at h
    split at h
    · obtain ⟨v, rfl, r1⟩ := paired_one r
      rename_i b
      cases (show Rp X.K B.G v (.str b) from r1)
      exact ⟨a, b, rfl, rfl, k _ _ M _ _ h w (.refl _ _) (.bl _)⟩
    · exact h.elim) ho ha hbase hfew hline hs rfl
theorem me_join (ho : ME X o mo) (ha : MA X [x] mr) (hbase : attributeBase o "join" X.env (eval o X.env) = eval o X.env := by rfl)
    (hfew : ((backTo cpos (starEach [x] X.env)).all (fun x => !x.1) && (backToKw cpos (keywordEach [] X.env)).all (fun x => x.1.isSome) && decide (([x] : List Expr).length + ([] : List Keyword).length + (if ([] : List Keyword).isEmpty then 0 else 1) < 30)) = true := by rfl)
    (hline : (apos.endLine == cpos.line) = true := by rfl) (hs : starEach [x] X.env = (false, eval x X.env) :: starEach [] X.env := by rfl) : ME X (.Call (.Attribute o "join" apos) [x] [] cpos) (mSm fJoin mo mr) :=
  me_sm PySem.F.slot_str_join PySem.F.type_str_join mt_join (fun a xs ts M B H Q Q' h w r k => by
    unfold fJoin at h
    split at h
    · obtain ⟨v, rfl, r1⟩ := paired_one r
      split at h
      · rename_i ds ys e
        have e2 := strsOf_eq e
        subst e2
        cases (show Rp X.K B.G v (.list _) from r1) with
        | lst g q =>
          rw [rpa_strs' q] at g
          exact ⟨a, _, ys, rfl, rfl, .inl (.of (w.le _ _ g)), h.1, k _ _ M _ _ h.2 w (.refl _ _) (.str _)⟩
      · exact h.elim
    · exact h.elim) ho ha hbase hfew hline hs rfl
end
@[simp] theorem x_sm {f : Str → FA} {o : Me} {r : Ma} {τ : En} {M : Mem} {Q : Kt} : mSm f o r τ M Q = o τ M fun x M1 => match x with
  | .d (.str a) => r τ M1 fun ts M2 => f a ts M2 Q
  | _ => False := rfl
/-- str(i) -/
def fStr : FA := fun ts M Q => match ts with
  | [.d (.int i)] => i.natAbs.log2 < 1920 ∧ Q (.str (toString i)) M
  | _ => False
theorem cal_str {K : PySem.W.Frag} : CaL K (fun xs H Q => ∃ i, xs = [V.int i] ∧ i.natAbs.log2 < 1920 ∧ Q (.str (toString i)) H) fStr := by
  intro xs ts M B H Q Q' h w r k
  unfold fStr at h
  split at h
  · obtain ⟨v, rfl, r1⟩ := paired_one r
    rename_i i
    cases (show Rp K B.G v (.int i) from r1)
    exact ⟨i, rfl, h.1, k _ _ M B H h.2 w (.refl _ _) (.str _)⟩
  · exact h.elim
/-- int(s) -/
def fIntS : FA := fun ts M Q => match ts with
  | [.d (.str a)] => ∃ n, intText? a = some n ∧ a.length ≤ 640 ∧ Q (.int n) M
  | _ => False
theorem cal_intS {K : PySem.W.Frag} : CaL K (fun xs H Q => ∃ a n, xs = [V.str a] ∧ intText? a = some n ∧ a.length ≤ 640 ∧ Q (.int n) H) fIntS := by
  intro xs ts M B H Q Q' h w r k
  unfold fIntS at h
  split at h
  · obtain ⟨v, rfl, r1⟩ := paired_one r
    rename_i a
    cases (show Rp K B.G v (.str a) from r1)
    obtain ⟨n, h1, h2, h3⟩ := h
    exact ⟨a, n, rfl, h1, h2, k _ _ M B H h3 w (.refl _ _) (.int _)⟩
  · exact h.elim
/-- all(a list of bools) -/
def boolsOf : List PyData → Option (List Bool)
  | [] => some []
  | .bool b :: r => (boolsOf r).map (b :: ·)
  | _ => none
theorem boolsOf_map : ∀ bs : List Bool, boolsOf (bs.map .bool) = some bs
  | [] => rfl
  | s :: r => by
    show (boolsOf (r.map .bool)).map (s :: ·) = _
    rw [boolsOf_map r]
    rfl
theorem rpa_bools {K : PySem.W.Frag} {G : Hp} : ∀ {ds : List PyData} {bs : List Bool} {vs : List V}, boolsOf ds = some bs → RpA K G vs ds → vs = bs.map V.bl
  | [], bs, _, e, .nil => by cases e; rfl
  | .bool b :: r, bs, _, e, .cons p q => by
    cases h : boolsOf r with
    | none => simp [boolsOf, h] at e
    | some l =>
      simp [boolsOf, h] at e
      cases p
      rw [rpa_bools h q, ← e]
      rfl
  | .none :: _, _, _, e, _ => by cases e
  | .str _ :: _, _, _, e, _ => by cases e
  | .int _ :: _, _, _, e, _ => by cases e
  | .list _ :: _, _, _, e, _ => by cases e
  | .tuple _ :: _, _, _, e, _ => by cases e
  | .dict _ :: _, _, _, e, _ => by cases e
def fAll : FA := fun ts M Q => match ts with
  | [.d (.list ds)] => (match boolsOf ds with
    | some bs => Q (.bl (bs.all id)) M
    | none => False)
  | _ => False
theorem cal_all {K : PySem.W.Frag} : CaL K (rAll K) fAll := by
  intro xs ts M B H Q Q' h w r k
  unfold fAll at h
  split at h
  · obtain ⟨v, rfl, r1⟩ := paired_one r
    split at h
    · rename_i ds _ bs e
      cases (show Rp K B.G v (.list ds) from r1) with
      | lst g q =>
        rw [rpa_bools e q] at g
        exact ⟨_, bs, rfl, .of (w.le _ _ g), k _ _ M B H h w (.refl _ _) (.bl _)⟩
    · exact h.elim
  · exact h.elim
section
variable {X : Cx} {e : Expr} {es : List Expr} {mr : Ma} {p pos : Pos}
theorem me_strI (hg : Gl X "str") (hm : X.mg "str" = none) (ha : MA X (e :: es) mr) (he : starEach (e :: es) X.env = (false, eval e X.env) :: starEach es X.env := by rfl) (hpl : (backTo pos (starEach es X.env)).any (·.1) = false := by rfl) : ME X (.Call (.Name "str" p) (e :: es) [] pos) (mCall fStr mr) := me_callTy call_str_int cal_str hg hm (by decide +kernel) ha (by decide) (by decide) he hpl
theorem me_intS (hg : Gl X "int") (hm : X.mg "int" = none) (ha : MA X (e :: es) mr) (he : starEach (e :: es) X.env = (false, eval e X.env) :: starEach es X.env := by rfl) (hpl : (backTo pos (starEach es X.env)).any (·.1) = false := by rfl) : ME X (.Call (.Name "int" p) (e :: es) [] pos) (mCall fIntS mr) := me_callTy call_int_str cal_intS hg hm (by decide +kernel) ha (by decide) (by decide) he hpl
theorem me_all (hc : X.calm = true) (hg : Gl X "all") (hm : X.mg "all" = none) (ha : MA X (e :: es) mr) (he : starEach (e :: es) X.env = (false, eval e X.env) :: starEach es X.env := by rfl) (hpl : (backTo pos (starEach es X.env)).any (·.1) = false := by rfl) : ME X (.Call (.Name "all" p) (e :: es) [] pos) (mCall fAll mr) := me_callB (cr_all hc) cal_all hg hm (by decide +kernel) ha (by decide) (by decide) he hpl
end
end L3

set_option Elab.async false
set_option linter.all false
set_option maxRecDepth 100000
namespace L3
open PySem PySem.Spec L2

/-! ### in, not in -/
theorem rpa_ints' {K : PySem.W.Frag} {G : Hp} : ∀ {is : List Int} {vs : List V}, RpA K G vs (is.map .int) → vs = is.map V.int
  | [], _, .nil => rfl
  | _ :: _, _, .cons p q => by
    cases p
    rw [rpa_ints' q]
    rfl
def oIn (n : Bool) : F2 := fun x y M Q => match x, y with
  | .d (.str a), .d (.str b) => ∃ c, a = ⟨#[c]⟩ ∧ Q (.bl (if n then !decide (c ∈ b.cps.toList) else decide (c ∈ b.cps.toList))) M
  | .d (.int i), .d (.tuple ds) => ∃ is, intsOf ds = some is ∧ Q (.bl (if n then !is.any (· == i) else is.any (· == i))) M
  | _, _ => match now x M, now y M with
    | some a, some (.list ds) => (SeqAt.shaped a = true ∧ SeqAt.shaped (.list ds) = true) ∧ Q (.bl (if n then !ds.any (fun z => PyData.eqv z a) else ds.any (fun z => PyData.eqv z a))) M
    | _, _ => False
def rIns (K : PySem.W.Frag) : R2 := fun x y H Q => (∃ (c : Nat) (z : Str), x = .str ⟨#[c]⟩ ∧ y = .str z ∧ Q (.bl (decide (c ∈ z.cps.toList))) H) ∨ (L2.rIn K false x y H Q ∨ rInD K x y H Q)
def rNotIns (K : PySem.W.Frag) : R2 := fun x y H Q => (∃ (c : Nat) (z : Str), x = .str ⟨#[c]⟩ ∧ y = .str z ∧ Q (.bl (!decide (c ∈ z.cps.toList))) H) ∨ (L2.rIn K true x y H Q ∨ rNotInD K x y H Q)
theorem inV_ints {i : Int} : ∀ is : List Int, inV (.int i) (is.map V.int) = is.any (· == i)
  | [] => rfl
  | s :: r => by
    have := inV_ints (i := i) r
    unfold inV at this ⊢
    rw [List.map_cons, List.any_cons, List.any_cons, this]
    rfl
theorem flat_ints : ∀ is : List Int, (is.map V.int).all flatV = true
  | [] => rfl
  | s :: r => by
    rw [List.map_cons, List.all_cons, flat_ints r]
    rfl
theorem opl_in {K : PySem.W.Frag} : OpL K (rIns K) (oIn false) := by
  intro x y t u M B H Q Q' h w rx ry k
  unfold oIn at h
  split at h
  · cases rx
    cases ry
    obtain ⟨c, rfl, q⟩ := h
    exact .inl ⟨c, _, rfl, rfl, k _ _ M B H q w (.refl _ _) (.bl _)⟩
  · cases rx
    obtain ⟨is, e, q⟩ := h
    cases intsOf_eq e
    cases ry with
    | tup g r =>
      cases rpa_ints' r
      exact .inr (.inl ⟨_, _, rfl, .inr (SqT.mono w.le g), rfl, flat_ints is, by
        rw [if_neg Bool.false_ne_true, inV_ints]
        exact k _ _ M B H q w (.refl _ _) (.bl _)⟩)
  · split at h
    · rename_i a ds e1 e2
      exact .inr (.inr ⟨a, ds, w.dpNow rx e1, w.dpNow ry e2, h.1.1, h.1.2, k _ _ M B H h.2 w (.refl _ _) (.bl _)⟩)
    · exact h.elim
theorem opl_notIn {K : PySem.W.Frag} : OpL K (rNotIns K) (oIn true) := by
  intro x y t u M B H Q Q' h w rx ry k
  unfold oIn at h
  split at h
  · cases rx
    cases ry
    obtain ⟨c, rfl, q⟩ := h
    exact .inl ⟨c, _, rfl, rfl, k _ _ M B H q w (.refl _ _) (.bl _)⟩
  · cases rx
    obtain ⟨is, e, q⟩ := h
    cases intsOf_eq e
    cases ry with
    | tup g r =>
      cases rpa_ints' r
      exact .inr (.inl ⟨_, _, rfl, .inr (SqT.mono w.le g), rfl, flat_ints is, by
        rw [if_pos rfl, inV_ints]
        exact k _ _ M B H q w (.refl _ _) (.bl _)⟩)
  · split at h
    · rename_i a ds e1 e2
      exact .inr (.inr ⟨a, ds, w.dpNow rx e1, w.dpNow ry e2, h.1.1, h.1.2, k _ _ M B H h.2 w (.refl _ _) (.bl _)⟩)
    · exact h.elim
theorem opr_ins {X : Cx} (hu : X.A.units + 65 < cLine) : OpR X (compareOp .In) (rIns X.K) := op_in_sign.or (op_in_seq.or (op_inD hu))
theorem opr_notIns {X : Cx} (hu : X.A.units + 65 < cLine) : OpR X (compareOp .NotIn) (rNotIns X.K) := op_notIn_sign.or (op_notIn_seq.or (op_notInD hu))
theorem un65 {k : Nat} {A : Around} (rm : Room k A) : A.units + 65 < cLine := by
  have := rm.un
  omega
section
variable {X : Cx} {a b : Expr} {ma mb : Me} {pos : Pos}
theorem me_in {k : Nat} (rm : Room k X.A) (ha : ME X a ma) (hb : ME X b mb) (hm : behindInMarks .In b = false := by with_unfolding_all rfl) : ME X (.Compare a [.In] [b] pos) (mOp (oIn false) ma mb) := me_cmp (opr_ins (un65 rm)) opl_in ha hb hm
theorem me_notIn {k : Nat} (rm : Room k X.A) (ha : ME X a ma) (hb : ME X b mb) (hm : behindInMarks .NotIn b = false := by with_unfolding_all rfl) : ME X (.Compare a [.NotIn] [b] pos) (mOp (oIn true) ma mb) := me_cmp (opr_notIns (un65 rm)) opl_notIn ha hb hm
theorem mb_in {k : Nat} (rm : Room k X.A) (ha : ME X a ma) (hb : ME X b mb) (hm : behindInMarks .In b = false := by with_unfolding_all rfl) : MB X (.Compare a [.In] [b] pos) (mTest (mOp (oIn false) ma mb)) := mb_cmp (opr_ins (un65 rm)) opl_in ha hb hm
theorem mb_notIn {k : Nat} (rm : Room k X.A) (ha : ME X a ma) (hb : ME X b mb) (hm : behindInMarks .NotIn b = false := by with_unfolding_all rfl) : MB X (.Compare a [.NotIn] [b] pos) (mTest (mOp (oIn true) ma mb)) := mb_cmp (opr_notIns (un65 rm)) opl_notIn ha hb hm

/-! ### a sign of a text -/
def oIxS : F2 := fun x y M Q => match x, y with
  | .d (.str z), .d (.int i) => z.length ≤ sizeLine ∧ ∃ c, atI z.cps.toList i = some c ∧ Q (.str ⟨#[c]⟩) M
  | _, _ => False
theorem opl_ixS {K : PySem.W.Frag} : OpL K rIxS oIxS := by
  intro x y t u M B H Q Q' h w rx ry k
  unfold oIxS at h
  split at h
  · cases rx
    cases ry
    obtain ⟨hz, c, h1, h2⟩ := h
    exact ⟨_, _, c, rfl, rfl, hz, h1, k _ _ M B H h2 w (.refl _ _) (.str _)⟩
  · exact h.elim
theorem me_ixS (ha : ME X a ma) (hb : ME X b mb) (hs : PlainIx b) : ME X (.Subscript a b pos) (mOp oIxS ma mb) := PE.of (pe_ix ix_str ha hb hs) fun _ _ _ h => two opl_ixS h
end

/-! ### f-strings -/
def mFmt (m : Me) : Me := fun τ M Q => m τ M fun t M1 => match t with
  | .d (.str y) => y.length ≤ sizeLine ∧ Q (.str y) M1
  | .d (.int i) => i.natAbs.log2 < 1920 ∧ Q (.str (toString i)) M1
  | _ => False
theorem me_fmt {X : Cx} {e : Expr} {m : Me} {pos : Pos} (h : ME X e m) : ME X (.FormattedValue e (-1) none pos) (mFmt m) :=
  PE.of (pe_fmt h) fun σ H Q' ⟨τ, M, B, Q, h, w, s, k⟩ => by
    refine ⟨τ, M, B, _, h, w, s, fun v t M1 B1 H1 h1 w1 e1 r1 => ?_⟩
    split at h1
    · cases r1
      exact .inl ⟨_, rfl, h1.1, k _ _ M1 B1 H1 h1.2 w1 e1 (.str _)⟩
    · cases r1
      exact .inr ⟨_, rfl, h1.1, k _ _ M1 B1 H1 h1.2 w1 e1 (.str _)⟩
    · exact h1.elim
inductive MJ (X : Cx) : List Expr → List Me → Prop where
  | nil : MJ X [] []
  | cons {e : Expr} {m : Me} {es : List Expr} {ms : List Me} (h : ME X e m) (r : MJ X es ms) : MJ X (e :: es) (m :: ms)
def mJs : List Me → Str → En → Mem → (Str → Mem → Prop) → Prop
  | [], acc, _, M, Q => Q acc M
  | m :: ms, acc, τ, M, Q => m τ M fun t M1 => ∃ y, t = .str y ∧ (acc ++ y).length ≤ sizeLine ∧ mJs ms (acc ++ y) τ M1 Q
theorem mj_pj {X : Cx} {es : List Expr} {ms : List Me} (h : MJ X es ms) : PJ X es (ms.map (rE X.K)) := by
  induction h with
  | nil => exact .nil
  | cons h _ ih => exact .cons h ih
theorem js_of {K : PySem.W.Frag} : ∀ (ms : List Me) (acc : Str) (σ : L2.St) (H : Hp) (Q' : Str → Hp → Prop) (τ : En) (M : Mem) (B : Bk) (Q : Str → Mem → Prop), mJs ms acc τ M Q → Wd K B M H → Sl K B σ τ →
    (∀ out M' B' H', Q out M' → Wd K B' M' H' → Ext B H B' H' → Q' out H') → tJs (ms.map (rE K)) acc σ H Q'
  | [], acc, σ, H, Q', τ, M, B, Q, h, w, s, k => k _ M B H h w (.refl _ _)
  | m :: ms, acc, σ, H, Q', τ, M, B, Q, h, w, s, k => by
    refine ⟨τ, M, B, _, h, w, s, fun v t M1 B1 H1 h1 w1 e1 r1 => ?_⟩
    obtain ⟨y, rfl, h2, h3⟩ := h1
    cases (show Rp K B1.G v (.str y) from r1)
    exact ⟨y, rfl, h2, js_of ms _ σ H1 Q' τ M1 B1 Q h3 w1 (s.mono e1) fun out M2 B2 H2 h4 w2 e2 => k out M2 B2 H2 h4 w2 (e1.trans e2)⟩
def mJoin (ms : List Me) : Me := fun τ M Q => mJs ms Str.empty τ M fun out M1 => Q (.str out) M1
theorem me_joined {X : Cx} {v1 v2 : Expr} {rest : List Expr} {ms : List Me} {pos : Pos} (h : MJ X (v1 :: v2 :: rest) ms) : ME X (.JoinedStr (v1 :: v2 :: rest) pos) (mJoin ms) :=
  PE.of (pe_joined (mj_pj h)) fun σ H Q' ⟨τ, M, B, Q, h, w, s, k⟩ => js_of ms _ σ H _ τ M B _ h w s fun out M1 B1 H1 q w1 e1 => k _ _ M1 B1 H1 q w1 e1 (.str _)

/-! ### a text is walked -/
def iStrW (m : Me) : Mi := fun τ M Q => m τ M fun t M1 => match t with
  | .d (.str x) => Q (x.cps.toList.map fun c => T.d (.str ⟨#[c]⟩)) M1
  | _ => False
theorem mi_str {X : Cx} {tg e : Expr} {m : Me} (he : ME X e m) : MI X tg e (iStrW m) := PI.of (pi_str he) fun σ H R ⟨τ, M, B, Q, h, w, s, k⟩ => by
  refine ⟨τ, M, B, _, h, w, s, fun v t M1 B1 H1 h1 w1 e1 r1 => ?_⟩
  split at h1
  · rename_i x
    cases (show Rp X.K B1.G v (.str x) from r1)
    refine ⟨x, rfl, k _ M1 B1 H1 _ h1 w1 e1 ?_⟩
    unfold WalkT
    have hl : (x.cps.toList.map fun c => T.d (.str ⟨#[c]⟩)).length = x.cps.size := by simp
    rw [hl]
    refine walk_str.mono (fun H g => trivial) fun i H v H' hi g y => .inl ⟨y.1, ?_⟩
    obtain ⟨_, c, e, rfl⟩ := y
    exact ⟨.d (.str ⟨#[c]⟩), by simp [e], Rp.str _⟩
  · exact h1.elim

/-! ### constants of the module, as its top wrote them -/
def GlC (K : PySem.W.Frag) (mg : Str → Option Value) (x : Str) (d : PyData) : Prop := ∃ u v, mg x = some u ∧ RelV v u ∧ ∀ G, Rp K G v d
theorem glc_int {K : PySem.W.Frag} {h : Heap} {mg : Str → Option Value} {x : Str} {i : Int} {t : Tok} (X : K.In h) (G : h.Ns mainGlobals mg) (e : PySem.W.nsIn K mainGlobals x = some (some (.int i t))) : GlC K mg x (.int i) :=
  ⟨_, .int i, PySem.W.mg_of X G e, ⟨t, rfl⟩, fun _ => .int i⟩
theorem glc_str {K : PySem.W.Frag} {h : Heap} {mg : Str → Option Value} {x : Str} {i : Str} {t : Tok} (X : K.In h) (G : h.Ns mainGlobals mg) (e : PySem.W.nsIn K mainGlobals x = some (some (.str i t))) : GlC K mg x (.str i) :=
  ⟨_, .str i, PySem.W.mg_of X G e, ⟨t, rfl⟩, fun _ => .str i⟩
theorem glc_tup {K : PySem.W.Frag} {h : Heap} {mg : Str → Option Value} {x : Str} {is : List Int} {a : Addr} {its : Array Value} {n : Nat} {sl : Array (Option Value)} (X : K.In h) (G : h.Ns mainGlobals mg) (e : PySem.W.nsIn K mainGlobals x = some (some (.ref a)))
    (l : K.lookup a = some ⟨.type "tuple", none, .seq its n, sl⟩) (hz : its.size ≤ sizeLine) (r : Vals (is.map V.int) its.toList) : GlC K mg x (.tuple (is.map .int)) :=
  ⟨_, .ref a, PySem.W.mg_of X G e, rfl, fun _ => .tup (.inr ⟨_, its, n, l, rfl, rfl, rfl, hz, r⟩) (RpA.of_ints is)⟩

/-! ### an own list that changes no more: from here on its variable holds what it tells -/
def mFix (n : Nat) (b : Ms) : Ms := fun E τ M => ∃ i ds, τ[n]? = some (some (.lr i)) ∧ M.L[i]? = some (some ds) ∧ b E (τ.set n (some (.lst ds))) { M with L := M.L.set i none }
theorem mss_fix {X : Cx} {sts : List Stmt} {b : Ms} (n : Nat) (h : MSs X sts b) : MSs X sts (mFix n b) := PSs.of h fun D σ H ⟨E, τ, M, B, ⟨i, ds, h1, h2, h3⟩, w, sl, g⟩ => by
  obtain ⟨v, hv, a, rfl, ha⟩ := sl.at_ n _ h1
  obtain ⟨B', w', e', r'⟩ := w.freeze ha h2
  refine ⟨E, _, _, B', h3, w', ?_, g.ext e'⟩
  have s2 := (sl.mono e').set n (t := .lst ds) r'
  have e : σ.set n (some (.ref a)) = σ := by
    refine List.ext_getElem? fun j => ?_
    by_cases z : n = j
    · subst z
      rw [hv]
      rw [List.getElem?_set_self (List.getElem?_eq_some_iff.mp hv).1]
    · rw [List.getElem?_set_ne z]
  rw [e] at s2
  exact s2
end L3

set_option Elab.async false
set_option linter.all false
set_option maxRecDepth 100000
namespace L3
open PySem PySem.Spec L2

/-! ### insert into an own list -/
theorem RpA.takeN {K : PySem.W.Frag} {G : Hp} : ∀ (n : Nat) {vs : List V} {ds : List PyData}, RpA K G vs ds → RpA K G (vs.take n) (ds.take n)
  | 0, _, _, _ => .nil
  | _ + 1, _, _, .nil => .nil
  | n + 1, _, _, .cons p q => .cons p (RpA.takeN n q)
theorem RpA.dropN {K : PySem.W.Frag} {G : Hp} : ∀ (n : Nat) {vs : List V} {ds : List PyData}, RpA K G vs ds → RpA K G (vs.drop n) (ds.drop n)
  | 0, _, _, q => q
  | _ + 1, _, _, .nil => .nil
  | n + 1, _, _, .cons _ q => RpA.dropN n q
def fIns (x : T) : FA := fun ts M Q => match x, ts with
  | .lr i, [.d (.int j), .d z] => (match M.L[i]? with
    | some (some ds) => (ds.length < sizeLine ∧ 0 ≤ j ∧ j < 2 ^ 63) ∧ Q .non { M with L := M.L.set i (some (ds.take j.toNat ++ [z] ++ ds.drop j.toNat)) }
    | _ => False)
  | _, _ => False
theorem mel_ins {K : PySem.W.Frag} : MeL K (fun x vs H Q => ∃ (l : Addr) (xs : List V) (i : Int) (y : V), x = .ref l ∧ vs = [.int i, y] ∧ H l = some (.lst xs) ∧ xs.length < sizeLine ∧ 0 ≤ i ∧ i < 2 ^ 63 ∧ Q .non (upd H l (.lst (xs.take i.toNat ++ [y] ++ xs.drop i.toNat)))) fIns := by
  intro x xs t ts M B H Q Q' h w rx rs k
  unfold fIns at h
  split at h
  · rename_i i j z
    split at h
    · rename_i ds hL
      obtain ⟨v, u, rfl, r1, r2⟩ := paired_two rs
      cases (show Rp K B.G v (.int j) from r1)
      obtain ⟨a, rfl, ha⟩ := rx
      obtain ⟨_, vs, e, q⟩ := w.lc _ _ _ ha hL
      obtain ⟨⟨h1, h2, h3⟩, hQ⟩ := h
      refine ⟨a, vs, j, u, rfl, rfl, e, by rw [RpA.length q]; exact h1, h2, h3, ?_⟩
      obtain ⟨w2, e2⟩ := w.setL ha hL (RpA.append (RpA.append (RpA.takeN j.toNat q) (.cons r2 .nil)) (RpA.dropN j.toNat q))
      exact k _ _ _ _ _ hQ w2 e2 .non
    · exact h.elim
  · exact h.elim
theorem me_ins {X : Cx} {mo : Me} {mr : Ma} {o x y : Expr} {apos cpos : Pos} (ho : ME X o mo) (ha : MA X [x, y] mr) (hbase : attributeBase o "insert" X.env (eval o X.env) = eval o X.env := by rfl)
    (hfew : ((backTo cpos (starEach [x, y] X.env)).all (fun x => !x.1) && (backToKw cpos (keywordEach [] X.env)).all (fun x => x.1.isSome) && decide (([x, y] : List Expr).length + ([] : List Keyword).length + (if ([] : List Keyword).isEmpty then 0 else 1) < 30)) = true := by rfl)
    (hline : (apos.endLine == cpos.line) = true := by rfl) (hs : starEach [x, y] X.env = (false, eval x X.env) :: starEach [y] X.env := by rfl) (hpl : (backTo cpos (starEach [y] X.env)).any (·.1) = false := by rfl) : ME X (.Call (.Attribute o "insert" apos) [x, y] [] cpos) (mMeth fIns mo mr) :=
  me_lm PySem.F.plainAttrs_list PySem.F.slot_list_insert PySem.F.type_list_insert mt_insert mel_ins ho ha hbase hfew hline hs hpl
@[simp] theorem x_insL {i : Nat} {M : Mem} {Q : Kt} {j : Int} {z : PyData} : fIns (.lr i) [.d (.int j), .d z] M Q = (match M.L[i]? with
    | some (some ds) => (ds.length < sizeLine ∧ 0 ≤ j ∧ j < 2 ^ 63) ∧ Q .non { M with L := M.L.set i (some (ds.take j.toNat ++ [z] ++ ds.drop j.toNat)) }
    | _ => False) := rfl

/-! ### sorted(set(t)) of a tuple of ints -/
def rSetI (K : PySem.W.Frag) (w : World) : List V → Hp → VK → Prop := fun vs H Q => ∃ (p : Addr) (ns : List Int), vs = [.ref p] ∧ SqT K H p (ns.map V.int) ∧ ns.length ≤ 1000 ∧
  ∀ (q : Addr) (c : Nat), H q = none → c ≤ ns.length → Q (.ref q) (upd H q (SetO w q (fun j => decide (j ∈ ns)) c))
theorem cr_setI {X : Cx} (hc : X.calm = true) : CallR X (.type "set") (rSetI X.K X.w) := by
  intro pins s σ H vs us Q I r h
  obtain ⟨p0, ns, rfl, hq, hl, q⟩ := h
  obtain ⟨its, rv, pt, hz⟩ := I.tuple hq
  rw [Vals.ref1 r]
  have hi : PyProof.Rows.IntsAre its.toArray.toList ns := ints_of_vals rv
  refine call_set_tupI ns (I.ok.hd hc) (show s.heap.IsTuple p0 its.toArray from pt) hi (by unfold scanBound; omega) fun h' tk c R1 hcn k => ?_
  exact ⟨.ref _, upd H s.heap.objs.size (SetO X.w s.heap.objs.size (fun j => decide (j ∈ ns)) c), I.laid (t' := tk) k (Nat.le_refl _) (setO_new R1), rfl, q _ c (I.hok.fresh (Nat.le_refl _)) hcn⟩
def mSortSet (m : Me) : Me := fun τ M Q => m τ M fun t M1 => match t with
  | .d (.tuple ds) => ∃ ns, intsOf ds = some ns ∧ ns.length < 64 ∧ ∀ out : List Int, out.Pairwise (· < ·) → (∀ k, k ∈ out ↔ k ∈ ns) → Q (.lst (out.map .int)) M1
  | _ => False
theorem me_sortSet {X : Cx} {e : Expr} {m : Me} {p p2 pos pos2 : Pos} (hc : X.calm = true) (hg : Gl X "sorted") (hm : X.mg "sorted" = none) (hg2 : Gl X "set") (hm2 : X.mg "set" = none) (ha : ME X e m)
    (hs2 : starEach [e] X.env = (false, eval e X.env) :: starEach [] X.env := by rfl) (hpl2 : (backTo pos2 (starEach [] X.env)).any (·.1) = false := by rfl)
    (hs1 : starEach [.Call (.Name "set" p2) [e] [] pos2] X.env = (false, eval (.Call (.Name "set" p2) [e] [] pos2) X.env) :: starEach [] X.env := by rfl) (hpl : (backTo pos (starEach [] X.env)).any (·.1) = false := by rfl) :
    ME X (.Call (.Name "sorted" p) [.Call (.Name "set" p2) [e] [] pos2] [] pos) (mSortSet m) := by
  refine PE.of (pe_callB (cr_sortedSet hc) hg hm (by decide +kernel) (pa_cons (pe_callTy (cr_setI hc) hg2 hm2 (by decide +kernel) (pa_cons ha pa_nil hs2) (by decide) (by decide) hs2 hpl2) pa_nil hs1) (by decide) (by decide) hs1 hpl) fun σ H Q' ⟨τ, M, B, Q, h, w, s, k⟩ => ?_
  refine ⟨τ, M, B, _, h, w, s, fun v t M1 B1 H1 h1 w1 e1 r1 => ?_⟩
  split at h1
  · rename_i ds
    obtain ⟨ns, h2, h3, h4⟩ := h1
    cases intsOf_eq h2
    cases (show Rp X.K B1.G v (.tuple _) from r1) with
    | tup g q =>
      cases rpa_ints q
      refine ⟨_, ns, rfl, SqT.mono w1.le g, by omega, fun q1 c hq1 hcn => ?_⟩
      obtain ⟨w2, e2⟩ := w1.alloc hq1 (SetO X.w q1 (fun j => decide (j ∈ ns)) c)
      refine ⟨q1, _, c, rfl, upd_same, by omega, fun out p3 hs hmem hlen hp3 => ?_⟩
      obtain ⟨w3, e3⟩ := w2.alloc hp3 (.lst (out.map V.int))
      refine k _ _ M1 _ _ (h4 out hs fun k => by rw [hmem]; simp) w3 (e1.trans (e2.trans e3)) (.lst upd_same (RpA.of_ints _))
  · exact h1.elim
end L3

set_option Elab.async false
set_option linter.all false
set_option maxRecDepth 100000
namespace L3
open PySem PySem.Spec L2

/-! ### defs that see the frame's own lists: what is handed over may be an own list -/
def spF (K : PySem.W.Frag) (m : FA) : Sp := fun vs H Q _ => ∃ ts M B Q1, m ts M Q1 ∧ Wd K B M H ∧ Paired (Rt K B) vs ts ∧ ∀ v t M' B' H', Q1 t M' → Wd K B' M' H' → Ext B H B' H' → Rt K B' v t → Q v H'
def mDefF (n N : Nat) (body : Ms) : FA := fun ts M Q => ts.length = n ∧ body { nx := fun _ M' => Q .non M', rt := fun t M' => Q t M' } (ts.map some ++ List.replicate (N - n) none) M
theorem okF_def {P : Program} {w : World} {K : PySem.W.Frag} {mg : Str → Option Value} {base : Heap} {x qual : Str} {st : Stmt} {f : Addr} {fd : FuncData} {N ps : List Str} {k : Nat} {m : Ms}
    (F : Fun K x qual st f fd) (S : FnScope N ps (defScope st))
    (body : ∀ (cdv : Value) (A : Around) (outer : List Env) (sh : Shared) (H : Hp) (E : XK), Gd (A.deeper (PyProof.Rows.envOfC qual (defScope st) sh.heap.objs.size f cdv)) → Room k (A.deeper (PyProof.Rows.envOfC qual (defScope st) sh.heap.objs.size f cdv)) →
      MSs (cxOf CX0 P w K mg base N qual (defScope st) f cdv A outer sh H E).nox (defBody st) m) :
    FnG P w K mg base (k + 1) f fd ps (spF K (mDefF ps.length N.length m)) := by
  refine fng_of F S (fun vs H Q E h => ?_) fun cdv A outer sh H vs Q E gd rm h => ?_
  · obtain ⟨ts, D, B, Q1, ⟨h1, _⟩, _, r, _⟩ := h
    exact (paired_len r).trans h1
  · obtain ⟨ts, M, B, Q1, ⟨h1, h2⟩, wd, r, kk⟩ := h
    refine ⟨_, body cdv A outer sh H E gd rm, ?_⟩
    have s0 := start_sl (N := N) r
    rw [h1] at s0
    refine ⟨_, _, M, B, h2, wd, s0, ⟨fun τ' M' B' σ' H' q w' e' s' => ?_, fun v t M' B' H' q w' e' r' => ?_, fun _ _ _ _ _ q => q.elim, fun _ _ _ _ _ q => q.elim⟩⟩
    · exact kk .non .non M' B' H' q w' e' .non
    · exact kk v t M' B' H' q w' e' r'
def KnF (P : Program) (w : World) (K : PySem.W.Frag) (mg : Str → Option Value) (base : Heap) (k : Nat) (x : Str) (st : Stmt) (ps : List Str) (m : FA) : Prop :=
  ∃ f fd, FnG P w K mg base k f fd ps (spF K m) ∧ mg x = some (.ref f) ∧ Fun K x x st f fd ∧ Binds K fd ps []
theorem me_fnF {X : Cx} {j k : Nat} {x : Str} {st : Stmt} {ps : List Str} {m : FA} {p pos : Pos} {e : Expr} {es : List Expr} {mr : Ma}
    (h : KnF X.prog X.w X.K X.mg X.base j x st ps m) (gd : Gd X.A) (rm : Room k X.A) (hj : j ≤ k) (hg : Gl X x) (ha : MA X (e :: es) mr) (hdb : (x == ("__debug__" : Str)) = false := by decide)
    (he : starEach (e :: es) X.env = (false, eval e X.env) :: starEach es X.env := by rfl) (hpl : (backTo pos (starEach es X.env)).any (·.1) = false := by rfl) : ME X (.Call (.Name x p) (e :: es) [] pos) (mCall m mr) := by
  obtain ⟨f, fd, F, hm, U, hb⟩ := h
  have rm := rm.mono hj
  refine ⟨fun pn sh sg hp Q' iv ⟨τ, M, B, Q, h, w, s, kk⟩ => wpAny_Call_Name_kw (ld_glob iv hg hm ?_ hdb)⟩
  let P := fun (vs : List V) (H1 : Hp) => spF X.K m vs H1 Q' E0
  refine PySem.W.callWith_K (h₀ := X.base) iv.ok.mod.kin U.kp (thn (ha.run pos pn sh sg hp P iv ⟨τ, M, B, _, h, w, s, fun vs ts M1 B1 H1 h1 w1 e1 r1 => ?_⟩) fun us s1 ⟨vs, H1, i1, r, q⟩ => ⟨i1.kIn, ?_⟩) he hpl
  · exact ⟨ts, M1, B1, Q, h1, w1, r1, fun v t M2 B2 H2 h2 w2 e2 r2 => kk v t M2 B2 H2 h2 w2 (e1.trans e2) r2⟩
  · have hl : (us ++ []).length = ps.length := by
      rw [List.append_nil, ← r.length]
      exact F.len _ _ _ _ q
    have hbb := hb s1 us i1.kIn hl
    rw [List.append_nil] at hbb
    exact run_g (args := ⟨us, []⟩) F gd rm hbb i1 r q
theorem x_defF {n N : Nat} {b : Ms} {ts : List T} {M : Mem} {Q : Kt} : mDefF n N b ts M Q = (ts.length = n ∧ b { nx := fun _ M' => Q .non M', rt := fun t M' => Q t M' } (ts.map some ++ List.replicate (N - n) none) M) := rfl
end L3

set_option Elab.async false
set_option linter.all false
set_option maxRecDepth 100000
namespace L3
open PySem PySem.Spec L2 PyProof.Rows
/-! ### sorted of tuples of ints, of any lengths, the first one empty -/
section
variable {prog : Program} {w : World} {A : Around} {s : Shared}
/-- a tuple of ints -/
def TupN (h : Heap) (v : Value) (ns : List Int) : Prop := ∃ a n dd sl items, v = .ref a ∧ h.get? a = some { cls := .type "tuple", dict := dd, data := .seq items n, slots := sl } ∧ IntsAre items.toList ns
theorem TupN.det {h : Heap} {v : Value} {ns ms : List Int} (x : TupN h v ns) (y : TupN h v ms) : ns = ms := by
  obtain ⟨a, n, dd, sl, items, rfl, h1, h2⟩ := x
  obtain ⟨a', n', dd', sl', items', e, h3, h4⟩ := y
  cases e
  rw [h1] at h3
  cases h3
  exact h2.numsOf.symm.trans h4.numsOf
theorem lexLt_asym : ∀ x y : List Int, HT.lexLt x y = true → HT.lexLt y x = false
  | [], [], h => by simp [HT.lexLt] at h
  | [], _ :: _, _ => rfl
  | _ :: _, [], h => by simp [HT.lexLt] at h
  | a :: x, b :: y, h => by
    unfold HT.lexLt at h ⊢
    by_cases e : a = b
    · subst e
      rw [if_pos rfl] at h ⊢
      exact lexLt_asym x y h
    · rw [if_neg e] at h
      rw [if_neg (fun z => e z.symm)]
      simp at h ⊢
      omega
theorem lexLt_tr : ∀ x y z : List Int, HT.lexLt y x = false → HT.lexLt z y = false → HT.lexLt z x = false
  | [], [], [], _, _ => rfl
  | [], [], _ :: _, _, _ => rfl
  | [], _ :: _, [], _, h => by simp [HT.lexLt] at h
  | [], _ :: _, _ :: _, _, _ => rfl
  | _ :: _, [], _, h, _ => by simp [HT.lexLt] at h
  | a :: x, b :: y, [], _, h => by simp [HT.lexLt] at h
  | a :: x, b :: y, c :: z, h, k => by
    unfold HT.lexLt at h k ⊢
    by_cases e1 : b = a
    · subst e1
      rw [if_pos rfl] at h
      by_cases e2 : c = b
      · subst e2
        rw [if_pos rfl] at k ⊢
        exact lexLt_tr x y z h k
      · rw [if_neg e2] at k ⊢
        exact k
    · rw [if_neg e1] at h
      by_cases e2 : c = b
      · subst e2
        rw [if_neg e1]
        exact h
      · rw [if_neg e2] at k
        simp at h k
        have : ¬ c = a := by omega
        rw [if_neg this]
        simp
        omega
theorem swo_N (k : Value → List Int) : SrtO.Swo fun v u => HT.lexLt (k v) (k u) := ⟨fun x y => lexLt_asym _ _, fun x y z => lexLt_tr _ _ _⟩
theorem one_lt {x y : Value} {ns ms : List Int} (hu : A.units < cLine) (hx : TupN s.heap x ns) (hy : TupN s.heap y ms) :
    wpAny (model prog w) A (keyLt' oneType' x y) (fun r s' => s' = s ∧ r = HT.lexLt ns ms) (fun _ _ => False) s := by
  obtain ⟨a, n, dd, sl, items, rfl, h1, h2⟩ := hx
  obtain ⟨b, n', dd', sl', items', rfl, h3, h4⟩ := hy
  rw [keyLt'_oneType, oneLt'_eq]
  refine wpAny_bind (wpAny_cRoomFor hu ?_)
  refine wpAny_bind (wpAny_callSpecialIfBound?_slot (T := "tuple") (id := "tuple.__lt__") ⟨_, h1, rfl⟩ F.slot_tuple_lt ?_)
  refine call_meets F.slot_tuple_lt ⟨_, h1, rfl⟩ F.entry_tuple_lt (F.args_tuple_lt_2 _ _) (HT.tuple_lt_ints a b items items' n n' dd dd' sl sl' ns ms h2 h4) ⟨h1, h3, ?_⟩
  show wpAny (model prog w) A (truthOfDropped (.bool (HT.lexLt ns ms))) _ _ s
  wp_walk
  exact ⟨rfl, rfl⟩
theorem first_tup {E : Value → Shared → Prop} {v : Value} {ns : List Int} {Q : Option Value → Shared → Prop} (h : TupN s.heap v ns) (q : ∀ o : Option Value, (o.isSome = true ↔ ns ≠ []) → Q o s) : wpAny (model prog w) A (firstOfTuple' v) Q E s := by
  obtain ⟨a, n, dd, sl, items, rfl, h1, h2⟩ := h
  rw [PySem.W.kas_first_eq]
  refine wpAny_bind (wpAny_typeOf_ref h1 ?_)
  refine wpAny_ite_false (decide_eq_false (by show ¬ (Value.type "tuple" != Value.type "tuple") = true; decide)) ?_
  refine wpAny_bind (listItems_at h1 rfl ?_)
  refine wpAny_pure (q _ ?_)
  cases h3 : items.toList with
  | nil =>
    rw [h3] at h2
    cases h2
    have : items[0]? = none := by
      have : items.size = 0 := by rw [← Array.length_toList, h3]; rfl
      simp [this]
    rw [this]
    simp
  | cons z r =>
    rw [h3] at h2
    have e : items[0]? = some z := by
      rw [← Array.getElem?_toList, h3]
      rfl
    rw [e]
    cases h2
    simp
theorem mapM_wp {α β : Type} {E : Value → Shared → Prop} {f : α → Sem β} {P : α → β → Prop} : ∀ {vs : List α} {Q : List β → Shared → Prop}, (∀ v ∈ vs, ∀ Q' : β → Shared → Prop, (∀ b, P v b → Q' b s) → wpAny (model prog w) A (f v) Q' E s) → (∀ bs, Paired P vs bs → Q bs s) → wpAny (model prog w) A (vs.mapM f) Q E s
  | [], Q, _, q => by
    rw [List.mapM_nil]
    exact wpAny_pure (q _ .nil)
  | v :: vs, Q, h, q => by
    rw [List.mapM_cons]
    refine wpAny_bind (h v List.mem_cons_self _ fun b hb => ?_)
    refine wpAny_bind (mapM_wp (fun u hu => h u (List.mem_cons_of_mem _ hu)) fun bs hbs => ?_)
    exact wpAny_pure (q _ (.cons hb hbs))
theorem kind_tups {E : Value → Shared → Prop} {v : Value} {vs : List Value} {k : Value → List Int} {Q : SortKind → Shared → Prop} (h : ∀ u ∈ v :: vs, TupN s.heap u (k u)) (h0 : k v = []) (q : Q oneType' s) : wpAny (model prog w) A (keyKind' (v :: vs).toArray) Q E s := by
  rw [keyKind'_eq, Array.mapM_eq_mapM_toList]
  refine wpAny_bind ?_
  refine wpAny_bind (mapM_wp (P := fun u (o : Option Value) => o.isSome = true ↔ k u ≠ []) (fun u hu Q' q' => first_tup (h u hu) q') fun os hos => ?_)
  cases hos with
  | cons h1 h2 =>
    rename_i o os'
    have ho : o = none := by
      cases o with
      | none => rfl
      | some z => exact absurd h0 (h1.mp rfl)
    subst ho
    refine wpAny_pure ?_
    refine wpAny_ite_false (decide_eq_false (by simp)) ?_
    refine wpAny_ite_false (decide_eq_false (by simp)) ?_
    refine wpAny_bind ?_
    rw [oneTypeOnly'_eq, Array.mapM_eq_mapM_toList]
    refine wpAny_bind ?_
    refine wpAny_bind (mapM_wp (P := fun u (t : Value) => t = Value.type "tuple") (fun u hu Q' q' => ?_) fun ts hts => ?_)
    · obtain ⟨a, n, dd, sl, items, rfl, h3, h4⟩ := h u hu
      exact wpAny_typeOf_ref h3 (q' _ rfl)
    · cases hts with
      | cons h3 h4 =>
        rename_i t ts'
        subst h3
        refine wpAny_pure ?_
        have hall : (Value.type "tuple" :: ts').toArray.all (fun x => x == Value.type "tuple") = true := by
          simp only [List.all_toArray, List.all_cons]
          have : ∀ t ∈ ts', t = Value.type "tuple" := by
            clear h1 h2 h0 h
            intro t ht
            induction h4 with
            | nil => cases ht
            | cons a b ih =>
              rcases List.mem_cons.mp ht with z | z
              · rw [z]; exact a
              · exact ih z
          have e : (Value.type "tuple" == Value.type "tuple") = true := by decide
          rw [e, Bool.true_and, List.all_eq_true]
          intro x hx
          rw [this x hx]
          exact e
        refine wpAny_pure ?_
        refine wpAny_pure ?_
        have hall2 : ((Value.type "tuple" :: ts').toArray.all fun x => x == (Value.type "tuple" :: ts').toArray[0]) = true := hall
        rw [if_pos hall2]
        exact q
theorem TupN.keep {h h' : Heap} {v : Value} {ns : List Int} (x : TupN h v ns) (k : ∀ b o, h.get? b = some o → h'.get? b = some o) : TupN h' v ns := by
  obtain ⟨a, n, dd, sl, items, rfl, h1, h2⟩ := x
  exact ⟨a, n, dd, sl, items, rfl, k _ _ h1, h2⟩
theorem sorted_tupsN {E : Value → Shared → Prop} {l : Addr} {v : Value} {vs : List Value} {k : Value → List Int} {Q : Value → Shared → Prop} (hu : A.in1.in1.units < cLine) (hl : s.heap.IsList l (v :: vs).toArray) (hn : (v :: vs).length ≤ sizeLine)
    (h : ∀ u ∈ v :: vs, TupN s.heap u (k u)) (h0 : k v = [])
    (q : ∀ (h' : Heap) (d : Addr) (out : List Value), SrtO.Srtd (fun v u => HT.lexLt (k v) (k u)) out → out.Perm (v :: vs) → (∀ b o, s.heap.get? b = some o → h'.get? b = some o) → s.heap.objs.size ≤ d →
      (∃ n, h'.get? d = some (seqObj "list" out.toArray n)) → Q (.ref d) { s with heap := h' }) :
    wpAny (model prog w) A (call (.builtin "sorted") [.ref l]) Q E s := by
  refine SrtO.sorted_ord (swo_N k) hl hn (fun _ h₁ a ha hb => ?_) fun out h1 h2 => ?_
  · intro h' hk
    have hk' : ∀ u ∈ v :: vs, TupN h' u (k u) := fun u hu2 => (h u hu2).keep fun b o e => by
      obtain ⟨z1, z2⟩ := hb b o e
      exact hk b o z1 z2
    refine ⟨oneType', fun Q E q => kind_tups hk' h0 q, fun p r hp hr => ?_⟩
    exact one_lt hu (hk' _ hp) (hk' _ hr)
  · obtain ⟨e, he⟩ := sortedAll_at s.heap (v :: vs) out.toArray
    exact q _ _ out h1 h2.perm (fun b o => sortedAll_old) (Nat.le_succ _) ⟨e, he⟩
end
theorem vals_refs : ∀ {ps : List (Addr × List Int)} {us : List Value}, Vals (ps.map fun p => V.ref p.1) us → us = ps.map fun p => Value.ref p.1
  | [], _, .nil => rfl
  | p :: ps, _, .cons r t => by
    rw [vals_refs t]
    have : _ = Value.ref p.1 := r
    rw [List.map_cons, this]
theorem refs_vals : ∀ ps : List (Addr × List Int), Vals (ps.map fun p => V.ref p.1) (ps.map fun p => Value.ref p.1)
  | [] => .nil
  | p :: ps => .cons rfl (refs_vals ps)
open Classical in
noncomputable def kN (h : Heap) (v : Value) : List Int := if z : ∃ ns, TupN h v ns then choose z else []
open Classical in
theorem kN_eq {h : Heap} {v : Value} {ns : List Int} (x : TupN h v ns) : kN h v = ns := by
  have z : ∃ ns, TupN h v ns := ⟨ns, x⟩
  unfold kN
  rw [dif_pos z]
  exact (choose_spec z).det x
def adV : Value → Addr
  | .ref a => a
  | _ => 0
def rSortN (K : PySem.W.Frag) : List V → Hp → VK → Prop := fun vs H Q => ∃ (a : Addr) (p : Addr) (ps : List (Addr × List Int)), vs = [.ref a] ∧ SqL K H a (((p, []) :: ps).map fun p => V.ref p.1) ∧ (∀ q ∈ (p, []) :: ps, SqT K H q.1 (q.2.map V.int)) ∧
  ∀ (out : List (Addr × List Int)) (d : Addr), out.Perm ((p, []) :: ps) → out.Pairwise (fun x y => HT.lexLt y.2 x.2 = false) → H d = none → Q (.ref d) (upd H d (.lst (out.map fun p => V.ref p.1)))
theorem cr_sortN {X : Cx} (hu : X.A.units + 65 < cLine) : CallR X (.builtin "sorted") (rSortN X.K) := by
  intro pins s σ H vs us Q I r h
  obtain ⟨a, p, ps, rfl, hl, ht, q⟩ := h
  rw [Vals.ref1 r]
  obtain ⟨its, rv, pl, hn⟩ := I.list hl
  have e := vals_refs rv
  subst e
  have hT : ∀ x ∈ (p, []) :: ps, TupN s.heap (.ref x.1) x.2 := fun x hx => by
    obtain ⟨it, rt, ⟨⟨cls, dd, data, sl⟩, ho, hc, n, hd⟩, _⟩ := I.tuple (ht x hx)
    simp only at hc hd
    subst hc hd
    exact ⟨x.1, n, dd, sl, it.toArray, rfl, ho, by simpa using ints_of_vals rt⟩
  have hk : ∀ u ∈ ((p, []) :: ps).map (fun p => Value.ref p.1), TupN s.heap u (kN s.heap u) := fun u hu => by
    obtain ⟨x, hx, rfl⟩ := List.mem_map.mp hu
    rw [kN_eq (hT x hx)]
    exact hT x hx
  refine sorted_tupsN (k := kN s.heap) (v := .ref p) (vs := ps.map fun (p : Addr × List Int) => Value.ref p.1) (show _ + 1 + 1 < cLine by omega) ?_ (by simpa using hn) hk (kN_eq (hT (p, []) List.mem_cons_self)) fun h' d out h1 h2 h3 h4 ⟨n, h5⟩ => ?_
  · obtain ⟨o, n, h1, h2⟩ := pl
    exact ⟨o, h1, h2.1, n, h2.2.2⟩
  · have e1 : ((((p, []) :: ps).map fun p => Value.ref p.1).map fun u => (adV u, kN s.heap u)) = (p, []) :: ps := by
      rw [List.map_map]
      conv => rhs; rw [← List.map_id ((p, []) :: ps)]
      refine List.map_congr_left fun x hx => ?_
      show (x.1, kN s.heap (.ref x.1)) = x
      rw [kN_eq (hT x hx)]
    have e2 := h2.map fun u => (adV u, kN s.heap u)
    have e3 : out = (out.map fun u => (adV u, kN s.heap u)).map fun p => Value.ref p.1 := by
      rw [List.map_map]
      conv => lhs; rw [← List.map_id out]
      refine List.map_congr_left fun u hu => ?_
      obtain ⟨x, hx, rfl⟩ := List.mem_map.mp (show u ∈ ((p, []) :: ps).map (fun (p : Addr × List Int) => Value.ref p.1) from h2.mem_iff.mp hu)
      rfl
    refine ⟨.ref d, upd H d (.lst ((out.map fun u => (adV u, kN s.heap u)).map fun p => V.ref p.1)), I.laid h3 h4 ?_, rfl, q _ d ?_ ?_ (I.hok.fresh h4)⟩
    · unfold L2.ObjOk
      have e4 := refs_vals (out.map fun u => (adV u, kN s.heap u))
      rw [← e3] at e4
      exact ⟨by
        have h6 := h2.length_eq
        rw [List.length_map, List.length_map, h6]
        simpa using hn, out, n, e4, h5⟩
    · exact e1 ▸ e2
    · rw [List.pairwise_map]
      exact h1

def tpI (x : List Int) : PyData := .tuple (x.map .int)
def fSrt : FA := fun ts M Q => match ts with
  | [.d (.list ds)] => ∃ nss : List (List Int), ds = ([] :: nss).map tpI ∧ ∀ out : List (List Int), out.Perm ([] :: nss) → out.Pairwise (fun x y => HT.lexLt y x = false) → Q (.lst (out.map tpI)) M
  | _ => False
theorem rpa_tps {K : PySem.W.Frag} {G : Hp} : ∀ {nss : List (List Int)} {vs : List V}, RpA K G vs (nss.map tpI) → ∃ ps : List (Addr × List Int), vs = ps.map (fun p => V.ref p.1) ∧ ps.map (fun p => p.2) = nss ∧ ∀ p ∈ ps, TupC K G p.1 (p.2.map V.int)
  | [], _, .nil => ⟨[], rfl, rfl, fun p hp => nomatch hp⟩
  | ns :: nss, _, .cons r t => by
    obtain ⟨ps, rfl, e, h⟩ := rpa_tps t
    cases r with
    | tup g q =>
      rename_i a xs
      cases rpa_ints' q
      exact ⟨(a, ns) :: ps, rfl, by rw [List.map_cons, e], fun p hp => by
        rcases List.mem_cons.mp hp with z | z
        · rw [z]; exact g
        · exact h p z⟩
theorem tps_rpa {K : PySem.W.Frag} {G : Hp} : ∀ {ps : List (Addr × List Int)}, (∀ p ∈ ps, TupC K G p.1 (p.2.map V.int)) → RpA K G (ps.map fun p => V.ref p.1) ((ps.map fun p => p.2).map tpI)
  | [], _ => .nil
  | p :: ps, h => .cons (.tup (h p List.mem_cons_self) (RpA.of_ints _)) (tps_rpa fun q hq => h q (List.mem_cons_of_mem _ hq))
theorem cal_srt {K : PySem.W.Frag} : CaL K (rSortN K) fSrt := by
  intro xs ts M B H Q Q' h w r k
  unfold fSrt at h
  split at h
  · obtain ⟨v, rfl, r1⟩ := paired_one r
    obtain ⟨nss, rfl, h2⟩ := h
    cases (show Rp K B.G v (.list _) from r1) with
    | lst g q =>
      rename_i a vs
      obtain ⟨ps, rfl, e, hp⟩ := rpa_tps q
      cases ps with
      | nil => cases e
      | cons p ps =>
        obtain ⟨ad, ns⟩ := p
        rw [List.map_cons] at e
        obtain ⟨e1, e2⟩ := List.cons.inj e
        simp only at e1
        subst e1
        refine ⟨a, ad, ps, rfl, SqL.mono w.le (.inl (.inl g)), fun z hz => SqT.mono w.le (hp z hz), fun out d hperm hsort hd => ?_⟩
        obtain ⟨w2, e2'⟩ := w.alloc hd (.lst (out.map fun p => V.ref p.1))
        refine k _ _ M _ _ (h2 (out.map fun p => p.2) ?_ ?_) w2 e2' (.lst upd_same (tps_rpa fun z hz => TupC.mono e2'.g (hp z (hperm.mem_iff.mp hz))))
        · have := hperm.map fun p => p.2
          rw [List.map_cons, e2] at this
          exact this
        · rw [List.pairwise_map]
          exact hsort
  · exact h.elim
theorem me_srt {X : Cx} {k : Nat} {e : Expr} {es : List Expr} {mr : Ma} {p pos : Pos} (rm : Room k X.A) (hg : Gl X "sorted") (hm : X.mg "sorted" = none) (ha : MA X (e :: es) mr) (he : starEach (e :: es) X.env = (false, eval e X.env) :: starEach es X.env := by rfl) (hpl : (backTo pos (starEach es X.env)).any (·.1) = false := by rfl) : ME X (.Call (.Name "sorted" p) (e :: es) [] pos) (mCall fSrt mr) := me_callB (cr_sortN (un65 rm)) cal_srt hg hm (by decide +kernel) ha (by decide) (by decide) he hpl

/-! ### in, not in: data in a tuple -/
def rInTD (K : PySem.W.Frag) : R2 := fun x y H Q => ∃ d ds, Dp K H x d ∧ Dp K H y (.tuple ds) ∧ SeqAt.shaped d = true ∧ SeqAt.shaped (.tuple ds) = true ∧ Q (.bl (ds.any fun z => PyData.eqv z d)) H
def rNotInTD (K : PySem.W.Frag) : R2 := fun x y H Q => ∃ d ds, Dp K H x d ∧ Dp K H y (.tuple ds) ∧ SeqAt.shaped d = true ∧ SeqAt.shaped (.tuple ds) = true ∧ Q (.bl (!ds.any fun z => PyData.eqv z d)) H
theorem op_inTD {X : Cx} (hu : X.A.units + 65 < cLine) : OpR X (compareOp .In) (rInTD X.K) := by
  intro pins s σ H x y v u Q I rx ry h
  obtain ⟨d, ds, hd, he, sd, se, q⟩ := h
  obtain ⟨as, r1⟩ := Dp.reads I d x v hd rx
  obtain ⟨bs, r2⟩ := Dp.reads I (.tuple ds) y u he ry
  exact SeqAt.in_tuple_reads r2 r1 (SeqAt.canLay_of_shaped se) (SeqAt.canLay_of_shaped sd) (PyProof.Rows.room_in_shaped sd hu) ⟨.bl _, H, I, rfl, q⟩
theorem op_notInTD {X : Cx} (hu : X.A.units + 65 < cLine) : OpR X (compareOp .NotIn) (rNotInTD X.K) := by
  intro pins s σ H x y v u Q I rx ry h
  obtain ⟨d, ds, hd, he, sd, se, q⟩ := h
  obtain ⟨as, r1⟩ := Dp.reads I d x v hd rx
  obtain ⟨bs, r2⟩ := Dp.reads I (.tuple ds) y u he ry
  exact SeqAt.notIn_tuple_reads r2 r1 (SeqAt.canLay_of_shaped se) (SeqAt.canLay_of_shaped sd) (PyProof.Rows.room_in_shaped sd hu) ⟨.bl _, H, I, rfl, q⟩
def oInT (n : Bool) : F2 := fun x y M Q => match now x M, now y M with
  | some a, some (.tuple ds) => (SeqAt.shaped a = true ∧ SeqAt.shaped (.tuple ds) = true) ∧ Q (.bl (if n then !ds.any (fun z => PyData.eqv z a) else ds.any (fun z => PyData.eqv z a))) M
  | _, _ => False
theorem opl_inT {K : PySem.W.Frag} : OpL K (rInTD K) (oInT false) := by
  intro x y t u M B H Q Q' h w rx ry k
  unfold oInT at h
  split at h
  · rename_i a ds e1 e2
    exact ⟨a, ds, w.dpNow rx e1, w.dpNow ry e2, h.1.1, h.1.2, k _ _ M B H h.2 w (.refl _ _) (.bl _)⟩
  · exact h.elim
theorem opl_notInT {K : PySem.W.Frag} : OpL K (rNotInTD K) (oInT true) := by
  intro x y t u M B H Q Q' h w rx ry k
  unfold oInT at h
  split at h
  · rename_i a ds e1 e2
    exact ⟨a, ds, w.dpNow rx e1, w.dpNow ry e2, h.1.1, h.1.2, k _ _ M B H h.2 w (.refl _ _) (.bl _)⟩
  · exact h.elim
section
variable {X : Cx} {a b : Expr} {ma mb : Me} {pos : Pos}
theorem me_inT {k : Nat} (rm : Room k X.A) (ha : ME X a ma) (hb : ME X b mb) (hm : behindInMarks .In b = false := by with_unfolding_all rfl) : ME X (.Compare a [.In] [b] pos) (mOp (oInT false) ma mb) := me_cmp (op_inTD (un65 rm)) opl_inT ha hb hm
theorem me_notInT {k : Nat} (rm : Room k X.A) (ha : ME X a ma) (hb : ME X b mb) (hm : behindInMarks .NotIn b = false := by with_unfolding_all rfl) : ME X (.Compare a [.NotIn] [b] pos) (mOp (oInT true) ma mb) := me_cmp (op_notInTD (un65 rm)) opl_notInT ha hb hm
theorem mb_inT {k : Nat} (rm : Room k X.A) (ha : ME X a ma) (hb : ME X b mb) (hm : behindInMarks .In b = false := by with_unfolding_all rfl) : MB X (.Compare a [.In] [b] pos) (mTest (mOp (oInT false) ma mb)) := mb_cmp (op_inTD (un65 rm)) opl_inT ha hb hm
theorem mb_notInT {k : Nat} (rm : Room k X.A) (ha : ME X a ma) (hb : ME X b mb) (hm : behindInMarks .NotIn b = false := by with_unfolding_all rfl) : MB X (.Compare a [.NotIn] [b] pos) (mTest (mOp (oInT true) ma mb)) := mb_cmp (op_notInTD (un65 rm)) opl_notInT ha hb hm
end

/-! ### sorted of pairs of ints -/
def prI (p : Int × Int) : PyData := .tuple [.int p.1, .int p.2]
def leP (p q : Int × Int) : Bool := !(SrtO.lexB q p)
end L3

set_option Elab.async false
set_option linter.all false
set_option maxRecDepth 100000
namespace L3
open PySem PySem.Spec L2 PyProof.Rows
/-! ### t[::-1] of a tuple -/
theorem sliceBack {prog : Program} {w : World} {A : Around} {E : Value → Shared → Prop} {s : Shared} {sl : Addr} {n : Nat} {t : Tok} {Q : Int × Int × Nat → Shared → Prop}
    (h : s.heap.IsSliceOf sl .none .none (.int (-1) t)) (q : Q ((n : Int) - 1, -1, n) s) : wpAny (model prog w) A (Builtin.Slice.sliceApplied (.ref sl) (pure ↑n)) Q E s := by
  obtain ⟨⟨cls, dd, data, sls⟩, h1, h2, h3⟩ := h
  simp only at h2 h3
  subst h2 h3
  have f1 := AutoSeq1.idx_int
  have e : (Builtin.Slice.sliceAdjust none none (-1) (n : Int)) = ((n : Int) - 1, -1) := by
    simp [Builtin.Slice.sliceAdjust]
  have e2 : Builtin.Slice.slicePlaces ((n : Int) - 1) (-1) (-1) = n := by
    unfold Builtin.Slice.slicePlaces
    rw [if_neg (by decide)]
    split
    · have : ((n : Int) - 1 - -1 - 1) / - -1 = (n : Int) - 1 := by
        rw [Int.neg_neg, Int.ediv_one]
        omega
      rw [this]
      omega
    · omega
  wp_walk
  show Q ((Builtin.Slice.sliceAdjust none none (-1) (n : Int)).fst, -1, Builtin.Slice.slicePlaces (Builtin.Slice.sliceAdjust none none (-1) (n : Int)).fst (Builtin.Slice.sliceAdjust none none (-1) (n : Int)).snd (-1)) s
  rw [e]
  dsimp only
  rw [e2]
  exact q
theorem fm_congr {α β : Type} {f g : α → Option β} : ∀ {l : List α}, (∀ x ∈ l, f x = g x) → l.filterMap f = l.filterMap g
  | [], _ => rfl
  | x :: l, h => by
    rw [List.filterMap_cons, List.filterMap_cons, h x List.mem_cons_self, fm_congr fun y hy => h y (List.mem_cons_of_mem _ hy)]
theorem pick_all {α : Type} (r : List α) : List.filterMap (fun k => r[k]?) (List.range r.length) = r := by
  have key : ∀ n : Nat, n ≤ r.length → List.filterMap (fun k => r[k]?) (List.range n) = r.take n := by
    intro n
    induction n with
    | zero => intro _; rfl
    | succ n ih =>
      intro h
      rw [List.range_succ, List.filterMap_append, ih (by omega), List.take_add_one]
      congr 1
  have := key r.length (Nat.le_refl _)
  rwa [List.take_length] at this
theorem pickBack (its : List Value) : (List.filterMap (fun k => its.toArray[(((its.length : Int) - 1) + (k : Nat) * -1).toNat]?) (List.range its.length)) = its.reverse := by
  have h : ∀ k ∈ List.range its.length, its.toArray[(((its.length : Int) - 1) + (k : Nat) * -1).toNat]? = its.reverse[k]? := by
    intro k hk
    have hk := List.mem_range.mp hk
    have e : (((its.length : Int) - 1) + (k : Nat) * -1).toNat = its.length - 1 - k := by omega
    rw [e, List.getElem?_reverse hk]
    simp
  rw [fm_congr h]
  have h2 : List.filterMap (fun k => its.reverse[k]?) (List.range its.length) = its.reverse := by
    have := List.length_reverse (as := its)
    generalize hr : its.reverse = r at this ⊢
    rw [← this]
    clear this hr h
    exact pick_all r
  exact h2
theorem getItem_back {prog : Program} {w : World} {A : Around} {E : Value → Shared → Prop} {s : Shared} {a sl : Addr} {its : List Value} {t : Tok} {Q : Value → Shared → Prop}
    (ht : IsTup s.heap a its.toArray) (hs : s.heap.IsSliceOf sl .none .none (.int (-1) t)) (hz : its.length ≤ sizeLine)
    (q : Q (.ref s.heap.objs.size) { s with heap := s.heap.push { cls := .type "tuple", data := .seq its.reverse.toArray } }) : wpAny (model prog w) A (getItem (.ref a) (.ref sl)) Q E s := by
  obtain ⟨⟨cls, dd, data, sls⟩, h1, h2, n, h3⟩ := ht
  simp only at h2 h3
  subst h2 h3
  have ty : s.TypeIs (.ref sl) "slice" := by
    obtain ⟨o2, g1, g2, g3⟩ := hs
    exact ⟨o2, g1, g2⟩
  unfold getItem
  refine wpAny_holding ?_
  refine wpAny_bind (wpAny_sequenceKey (T := "tuple") ⟨_, h1, rfl⟩ (by decide) ?_)
  refine wpAny_bind (wpAny_callSpecial?_slot (T := "tuple") ⟨_, h1, rfl⟩ slot_tuple_getitem ?_)
  refine wpAny_call_entry slot_tuple_getitem ⟨_, h1, rfl⟩ entry_tuple_getitem ?_
  obtain ⟨⟨cls2, dd2, data2, sls2⟩, g1, g2, g3⟩ := hs
  simp only at g2 g3
  subst g2 g3
  have f1 := AutoSeq1.idx_int
  have hF : List.filterMap (fun (k : Nat) => its.toArray[((Builtin.Slice.sliceAdjust none none ((some (-1 : Int)).getD 1) (its.toArray.size : Int)).fst + (k : Int) * (some (-1 : Int)).getD 1).toNat]?)
      (List.range (Builtin.Slice.slicePlaces (Builtin.Slice.sliceAdjust none none ((some (-1 : Int)).getD 1) (its.toArray.size : Int)).fst (Builtin.Slice.sliceAdjust none none ((some (-1 : Int)).getD 1) (its.toArray.size : Int)).snd ((some (-1 : Int)).getD 1))) = its.reverse := by
    have e0 : its.toArray.size = its.length := by simp
    have e : (Builtin.Slice.sliceAdjust none none (-1) (its.toArray.size : Int)) = ((its.length : Int) - 1, -1) := by
      simp [Builtin.Slice.sliceAdjust]
    have e2 : Builtin.Slice.slicePlaces ((its.length : Int) - 1) (-1) (-1) = its.length := by
      unfold Builtin.Slice.slicePlaces
      rw [if_neg (by decide)]
      split
      · have : ((its.length : Int) - 1 - -1 - 1) / - -1 = (its.length : Int) - 1 := by
          rw [Int.neg_neg, Int.ediv_one]
          omega
        rw [this]
        omega
      · omega
    show List.filterMap (fun (k : Nat) => its.toArray[((Builtin.Slice.sliceAdjust none none (-1) (its.toArray.size : Int)).fst + (k : Int) * (-1)).toNat]?)
      (List.range (Builtin.Slice.slicePlaces (Builtin.Slice.sliceAdjust none none (-1) (its.toArray.size : Int)).fst (Builtin.Slice.sliceAdjust none none (-1) (its.toArray.size : Int)).snd (-1))) = its.reverse
    rw [e]
    dsimp only
    rw [e2]
    exact pickBack its
  wp_walk
  rw [hF]
  refine wpAny_ite_false (decide_eq_false (by simp; omega)) ?_
  wp_walk
  exact ⟨_, rfl, wpAny_pure q⟩
/-- e[::-1] of a clean or any tuple: a new clean one -/
def tRevT (K : PySem.W.Frag) (te : TE) : TE := fun σ H Q => te σ H fun x H1 => ∃ a xs, x = .ref a ∧ SqT K H1 a xs ∧ ∀ (p : Addr) (o : Obj), H1 p = none → o.dict = none → Q (.ref p) (upd H1 p (.frz o (.tup xs.reverse)))
theorem vals_rev {xs : List V} {us : List Value} (r : Vals xs us) : Vals xs.reverse us.reverse := Vals.reverse r
theorem pe_revT {X : Cx} {e : Expr} {te : TE} {k : Nat} {p1 p2 p3 pos : Pos} (he : PE X e te) : PE X (.Subscript e (.Slice none none (some (.UnaryOp .USub (.Constant (.int 1) k p1) p2)) p3) pos) (tRevT X.K te) := ⟨fun pins s σ H Q I h => by
  refine PyProof.Rows.Subscript_ (thn (he.run pins s σ H (fun x H1 => ∃ a xs, x = .ref a ∧ SqT X.K H1 a xs ∧ ∀ (p : Addr) (o : Obj), H1 p = none → o.dict = none → Q (.ref p) (upd H1 p (.frz o (.tup xs.reverse)))) I h) fun v s1 ⟨x, H1, I1, r1, a, xs, ex, hx, q⟩ => ?_)
  subst ex
  cases r1
  have hst := po_some (pe_un (pos := p2) (un_neg (X := X)) (pe_int (X := X) (i := 1) (j := k) (pos := p1)))
  refine wpAny_Slice (thn (po_none.run pins s1 σ H1 (fun o H2 => o = none ∧ H2 = H1) I1 ⟨rfl, rfl⟩) fun vl s2 ⟨l, H2, I2, pl, el, e2⟩ => ?_)
  subst el e2
  refine thn (po_none.run pins s2 σ H2 (fun o H3 => o = none ∧ H3 = H2) I2 ⟨rfl, rfl⟩) fun vu s3 ⟨l2, H3, I3, pu, el2, e3⟩ => ?_
  subst el2 e3
  refine thn (hst.run pins s3 σ H3 (fun o H4 => o = some (-1) ∧ H4 = H3) I3 ⟨1, rfl, -1, rfl, rfl, rfl⟩) fun vs s4 ⟨l3, H4, I4, ps, el3, e4⟩ => ?_
  subst el3 e4
  have I5 := I4.kept (h' := s4.heap.push { cls := Value.type "slice", data := Data.fields #[vl, vu, vs] }) (t' := s4.toks) fun _ _ z => Heap.get?_push_of_some _ z
  obtain ⟨its, rv, pt, hz⟩ := I5.tuple hx
  cases pl
  cases pu
  obtain ⟨t, rfl⟩ : ∃ t, vs = Value.int (-1) t := by
    cases ps
    exact ⟨_, rfl⟩
  obtain ⟨o, ho, hc, n, hd⟩ := pt
  refine PyProof.Rows.tail_any (ops := [.ref a, .ref s4.heap.objs.size]) (T := "tuple") ⟨o, ho, hc⟩ slot_tuple_getitem.lookup (getItem_back ⟨o, ho, hc, n, hd⟩ (Heap.IsSliceOf.new _ _ _ _) (by rw [← rv.length]; exact hz) ?_) ?_
  · exact ⟨.ref _, upd H4 _ (.frz (nuT its.reverse) (.tup xs.reverse)), I5.laid (fun b u e => Heap.get?_push_of_some _ e) (Nat.le_refl _) (okC (by rw [List.length_reverse]; exact hz) (Vals.reverse rv) (Heap.get?_push_size _ rfl)), rfl, q _ _ (I5.hok.fresh (Nat.le_refl _)) rfl⟩
  · rfl⟩
end L3

set_option Elab.async false
set_option linter.all false
set_option maxRecDepth 100000
namespace L3
open PySem PySem.Spec L2 PyProof.Rows
/-! ### t[::-1], t.count(k) over trees -/
def mRevT (m : Me) : Me := fun τ M Q => m τ M fun t M1 => match t with
  | .d (.tuple ds) => Q (.tup ds.reverse) M1
  | _ => False
theorem RpA.reverse {K : PySem.W.Frag} {G : Hp} : ∀ {vs : List V} {ds : List PyData}, RpA K G vs ds → RpA K G vs.reverse ds.reverse
  | _, _, .nil => .nil
  | _, _, .cons p q => by
    rw [List.reverse_cons, List.reverse_cons]
    exact RpA.append (RpA.reverse q) (.cons p .nil)
section
variable {X : Cx} {e o : Expr} {m mo : Me} {mr : Ma} {k : Nat} {p1 p2 p3 pos apos cpos : Pos}
theorem me_revT (he : ME X e m) : ME X (.Subscript e (.Slice none none (some (.UnaryOp .USub (.Constant (.int 1) k p1) p2)) p3) pos) (mRevT m) := PE.of (pe_revT he) fun σ H Q' ⟨τ, M, B, Q, h, w, s, k⟩ => by
  refine ⟨τ, M, B, _, h, w, s, fun v t M1 B1 H1 h1 w1 e1 r1 => ?_⟩
  split at h1
  · cases r1 with
    | tup g q =>
      refine ⟨_, _, rfl, SqT.mono w1.le g, fun p o hp ho => ?_⟩
      obtain ⟨w4, e4⟩ := w1.alloc hp (.frz o (.tup _))
      exact k _ _ M1 _ _ h1 w4 (e1.trans e4) (.tup (.inl ⟨o, upd_same, ho⟩) (RpA.mono e4.g (RpA.reverse q)))
  · exact h1.elim
@[simp] theorem x_revT {τ : En} {M : Mem} {Q : Kt} : mRevT m τ M Q = m τ M fun t M1 => match t with
  | .d (.tuple ds) => Q (.tup ds.reverse) M1
  | _ => False := rfl
def mCnt (m : Me) (r : Ma) : Me := fun τ M Q => m τ M fun t M1 => match t with
  | .d (.tuple ds) => r τ M1 fun ts M2 => match ts with
    | [.d (.int k)] => ∃ ns, intsOf ds = some ns ∧ Q (.int (ns.count k : Nat)) M2
    | _ => False
  | _ => False
theorem me_count (ho : ME X o mo) (ha : MA X [e] mr) (hbase : attributeBase o "count" X.env (eval o X.env) = eval o X.env := by rfl)
    (hfew : ((backTo cpos (starEach [e] X.env)).all (fun x => !x.1) && (backToKw cpos (keywordEach [] X.env)).all (fun x => x.1.isSome) && decide (([e] : List Expr).length + ([] : List Keyword).length + (if ([] : List Keyword).isEmpty then 0 else 1) < 30)) = true := by rfl)
    (hline : (apos.endLine == cpos.line) = true := by rfl) (hs : starEach [e] X.env = (false, eval e X.env) :: starEach [] X.env := by rfl) (hpl : (backTo cpos (starEach [] X.env)).any (·.1) = false := by rfl) :
    ME X (.Call (.Attribute o "count" apos) [e] [] cpos) (mCnt mo mr) := PE.of (pe_tcount ho ha hbase hfew hline hs hpl) fun σ H Q' ⟨τ, M, B, Q, h, w, s, k⟩ => by
  refine ⟨τ, M, B, _, h, w, s, fun v t M1 B1 H1 h1 w1 e1 r1 => ?_⟩
  split at h1
  · rename_i ds
    cases (show Rp X.K B1.G v (.tuple ds) from r1) with
    | tup g q =>
      refine ⟨_, _, rfl, TupC.mono w1.le g, τ, M1, B1, _, h1, w1, s.mono e1, fun vs ts M2 B2 H2 h2 w2 e2 r2 => ?_⟩
      split at h2
      · rename_i k0
        obtain ⟨u, rfl, r3⟩ := paired_one r2
        cases (show Rp X.K B2.G u (.int k0) from r3)
        obtain ⟨ns, hn, q2⟩ := h2
        cases intsOf_eq hn
        cases rpa_ints' q
        exact ⟨ns, k0, rfl, SqT.mono w2.le (TupC.mono e2.g g), k _ _ M2 B2 H2 q2 w2 (e1.trans e2) (.int _)⟩
      · exact h2.elim
  · exact h1.elim
@[simp] theorem x_count {τ : En} {M : Mem} {Q : Kt} : mCnt m mr τ M Q = m τ M fun t M1 => match t with
  | .d (.tuple ds) => mr τ M1 fun ts M2 => match ts with
    | [.d (.int k)] => ∃ ns, intsOf ds = some ns ∧ Q (.int (ns.count k : Nat)) M2
    | _ => False
  | _ => False := rfl
end
end L3

set_option Elab.async false
set_option linter.all false
set_option maxRecDepth 100000
namespace L3
open PySem PySem.Spec L2 PyProof.Rows
/-! ### xs[i] += e of an own list; three names at once -/
def rGetL (K : PySem.W.Frag) : V → V → Hp → VK → Prop := fun o i H Q => ∃ p xs k v, o = .ref p ∧ i = .int k ∧ SqL K H p xs ∧ 0 ≤ k ∧ k < 2 ^ 63 ∧ xs[k.toNat]? = some v ∧ Q v H
theorem pget_list {X : Cx} : PGet X (rGetL X.K) := by
  intro pins s σ H o i ov iv Q I ro ri h
  obtain ⟨p, xs, k, v, rfl, rfl, hl, k0, k1, hv, q⟩ := h
  cases ro
  obtain ⟨t, rfl⟩ := ri
  obtain ⟨its, rv, pl, _⟩ := I.list hl
  obtain ⟨o, n, h1, h2⟩ := pl
  have hlt : k.toNat < xs.length := by
    rcases Nat.lt_or_ge k.toNat xs.length with z | z
    · exact z
    · rw [List.getElem?_eq_none z] at hv
      cases hv
  have hlt2 : k.toNat < its.length := by rw [← rv.length]; exact hlt
  refine getItem_listL (l := its) (x := its[k.toNat]) ⟨o, h1, h2.1, n, h2.2.2⟩ k0 k1 (List.getElem?_eq_getElem hlt2) ?_
  refine ⟨v, H, I, ?_, q⟩
  have key : ∀ {xs : List V} {its : List Value}, Vals xs its → ∀ (j : Nat) (v : V) (h : j < its.length), xs[j]? = some v → RelV v its[j] := by
    intro xs its r
    induction r with
    | nil => intro j v h; exact absurd h (Nat.not_lt_zero j)
    | cons p q ih =>
      intro j v h e
      cases j with
      | zero =>
        cases e
        exact p
      | succ j => exact ih j v (Nat.lt_of_succ_lt_succ h) e
  exact key rv _ _ hlt2 hv
def mAugL (f : Int → Int → Int) (d k v : Me) : Ms := fun E τ M => d τ M fun x M1 => k τ M1 fun y M2 => match x, y with
  | .lr i, .d (.int j) => (match M2.L[i]? with
    | some (some ds) => (0 ≤ j ∧ j < 2 ^ 63) ∧ ∃ a, ds[j.toNat]? = some (.int a) ∧ v τ M2 fun t M3 => match t with
      | .d (.int b) => M3.L[i]? = some (some ds) ∧ E.nx τ { M3 with L := M3.L.set i (some (ds.set j.toNat (.int (f a b)))) }
      | _ => False
    | _ => False)
  | _, _ => False
section
variable {X : Cx} {o i e : Expr} {mo mi me : Me} {mr : Ma} {pos tpos : Pos}
theorem ms_augL {op : Operator} {f : Int → Int → Int} (ho : PIp X op (ipI f)) (hO : ME X o mo) (hI : ME X i mi) (hE : ME X e me)
    (hs : ∀ ov iv new : Value, augStore i ov iv new = (do
      holding [new, ov, iv] (setItem ov iv new)
      release [new, ov, iv] []
      pure Flow.next) := by intros; rfl) : MS X (.AugAssign (.Subscript o i tpos) op e pos) (mAugL f mo mi me) := PS.of (ps_augS hO hI pget_list hE ho set_list hs) fun D σ H ⟨E, τ, M, B, h, w, s, g⟩ => by
  refine ⟨τ, M, B, _, h, w, s, fun x tx M1 B1 H1 h1 w1 e1 r1 => ⟨τ, M1, B1, _, h1, w1, s.mono e1, fun y ty M2 B2 H2 h2 w2 e2 r2 => ?_⟩⟩
  split at h2
  · rename_i ix j
    split at h2
    · rename_i ds hL
      obtain ⟨a, rfl, ha⟩ := r1
      have ha2 := get_prefix e2.l ha
      cases (show Rp X.K B2.G y (.int j) from r2)
      obtain ⟨_, vs, ev, q⟩ := w2.lc _ _ _ ha2 hL
      obtain ⟨⟨j0, j1⟩, z, hz, h3⟩ := h2
      obtain ⟨u, hu, ru⟩ := RpA.get q hz
      cases ru
      refine ⟨a, vs, j, .int z, rfl, rfl, .inl (.inl ev), j0, j1, hu, ?_⟩
      refine ⟨τ, M2, B2, _, h3, w2, (s.mono e1).mono e2, fun v t M3 B3 H3 h4 w3 e3 r3 => ?_⟩
      split at h4
      · rename_i b
        cases (show Rp X.K B3.G v (.int b) from r3)
        obtain ⟨hL3, hQ⟩ := h4
        have ha3 := get_prefix e3.l ha2
        obtain ⟨_, vs3, ev3, q3⟩ := w3.lc _ _ _ ha3 hL3
        have hlt : j.toNat < vs3.length := by
          rw [RpA.length q3]
          rcases Nat.lt_or_ge j.toNat ds.length with y | y
          · exact y
          · rw [List.getElem?_eq_none y] at hz
            cases hz
        refine ⟨z, b, rfl, rfl, a, vs3, j, j.toNat, rfl, rfl, ev3, ?_, ?_⟩
        · unfold ixN
          rw [if_pos (by omega), if_pos (by omega)]
        · obtain ⟨w4, e4⟩ := w3.setL ha3 hL3 (RpA.set (.int (f z b)) j.toNat q3)
          have e14 := e1.trans (e2.trans (e3.trans e4))
          exact g.nx _ _ _ _ _ hQ w4 e14 (s.mono e14)
      · exact h4.elim
    · exact h2.elim
  · exact h2.elim
@[simp] theorem x_augL {f : Int → Int → Int} {d k v : Me} {E : Es} {τ : En} {M : Mem} : mAugL f d k v E τ M = d τ M fun x M1 => k τ M1 fun y M2 => match x, y with
  | .lr i, .d (.int j) => (match M2.L[i]? with
    | some (some ds) => (0 ≤ j ∧ j < 2 ^ 63) ∧ ∃ a, ds[j.toNat]? = some (.int a) ∧ v τ M2 fun t M3 => match t with
      | .d (.int b) => M3.L[i]? = some (some ds) ∧ E.nx τ { M3 with L := M3.L.set i (some (ds.set j.toNat (.int (f a b)))) }
      | _ => False
    | _ => False)
  | _, _ => False := rfl
def mPar3 (i j l : Nat) (r : Ma) : Ms := fun E τ M => r τ M fun ts M1 => match ts with
  | [t, u, v] => E.nx (((τ.set i (some t)).set j (some u)).set l (some v)) M1
  | _ => False
theorem ms_par3 {i j l : Nat} {x y z : Str} {e1 e2 e3 : Expr} {px py pz pt : Pos} {kt k2 : Nat} {pt2 : Pos} (hc : X.calm = true) (hN : X.N.Nodup) (hi : X.N[i]? = some x) (hj : X.N[j]? = some y) (hl : X.N[l]? = some z) (hij : i ≠ j) (hil : i ≠ l) (hjl : j ≠ l)
    (hx : X.env.scope.names.lookup x = some .local) (hy : X.env.scope.names.lookup y = some .local) (hz : X.env.scope.names.lookup z = some .local) (ha : MA X [e1, e2, e3] mr)
    (hw : swappedStores [.Tuple [.Name x px, .Name y py, .Name z pz] kt pt] (.Tuple [e1, e2, e3] k2 pt2) X.env = pure (some [x, y, z]))
    (hs : swapsWithSole [.Tuple [.Name x px, .Name y py, .Name z pz] kt pt] (.Tuple [e1, e2, e3] k2 pt2) pos.line X.env = pure false := by rfl) :
    MS X (.Assign [.Tuple [.Name x px, .Name y py, .Name z pz] kt pt] (.Tuple [e1, e2, e3] k2 pt2) pos) (mPar3 i j l mr) := PS.of (ps_par3 hc hN hi hj hl hij hil hjl hx hy hz ha hw hs) fun D σ H ⟨E, τ, M, B, h, w, sl, g⟩ => by
  refine ⟨τ, M, B, _, h, w, sl, fun v t M1 B1 H1 h1 w1 e1 r1 => ?_⟩
  split at h1
  · cases r1 with
    | cons r2 r3 =>
      cases r3 with
      | cons r4 r5 =>
        obtain ⟨v3, rfl, r6⟩ := paired_one r5
        exact ⟨_, _, v3, rfl, g.nx _ M1 B1 _ H1 h1 w1 e1 ((((sl.mono e1).set i r2).set j r4).set l r6)⟩
  · exact h1.elim
@[simp] theorem x_par3 {i j l : Nat} {r : Ma} {E : Es} {τ : En} {M : Mem} : mPar3 i j l r E τ M = r τ M fun ts M1 => match ts with
  | [t, u, v] => E.nx (((τ.set i (some t)).set j (some u)).set l (some v)) M1
  | _ => False := rfl
end

/-! ### a list n times that the frame changes later -/
def oMulL : F2 := fun x y M Q => match x, y with
  | .d (.list a), .d (.int j) => (-(2 ^ 63) ≤ j ∧ j < 2 ^ 63 ∧ a.length * j.toNat ≤ sizeLine) ∧ Q (.lr M.L.length) { M with L := M.L ++ [some (List.replicate j.toNat a).flatten] }
  | _, _ => False
theorem opl_mulL {K : PySem.W.Frag} : OpL K rRep oMulL := by
  intro x y t u M B H Q Q' h w rx ry k
  unfold oMulL at h
  split at h
  · cases rx with
    | lst e1 q1 =>
      cases ry
      obtain ⟨⟨h1, h2, h3⟩, q⟩ := h
      refine ⟨_, _, _, rfl, rfl, w.le _ _ e1, h1, h2, ?_, fun p hp => ?_⟩
      · rw [RpA.length q1]
        exact h3
      · obtain ⟨w2, e2⟩ := w.newL hp (RpA.rep q1 _)
        exact k _ _ _ _ _ q w2 e2 ⟨p, rfl, by rw [← w.llen]; exact get_snoc⟩
  · exact h.elim
theorem me_mulL {X : Cx} {a b : Expr} {ma mb : Me} {pos : Pos} (ha : ME X a ma) (hb : ME X b mb) : ME X (.BinOp a .Mult b pos) (mOp oMulL ma mb) := me_op op_rep opl_mulL ha hb
@[simp] theorem x_mulL {a : List PyData} {j : Int} {M : Mem} {Q : Kt} : oMulL (.d (.list a)) (.d (.int j)) M Q = ((-(2 ^ 63) ≤ j ∧ j < 2 ^ 63 ∧ a.length * j.toNat ≤ sizeLine) ∧ Q (.lr M.L.length) { M with L := M.L ++ [some (List.replicate j.toNat a).flatten] }) := rfl
end L3

set_option Elab.async false
set_option linter.all false
set_option maxRecDepth 100000
namespace L3
open PySem PySem.Spec L2 PyProof.Rows

/-! ### sorted of pairs of ints -/
def rSortP2 (K : PySem.W.Frag) : List V → Hp → VK → Prop := fun vs H Q => ∃ (a : Addr) (ps : List (Addr × Int × Int)), vs = [.ref a] ∧ SqL K H a (ps.map fun p => V.ref p.1) ∧ (∀ q ∈ ps, SqT K H q.1 [V.int q.2.1, V.int q.2.2]) ∧
  ∀ (out : List (Addr × Int × Int)) (d : Addr), out.Perm ps → out.Pairwise (fun x y => SrtO.lexB y.2 x.2 = false) → H d = none → Q (.ref d) (upd H d (.lst (out.map fun p => V.ref p.1)))
def IsPr (h : Heap) (v : Value) (p : Int × Int) : Prop := Srt.IsPair h v p.1 p.2
theorem IsPr.det {h : Heap} {v : Value} {p q : Int × Int} (x : IsPr h v p) (y : IsPr h v q) : p = q := by
  obtain ⟨a, o, t, u, n, rfl, h1, h2, h3⟩ := x
  obtain ⟨a', o', t', u', n', e, h4, h5, h6⟩ := y
  cases e
  rw [h1] at h4
  cases h4
  rw [h3] at h6
  obtain ⟨p1, p2⟩ := p
  obtain ⟨q1, q2⟩ := q
  simp only [Data.seq.injEq] at h6
  have := congrArg Array.toList h6.1
  simp at this
  simp [this.1.1, this.2.1]
open Classical in
noncomputable def kP (h : Heap) (v : Value) : Int × Int := if z : ∃ p, IsPr h v p then choose z else (0, 0)
open Classical in
theorem kP_eq {h : Heap} {v : Value} {p : Int × Int} (x : IsPr h v p) : kP h v = p := by
  have z : ∃ p, IsPr h v p := ⟨p, x⟩
  unfold kP
  rw [dif_pos z]
  exact (choose_spec z).det x
theorem vals_refs2 : ∀ {ps : List (Addr × Int × Int)} {us : List Value}, Vals (ps.map fun p => V.ref p.1) us → us = ps.map fun p => Value.ref p.1
  | [], _, .nil => rfl
  | p :: ps, _, .cons r t => by
    rw [vals_refs2 t]
    have : _ = Value.ref p.1 := r
    rw [List.map_cons, this]
theorem refs_vals2 : ∀ ps : List (Addr × Int × Int), Vals (ps.map fun p => V.ref p.1) (ps.map fun p => Value.ref p.1)
  | [] => .nil
  | p :: ps => .cons rfl (refs_vals2 ps)
theorem cr_sortP2 {X : Cx} : CallR X (.builtin "sorted") (rSortP2 X.K) := by
  intro pins s σ H vs us Q I r h
  obtain ⟨a, ps, rfl, hl, ht, q⟩ := h
  rw [Vals.ref1 r]
  obtain ⟨its, rv, pl, hn⟩ := I.list hl
  have e := vals_refs2 rv
  subst e
  have hT : ∀ x ∈ ps, IsPr s.heap (.ref x.1) x.2 := fun x hx => by
    obtain ⟨it, rt, ⟨⟨cls, dd, data, sl⟩, ho, hc, n, hd⟩, _⟩ := I.tuple (ht x hx)
    simp only at hc hd
    subst hc hd
    cases rt with
    | cons r1 rt =>
      cases rt with
      | cons r2 rt =>
        cases rt
        obtain ⟨t, e1⟩ := r1
        obtain ⟨u, e2⟩ := r2
        subst e1 e2
        exact ⟨x.1, _, t, u, n, rfl, ho, rfl, rfl⟩
  have hk : ∀ u ∈ ps.map (fun p => Value.ref p.1), Srt.IsPair s.heap u (kP s.heap u).1 (kP s.heap u).2 := fun u hu => by
    obtain ⟨x, hx, rfl⟩ := List.mem_map.mp hu
    rw [kP_eq (hT x hx)]
    exact hT x hx
  refine SrtO.sorted_pairsO (k := kP s.heap) (vs := ps.map fun (p : Addr × Int × Int) => Value.ref p.1) ?_ (by simpa using hn) hk fun h' d out h1 h2 h3 h4 ⟨n, h5⟩ => ?_
  · obtain ⟨o, n, h1, h2⟩ := pl
    exact ⟨o, h1, h2.1, n, h2.2.2⟩
  · have e1 : ((ps.map fun p => Value.ref p.1).map fun u => (adV u, kP s.heap u)) = ps := by
      rw [List.map_map]
      conv => rhs; rw [← List.map_id ps]
      refine List.map_congr_left fun x hx => ?_
      show (x.1, kP s.heap (.ref x.1)) = x
      rw [kP_eq (hT x hx)]
    have e2 := h2.perm.map fun u => (adV u, kP s.heap u)
    have e3 : out = (out.map fun u => (adV u, kP s.heap u)).map fun p => Value.ref p.1 := by
      rw [List.map_map]
      conv => lhs; rw [← List.map_id out]
      refine List.map_congr_left fun u hu => ?_
      obtain ⟨x, hx, rfl⟩ := List.mem_map.mp (show u ∈ ps.map (fun (p : Addr × Int × Int) => Value.ref p.1) from h2.perm.mem_iff.mp hu)
      rfl
    refine ⟨.ref d, upd H d (.lst ((out.map fun u => (adV u, kP s.heap u)).map fun p => V.ref p.1)), I.laid h3 h4 ?_, rfl, q _ d ?_ ?_ (I.hok.fresh h4)⟩
    · unfold L2.ObjOk
      have e4 := refs_vals2 (out.map fun u => (adV u, kP s.heap u))
      rw [← e3] at e4
      exact ⟨by
        have h6 := h2.perm.length_eq
        rw [List.length_map, List.length_map, h6]
        simpa using hn, out, n, e4, h5⟩
    · exact e1 ▸ e2
    · rw [List.pairwise_map]
      exact h1
def fSrtP : FA := fun ts M Q => match ts with
  | [.d (.list ds)] => ∃ ps : List (Int × Int), ds = ps.map prI ∧ ∀ out : List (Int × Int), out.Perm ps → out.Pairwise (fun x y => SrtO.lexB y x = false) → Q (.lst (out.map prI)) M
  | _ => False
theorem rpa_prs {K : PySem.W.Frag} {G : Hp} : ∀ {nss : List (Int × Int)} {vs : List V}, RpA K G vs (nss.map prI) → ∃ ps : List (Addr × Int × Int), vs = ps.map (fun p => V.ref p.1) ∧ ps.map (fun p => p.2) = nss ∧ ∀ p ∈ ps, TupC K G p.1 [V.int p.2.1, V.int p.2.2]
  | [], _, .nil => ⟨[], rfl, rfl, fun p hp => nomatch hp⟩
  | ns :: nss, _, .cons r t => by
    obtain ⟨ps, rfl, e, h⟩ := rpa_prs t
    cases r with
    | tup g q =>
      rename_i a xs
      cases q with
      | cons q1 q =>
        cases q with
        | cons q2 q =>
          cases q
          cases q1
          cases q2
          exact ⟨(a, ns) :: ps, rfl, by rw [List.map_cons, e], fun p hp => by
            rcases List.mem_cons.mp hp with z | z
            · rw [z]; exact g
            · exact h p z⟩
theorem prs_rpa {K : PySem.W.Frag} {G : Hp} : ∀ {ps : List (Addr × Int × Int)}, (∀ p ∈ ps, TupC K G p.1 [V.int p.2.1, V.int p.2.2]) → RpA K G (ps.map fun p => V.ref p.1) ((ps.map fun p => p.2).map prI)
  | [], _ => .nil
  | p :: ps, h => .cons (.tup (h p List.mem_cons_self) (.cons (.int _) (.cons (.int _) .nil))) (prs_rpa fun q hq => h q (List.mem_cons_of_mem _ hq))
theorem cal_srtP {K : PySem.W.Frag} : CaL K (rSortP2 K) fSrtP := by
  intro xs ts M B H Q Q' h w r k
  unfold fSrtP at h
  split at h
  · obtain ⟨v, rfl, r1⟩ := paired_one r
    obtain ⟨nss, rfl, h2⟩ := h
    cases (show Rp K B.G v (.list _) from r1) with
    | lst g q =>
      rename_i a vs
      obtain ⟨ps, rfl, e, hp⟩ := rpa_prs q
      refine ⟨a, ps, rfl, SqL.mono w.le (.inl (.inl g)), fun z hz => SqT.mono w.le (hp z hz), fun out d hperm hsort hd => ?_⟩
      obtain ⟨w2, e2'⟩ := w.alloc hd (.lst (out.map fun p => V.ref p.1))
      refine k _ _ M _ _ (h2 (out.map fun p => p.2) ?_ ?_) w2 e2' (.lst upd_same (prs_rpa fun z hz => TupC.mono e2'.g (hp z (hperm.mem_iff.mp hz))))
      · have := hperm.map fun p => p.2
        rw [e] at this
        exact this
      · rw [List.pairwise_map]
        exact hsort
  · exact h.elim
theorem me_srtP {X : Cx} {k : Nat} {e : Expr} {es : List Expr} {mr : Ma} {p pos : Pos} (rm : Room k X.A) (hg : Gl X "sorted") (hm : X.mg "sorted" = none) (ha : MA X (e :: es) mr) (he : starEach (e :: es) X.env = (false, eval e X.env) :: starEach es X.env := by rfl) (hpl : (backTo pos (starEach es X.env)).any (·.1) = false := by rfl) : ME X (.Call (.Name "sorted" p) (e :: es) [] pos) (mCall fSrtP mr) := me_callB cr_sortP2 cal_srtP hg hm (by decide +kernel) ha (by decide) (by decide) he hpl

/-! ### defs that drop what they made: the cells behind those that were there are forgotten -/
def mDefT (n N : Nat) (body : Ms) : FD := fun ts D Q => ts.length = n ∧ body { nx := fun _ M => M.D.take D.length = D ∧ Q .non D, rt := fun t M => (∃ x, t = .d x) ∧ M.D.take D.length = D ∧ Q t D } (ts.map some ++ List.replicate (N - n) none) ⟨D, []⟩
theorem x_defT {n N : Nat} {b : Ms} {ts : List T} {D : List Cell} {Q : T → List Cell → Prop} : mDefT n N b ts D Q = (ts.length = n ∧ b { nx := fun _ M => M.D.take D.length = D ∧ Q .non D, rt := fun t M => (∃ x, t = .d x) ∧ M.D.take D.length = D ∧ Q t D } (ts.map some ++ List.replicate (N - n) none) ⟨D, []⟩) := rfl
theorem Rt.cut {K : PySem.W.Frag} {B B0 : Bk} {v v0 : V} {t : T} (h0 : Rt K { B0 with l := [] } v0 t) (h : Rt K { B with l := [] } v t) : Rt K { B with r := B.r.take B0.r.length, l := [] } v t := by
  cases t with
  | d x => exact h
  | mr i =>
    obtain ⟨a, e, q⟩ := h
    obtain ⟨a0, _, q0⟩ := h0
    have hi : i < B0.r.length := by
      rcases Nat.lt_or_ge i B0.r.length with z | z
      · exact z
      · have q0' : B0.r[i]? = some a0 := q0
        rw [List.getElem?_eq_none z] at q0'
        cases q0'
    refine ⟨a, e, ?_⟩
    show (B.r.take B0.r.length)[i]? = some a
    rw [List.getElem?_take, if_pos hi]
    exact q
  | lr i => exact h
  | scr ns => exact h
  | wt xs => exact h
  | exo a c d e => exact h
theorem paired_cut {K : PySem.W.Frag} {B B0 : Bk} : ∀ {vs0 vs : List V} {ts : List T}, Paired (Rt K { B0 with l := [] }) vs0 ts → Paired (Rt K { B with l := [] }) vs ts → Paired (Rt K { B with r := B.r.take B0.r.length, l := [] }) vs ts
  | _, _, _, .nil, .nil => .nil
  | _, _, _, .cons a q, .cons b r => .cons (Rt.cut a b) (paired_cut q r)
theorem paired_cutD {K : PySem.W.Frag} {B B0 : Bk} : ∀ {vs0 vs : List (Key × V)} {ts : List (Key × T)}, Paired (fun (p : Key × V) (q : Key × T) => p.1 = q.1 ∧ Rt K { B0 with l := [] } p.2 q.2) vs0 ts → Paired (fun (p : Key × V) (q : Key × T) => p.1 = q.1 ∧ Rt K { B with l := [] } p.2 q.2) vs ts → Paired (fun (p : Key × V) (q : Key × T) => p.1 = q.1 ∧ Rt K { B with r := B.r.take B0.r.length, l := [] } p.2 q.2) vs ts
  | _, _, _, .nil, .nil => .nil
  | _, _, _, .cons a q, .cons b r => .cons ⟨b.1, Rt.cut a.2 b.2⟩ (paired_cutD q r)
theorem paired_cutN {K : PySem.W.Frag} {B B0 : Bk} : ∀ {vs0 vs : List (NestedKey × Addr × V)} {ts : List (NestedKey × T)}, Paired (fun (p : NestedKey × Addr × V) (q : NestedKey × T) => p.1 = q.1 ∧ okKey 8 q.1 = true ∧ Rp K B0.G (.ref p.2.1) q.1.data ∧ Rt K { B0 with l := [] } p.2.2 q.2) vs0 ts →
    Paired (fun (p : NestedKey × Addr × V) (q : NestedKey × T) => p.1 = q.1 ∧ okKey 8 q.1 = true ∧ Rp K B.G (.ref p.2.1) q.1.data ∧ Rt K { B with l := [] } p.2.2 q.2) vs ts →
    Paired (fun (p : NestedKey × Addr × V) (q : NestedKey × T) => p.1 = q.1 ∧ okKey 8 q.1 = true ∧ Rp K B.G (.ref p.2.1) q.1.data ∧ Rt K { B with r := B.r.take B0.r.length, l := [] } p.2.2 q.2) vs ts
  | _, _, _, .nil, .nil => .nil
  | _, _, _, .cons a q, .cons b r => .cons ⟨b.1, b.2.1, b.2.2.1, Rt.cut a.2.2.2 b.2.2.2⟩ (paired_cutN q r)
theorem Wd.cut {K : PySem.W.Frag} {B B0 : Bk} {M : Mem} {D : List Cell} {H H0 : Hp} (w0 : Wd K B0 ⟨D, []⟩ H0) (w : Wd K B M H) (hD : M.D.take D.length = D) : Wd K { B with r := B.r.take B0.r.length, l := [] } ⟨D, []⟩ H := by
  have nr : B.r.Nodup := (List.nodup_append.mp w.nd).1
  have l0 : B0.r.length = D.length := w0.rlen
  refine ⟨w.le, ?_, rfl, ?_, fun i a c h1 h2 => ?_, fun i a ds h1 _ => ?_, fun a ha => ?_⟩
  · show (B.r.take B0.r.length).length = D.length
    have := congrArg List.length hD
    rw [List.length_take] at this
    rw [List.length_take, w.rlen, l0]
    exact this
  · show (B.r.take B0.r.length ++ []).Nodup
    rw [List.append_nil]
    exact nr.sublist (List.take_sublist _ _)
  · have h1' : (B.r.take B0.r.length)[i]? = some a := h1
    have h2' : D[i]? = some c := h2
    rw [List.getElem?_take] at h1'
    split at h1'
    · rename_i hi
      have h3 : M.D[i]? = some c := by
        rw [← hD, List.getElem?_take] at h2'
        split at h2'
        · exact h2'
        · cases h2'
      obtain ⟨z1, z2⟩ := w.dc i a c h1' h3
      obtain ⟨z3, z4⟩ := w0.dc i (B0.r[i]'hi) c (List.getElem?_eq_getElem hi) h2'
      refine ⟨z1, ?_⟩
      cases c with
      | lst ts =>
        obtain ⟨xs, e1, e2⟩ := z2
        obtain ⟨xs0, _, e3⟩ := z4
        exact ⟨xs, e1, paired_cut e3 e2⟩
      | dct kvs =>
        obtain ⟨xs, e1, e2⟩ := z2
        obtain ⟨xs0, _, e3⟩ := z4
        exact ⟨xs, e1, paired_cutD e3 e2⟩
      | dnk kvs =>
        obtain ⟨xs, e1, e2⟩ := z2
        obtain ⟨xs0, _, e3⟩ := z4
        exact ⟨xs, e1, paired_cutN e3 e2⟩
    · cases h1'
  · have h1' : ([] : List Addr)[i]? = some a := h1
    simp at h1'
  · have ha' : a ∈ B.r.take B0.r.length ++ [] := ha
    rw [List.append_nil] at ha'
    exact w.tr a (List.mem_append_left _ (List.mem_of_mem_take ha'))
theorem Ext.cut {B B0 : Bk} {H H0 : Hp} (e : Ext B0 H0 B H) : Ext B0 H0 { B with r := B.r.take B0.r.length, l := B0.l } H := by
  have er : B.r.take B0.r.length = B0.r := by
    obtain ⟨c, hc⟩ := e.r
    rw [← hc, List.take_left]
  exact ⟨e.g, by show B0.r <+: B.r.take B0.r.length; rw [er]; exact List.prefix_refl _, List.prefix_refl _, e.fr, e.tr, fun a z => .inl (by have z' : a ∈ B.r.take B0.r.length := z; rw [er] at z'; exact z'), fun a z => .inl z, e.gf⟩
theorem okT_def {P : Program} {w : World} {K : PySem.W.Frag} {mg : Str → Option Value} {base : Heap} {x qual : Str} {st : Stmt} {f : Addr} {fd : FuncData} {N ps : List Str} {k : Nat} {m : Ms}
    (F : Fun K x qual st f fd) (S : FnScope N ps (defScope st))
    (body : ∀ (cdv : Value) (A : Around) (outer : List Env) (sh : Shared) (H : Hp) (E : XK), Gd (A.deeper (PyProof.Rows.envOfC qual (defScope st) sh.heap.objs.size f cdv)) → Room k (A.deeper (PyProof.Rows.envOfC qual (defScope st) sh.heap.objs.size f cdv)) →
      MSs (cxOf CX0 P w K mg base N qual (defScope st) f cdv A outer sh H E).nox (defBody st) m) :
    FnG P w K mg base (k + 1) f fd ps (spM K (mDefT ps.length N.length m)) := by
  refine fng_of F S (fun vs H Q E h => ?_) fun cdv A outer sh H vs Q E gd rm h => ?_
  · obtain ⟨ts, D, B, Q1, ⟨h1, _⟩, _, r, _⟩ := h
    exact (paired_len r).trans h1
  · obtain ⟨ts, D, B, Q1, ⟨h1, h2⟩, wd, r, kk⟩ := h
    refine ⟨_, body cdv A outer sh H E gd rm, ?_⟩
    have lB : B.l = [] := List.length_eq_zero_iff.mp wd.llen
    have s0 := start_sl (N := N) r
    rw [h1] at s0
    refine ⟨_, _, ⟨D, []⟩, B, h2, wd, s0, ⟨fun τ' M' B' σ' H' q w' e' s' => ?_, fun v t M' B' H' q w' e' r' => ?_, fun _ _ _ _ _ q => q.elim, fun _ _ _ _ _ q => q.elim⟩⟩
    · have e2 := e'.cut
      rw [lB] at e2
      exact kk .non .non D _ H' q.2 (Wd.cut wd w' q.1) e2 .non
    · obtain ⟨⟨x, rfl⟩, q1, q2⟩ := q
      have e2 := e'.cut
      rw [lB] at e2
      exact kk v (.d x) D _ H' q2 (Wd.cut wd w' q1) e2 r'
end L3

set_option Elab.async false
set_option linter.all false
set_option maxRecDepth 100000
namespace L3
open PySem PySem.Spec L2 PyProof.Rows

/-! ### an empty dict of the deck; in, not in a dict of the deck -/
theorem KT.lookN {K : PySem.W.Frag} {B : Bk} {vs : List (Key × V)} {ts : List (Key × T)} {k : Key} (h : KT K B vs ts) : (valV vs k).isSome = (lookT ts k).isSome := by
  induction h with
  | nil => rfl
  | @cons p q ps qs f _ ih =>
    by_cases z : q.1 = k
    · have e' : lookT (q :: qs) k = some q.2 := by simp [lookT, List.find?_cons, z]
      rw [e', valV_pos (f.1.trans z)]
      rfl
    · have e' : lookT (q :: qs) k = lookT qs k := by simp [lookT, List.find?_cons, z]
      rw [e', valV_neg fun y => z (f.1.symm.trans y), ih]
def oDIn (n : Bool) : F2 := fun x y M Q => match keyOf x, y with
  | some k, .mr i => (match M.D[i]? with
    | some (.dct kvs) => Q (.bl (if n then !(lookT kvs k).isSome else (lookT kvs k).isSome)) M
    | _ => False)
  | _, _ => False
@[simp] theorem x_din {n : Bool} {j : Int} {i : Nat} {M : Mem} {Q : Kt} : oDIn n (.d (.int j)) (.mr i) M Q = (match M.D[i]? with
    | some (.dct kvs) => Q (.bl (if n then !(lookT kvs (.inl j)).isSome else (lookT kvs (.inl j)).isSome)) M
    | _ => False) := rfl
@[simp] theorem x_keyI {j : Int} : keyOf (.d (.int j)) = some (.inl j) := rfl
section
variable {X : Cx} {o i : Expr} {mo mi : Me} {pos : Pos}
theorem me_din {k : Nat} (rm : Room k X.A) (hi : ME X i mi) (ho : ME X o mo) (hm : behindInMarks .In o = false := by with_unfolding_all rfl) : ME X (.Compare i [.In] [o] pos) (mOp (oDIn false) mi mo) := PE.of (pe_cmp (pc_din (hu_of rm) hi ho) hm) fun σ H Q' ⟨τ, M, B, Q, h, w, s, k⟩ => by
  refine ⟨τ, M, B, _, h, w, s, fun y ty M1 B1 H1 h1 w1 e1 r1 => ⟨τ, M1, B1, _, h1, w1, s.mono e1, fun x tx M2 B2 H2 h2 w2 e2 r2 => ?_⟩⟩
  unfold oDIn at h2
  split at h2
  · rename_i kk j hk
    split at h2
    · rename_i kvs hD
      obtain ⟨a, rfl, ha⟩ := r2
      obtain ⟨_, vs, e, q⟩ := w2.dc _ _ _ ha hD
      refine ⟨a, _, rfl, by rw [keyOf_kV (Rt.mono e2 r1) hk]; exact DGet.k e, ?_⟩
      rw [KT.lookN q]
      exact k _ _ M2 B2 H2 h2 w2 (e1.trans e2) (.bl _)
    · exact h2.elim
  · exact h2.elim
theorem mb_din {k : Nat} (rm : Room k X.A) (hi : ME X i mi) (ho : ME X o mo) (hm : behindInMarks .In o = false := by with_unfolding_all rfl) : MB X (.Compare i [.In] [o] pos) (mTest (mOp (oDIn false) mi mo)) := PT.of (pt_cmp (pc_din (hu_of rm) hi ho) hm) fun σ H Q' ⟨τ, M, B, Q, h, w, s, k⟩ => by
  refine ⟨τ, M, B, _, h, w, s, fun y ty M1 B1 H1 h1 w1 e1 r1 => ⟨τ, M1, B1, _, h1, w1, s.mono e1, fun x tx M2 B2 H2 h2 w2 e2 r2 => ?_⟩⟩
  unfold oDIn at h2
  split at h2
  · rename_i kk j hk
    split at h2
    · rename_i kvs hD
      obtain ⟨a, rfl, ha⟩ := r2
      obtain ⟨_, vs, e, q⟩ := w2.dc _ _ _ ha hD
      refine ⟨a, _, rfl, by rw [keyOf_kV (Rt.mono e2 r1) hk]; exact DGet.k e, _, rfl, ?_⟩
      rw [KT.lookN q]
      obtain ⟨k2, e3, h3⟩ := h2
      cases e3
      exact k _ M2 B2 H2 h3 w2 (e1.trans e2)
    · exact h2.elim
  · exact h2.elim
def mDNew : Me := fun _ M Q => Q (.mr M.D.length) { M with D := M.D ++ [.dct []] }
@[simp] theorem x_dnew {τ : En} {M : Mem} {Q : Kt} : mDNew τ M Q = Q (.mr M.D.length) { M with D := M.D ++ [.dct []] } := rfl
theorem me_dnew : ME X (.Dict [] [] pos) mDNew := PE.of pe_dnewK fun σ H Q' ⟨τ, M, B, Q, h, w, s, k⟩ => by
  intro p hp
  obtain ⟨w2, e2⟩ := w.newD hp (o := .dK []) (c := .dct []) fun H' eH => ⟨[], eH, .nil⟩
  exact k _ _ _ _ _ h w2 e2 ⟨p, rfl, by rw [← w.rlen]; exact get_snoc⟩
end
end L3

set_option Elab.async false
set_option linter.all false
set_option maxRecDepth 100000
namespace Sh
open PySem PySem.Spec L2 L3
/-! ### a row again and again, and going on at once -/
theorem rup_sh {x e m : Int} (h : 0 < m) (d : m ∣ e) : rup (x + e) m = rup x m + e := by
  obtain ⟨c, rfl⟩ := d
  unfold rup
  have : x + m * c + m - 1 = (x + m - 1) + m * c := by omega
  rw [this, Int.add_mul_ediv_left _ _ (by omega), Int.add_mul]
  rw [Int.mul_comm c m]
theorem rend_sh {K : Bk6} (g : GB K) {e : Int} : ∀ {t : List Nat} {x : Int}, (∀ i ∈ t, (kat K i).2 ∣ e) → rend K t (x + e) = rend K t x + e
  | [], _, _ => rfl
  | i :: t, x, h => by
    have hp := (kat_al g i).1.pos
    have h2 : sfin K i (x + e) = sfin K i x + e := by
      unfold sfin
      rw [rup_sh (by omega) (h i List.mem_cons_self)]
      omega
    show rend K t (sfin K i (x + e)) = rend K t (sfin K i x) + e
    rw [h2]
    exact rend_sh g fun j hj => h j (List.mem_cons_of_mem _ hj)
def Rn (K : Bk6) (r : List Nat) (n : Nat) (x : Int) : Int := rend K (List.replicate n r).flatten x
theorem Rn_zero (K : Bk6) (r : List Nat) (x : Int) : Rn K r 0 x = x := rfl
theorem Rn_succ (K : Bk6) (r : List Nat) (n : Nat) (x : Int) : Rn K r (n + 1) x = Rn K r n (rend K r x) := by
  unfold Rn
  rw [List.replicate_succ, List.flatten_cons, rend_app]
theorem Rn_add (K : Bk6) (r : List Nat) (a b : Nat) (x : Int) : Rn K r (a + b) x = Rn K r b (Rn K r a x) := by
  unfold Rn
  rw [← List.replicate_append_replicate, List.flatten_append, rend_app]
theorem Rn_sh {K : Bk6} (g : GB K) {r : List Nat} {n : Nat} {x c : Int} (h : ∀ i ∈ r, (kat K i).2 ∣ c) : Rn K r n (x + c) = Rn K r n x + c := by
  unfold Rn
  refine rend_sh g fun i hi => ?_
  obtain ⟨l, hl, hi⟩ := List.mem_flatten.mp hi
  rw [List.eq_of_mem_replicate hl] at hi
  exact h i hi
theorem Rn_cyc {K : Bk6} (g : GB K) {r : List Nat} {t : Nat} {x y : Int} (h : ∀ i ∈ r, (kat K i).2 ∣ y - x) (e : Rn K r t x = y) : ∀ k : Nat, Rn K r (k * t) y = y + (k : Int) * (y - x)
  | 0 => by rw [Nat.zero_mul, Rn_zero]; simp
  | k + 1 => by
    have e1 : (k + 1) * t = k * t + t := by rw [Nat.add_mul, Nat.one_mul]
    have e2 : y + (k : Int) * (y - x) = x + ((k + 1 : Nat) : Int) * (y - x) := by
      rw [Int.natCast_succ, Int.add_mul]
      omega
    rw [e1, Rn_add, Rn_cyc g h e k, e2, Rn_sh g fun i hi => Int.dvd_trans (h i hi) (Int.dvd_mul_left _ _), e]
theorem Rn_le {K : Bk6} (g : GB K) {r : List Nat} (hr : ∀ i ∈ r, i < K.length) (hl : r.length ≤ 100) : ∀ (n : Nat) {x : Int}, 0 ≤ x → x ≤ Rn K r n x ∧ Rn K r n x ≤ x + (n : Int) * 100000000000000000000000000006400
  | 0, x, _ => by rw [Rn_zero]; omega
  | n + 1, x, h => by
    have h1 := rend_le g (r := r) (e := x) hr h
    have h2 := Rn_le g hr hl n (x := rend K r x) (by omega)
    rw [Rn_succ]
    have : ((n + 1 : Nat) : Int) * 100000000000000000000000000006400 = (n : Int) * 100000000000000000000000000006400 + 100000000000000000000000000006400 := by rw [Int.natCast_succ, Int.add_mul]; omega
    omega
/-! ### dicts by rests -/
theorem pig : ∀ (n : Nat) (l : List Nat), l.Nodup → (∀ x ∈ l, x < n) → l.length ≤ n
  | 0, l, _, h => by
    cases l with
    | nil => simp
    | cons a l => exact absurd (h a List.mem_cons_self) (by omega)
  | n + 1, l, nd, h => by
    have h1 := pig n (l.erase n) (nd.erase n) fun x hx => by
      have := (nd.mem_erase_iff).mp hx
      have := h x this.2
      omega
    have h2 := List.length_erase (a := n) (l := l)
    split at h2 <;> omega
structure Kn (P : Int → T → Prop) (kvs : List (Key × T)) : Prop where
  nd : (kvs.map (·.1)).Nodup
  ok : ∀ p ∈ kvs, ∃ j : Int, p.1 = .inl j ∧ 0 ≤ j ∧ j < 64 ∧ P j p.2
theorem Kn.nil {P : Int → T → Prop} : Kn P [] := ⟨List.nodup_nil, fun p h => nomatch h⟩
theorem Kn.imp {P Q : Int → T → Prop} {kvs : List (Key × T)} (h : Kn P kvs) (f : ∀ j t, P j t → Q j t) : Kn Q kvs :=
  ⟨h.nd, fun p hp => let ⟨j, a, b, c, d⟩ := h.ok p hp; ⟨j, a, b, c, f _ _ d⟩⟩
theorem Kn.put {P : Int → T → Prop} {kvs : List (Key × T)} {j : Int} {t : T} (h : Kn P kvs) (h0 : 0 ≤ j) (h1 : j < 64) (hp : P j t) : Kn P (putT kvs (.inl j) t) := by
  unfold putT
  split
  · refine ⟨?_, fun p hm => ?_⟩
    · have e : (kvs.map fun kv => if kv.1 = (.inl j : Key) then (kv.1, t) else kv).map (·.1) = kvs.map (·.1) := by
        rw [List.map_map]
        refine List.map_congr_left fun kv _ => ?_
        show (if kv.1 = (.inl j : Key) then (kv.1, t) else kv).1 = kv.1
        split <;> rfl
      rw [e]
      exact h.nd
    · obtain ⟨kv, hk, rfl⟩ := List.mem_map.mp hm
      by_cases z : kv.1 = (.inl j : Key)
      · rw [if_pos z]
        exact ⟨j, z, h0, h1, hp⟩
      · rw [if_neg z]
        exact h.ok kv hk
  · rename_i hn
    refine ⟨?_, fun p hm => ?_⟩
    · rw [List.map_append]
      refine List.nodup_append.mpr ⟨h.nd, by simp, fun a ha b hb => ?_⟩
      rw [List.mem_singleton.mp hb]
      rintro rfl
      obtain ⟨kv, hk, e⟩ := List.mem_map.mp ha
      exact hn (List.any_eq_true.mpr ⟨kv, hk, decide_eq_true e⟩)
    · rcases List.mem_append.mp hm with z | z
      · exact h.ok p z
      · rw [List.mem_singleton.mp z]
        exact ⟨j, rfl, h0, h1, hp⟩
theorem Kn.look {P : Int → T → Prop} {kvs : List (Key × T)} {j : Int} {t : T} (h : Kn P kvs) (e : lookT kvs (.inl j) = some t) : P j t := by
  unfold lookT at e
  cases hf : kvs.find? fun kv => decide (kv.1 = (.inl j : Key)) with
  | none => rw [hf] at e; cases e
  | some p =>
    rw [hf] at e
    cases e
    have h0 := List.find?_some hf
    have h1 : p.1 = (.inl j : Key) := of_decide_eq_true h0
    obtain ⟨i, a, _, _, d⟩ := h.ok p (List.mem_of_find?_eq_some hf)
    rw [h1] at a
    cases a
    exact d
def kN : Key → Nat
  | .inl j => j.toNat
  | _ => 0
theorem Kn.len {P : Int → T → Prop} {kvs : List (Key × T)} (h : Kn P kvs) : kvs.length ≤ 64 := by
  have := pig 64 (kvs.map fun p => kN p.1) ?_ fun x hx => ?_
  · simpa using this
  · have nd := h.nd
    unfold List.Nodup at nd ⊢
    rw [List.pairwise_map] at nd ⊢
    refine List.Pairwise.imp_of_mem (fun {a b} ha hb hne => ?_) nd
    obtain ⟨i, e1, i0, _, _⟩ := h.ok a ha
    obtain ⟨j, e2, j0, _, _⟩ := h.ok b hb
    rw [e1, e2] at hne ⊢
    intro z
    have z' : i.toNat = j.toNat := z
    exact hne (by rw [show i = j by omega])
  · obtain ⟨p, hp, rfl⟩ := List.mem_map.mp hx
    obtain ⟨j, e, j0, j1, _⟩ := h.ok p hp
    rw [e]
    show j.toNat < 64
    omega
end Sh

set_option Elab.async false
set_option linter.all false
set_option maxRecDepth 100000
namespace Wl
open PySem PySem.Spec L2 L3
/-! ### steps of readings, by refine -/
theorem w_an {R : List T → Mem → Prop} {τ : En} {M : Mem} (h : R [] M) : aNil τ M R := h
theorem w_c {x : PyData} {τ : En} {M : Mem} {Q : Kt} (h : Q (.d x) M) : mC x τ M Q := h
theorem w_le {a b : Int} {M : Mem} {Q : Kt} (h : Q (.bl (decide (a ≤ b))) M) : oLe (.d (.int a)) (.d (.int b)) M Q := by
  rw [x_le]
  exact h
theorem w_leT {a b : Int} {M : Mem} {Q : Kt} (z : a ≤ b) (h : Q (.bl true) M) : oLe (.d (.int a)) (.d (.int b)) M Q := by
  rw [x_le, decide_eq_true z]
  exact h
theorem w_eqI {n : Bool} {a b : Int} {M : Mem} {Q : Kt} (h : Q (.bl (if n then !decide (a = b) else decide (a = b))) M) : oEq n (.d (.int a)) (.d (.int b)) M Q := by
  rw [x_eqi]
  exact h
theorem w_sub {a b : Int} {M : Mem} {Q : Kt} (h : Q (.int (a - b)) M) : oSub (.d (.int a)) (.d (.int b)) M Q := by
  rw [x_sub]
  exact h
theorem ifT {p q : Prop} {b : Bool} (h : b = true) (x : p) : if b = true then p else q := by
  rw [if_pos h]
  exact x
theorem ifF {p q : Prop} {b : Bool} (h : ¬ b = true) (x : q) : if b = true then p else q := by
  rw [if_neg h]
  exact x
theorem w_mod {a b : Int} {M : Mem} {Q : Kt} (z : 0 < b) (h : Q (.int (a % b)) M) : oMod (.d (.int a)) (.d (.int b)) M Q := by
  rw [x_mod]
  exact ⟨z, h⟩
theorem w_int {a : Int} {M : Mem} {Q : Kt} (h : Q (.int a) M) : fInt [.d (.int a)] M Q := by
  rw [x_int]
  exact h
theorem w_dget {i : Nat} {j : Int} {kvs : List (Key × T)} {t : T} {M : Mem} {Q : Kt} (h : M.D[i]? = some (.dct kvs)) (e : lookT kvs (.inl j) = some t) (q : Q t M) : oDGet (.mr i) (.d (.int j)) M Q := by
  show (match M.D[i]? with
    | some (.dct kvs) => ∃ t, lookT kvs (.inl j) = some t ∧ Q t M
    | _ => False)
  rw [h]
  exact ⟨t, e, q⟩
theorem w_din {i : Nat} {j : Int} {kvs : List (Key × T)} {M : Mem} {Q : Kt} (h : M.D[i]? = some (.dct kvs)) (q : Q (.bl (lookT kvs (.inl j)).isSome) M) : oDIn false (.d (.int j)) (.mr i) M Q := by
  rw [x_din, h]
  exact q
theorem w_ge {a b : Int} {M : Mem} {Q : Kt} (h : Q (.bl (decide (b ≤ a))) M) : oGe (.d (.int a)) (.d (.int b)) M Q := by
  rw [x_ge]
  exact h
theorem w_lt {a b : Int} {M : Mem} {Q : Kt} (h : Q (.bl (decide (a < b))) M) : oLt (.d (.int a)) (.d (.int b)) M Q := by
  rw [x_lt]
  exact h
theorem w_add {a b : Int} {M : Mem} {Q : Kt} (h : Q (.int (a + b)) M) : oAdd (.d (.int a)) (.d (.int b)) M Q := h
theorem w_mulW {a b : Int} {M : Mem} {Q : Kt} (z : CBig a b) (h : Q (.int (a * b)) M) : oMulW (.d (.int a)) (.d (.int b)) M Q := by
  rw [x_mulW]
  exact ⟨z, h⟩
theorem w_divW {a b : Int} {M : Mem} {Q : Kt} (z : CDvW a b) (h : Q (.int (a / b)) M) : oDivW (.d (.int a)) (.d (.int b)) M Q := by
  rw [x_divW]
  exact ⟨z, h⟩
theorem w_dput {d k v : Me} {E : Es} {τ : En} {M : Mem} (h : v τ M fun t M1 => d τ M1 fun x M2 => k τ M2 fun y M3 => match x, keyOf y with
  | .mr i, some kk => (match M3.D[i]? with
    | some (.dct kvs) => noL t = true ∧ kvs.length < sizeLine ∧ E.nx τ { M3 with D := M3.D.set i (.dct (putT kvs kk t)) }
    | _ => False)
  | _, _ => False) : mDPut d k v E τ M := h
theorem take_setI {α : Type} (l : List α) (i n : Nat) (x : α) (h : n ≤ i) : (l.set i x).take n = l.take n := by
  refine List.ext_getElem? fun j => ?_
  rw [List.getElem?_take, List.getElem?_take]
  split
  · rw [List.getElem?_set_ne (by omega)]
  · rfl
theorem w_gt {a b : Int} {M : Mem} {Q : Kt} (h : Q (.bl (decide (b < a))) M) : oGt (.d (.int a)) (.d (.int b)) M Q := by
  rw [x_gt]
  exact h
theorem w_appL {i : Nat} {z : PyData} {ds : List PyData} {D : List Cell} {L : List (Option (List PyData))} {Q : Kt} (h : L[i]? = some (some ds)) (hl : ds.length < sizeLine) (q : Q .non ⟨D, L.set i (some (ds ++ [z]))⟩) : fApp (.lr i) [.d z] ⟨D, L⟩ Q := by
  rw [x_appL]
  show (match L[i]? with
    | some (some ds) => ds.length < sizeLine ∧ Q .non ⟨D, L.set i (some (ds ++ [z]))⟩
    | _ => False)
  rw [h]
  exact ⟨hl, q⟩
theorem w_eqsT {a : Str} {M : Mem} {Q : Kt} (q : Q (.bl true) M) : oEq false (.d (.str a)) (.d (.str a)) M Q := by
  simp
  exact q
theorem w_nesF {a : Str} {M : Mem} {Q : Kt} (q : Q (.bl false) M) : oEq true (.d (.str a)) (.d (.str a)) M Q := by
  simp
  exact q
theorem tw_dd {i j : Nat} {x y : PyData} {τ : En} {M : Mem} {P : En → Mem → Prop} (h : P ((τ.set i (some (.d x))).set j (some (.d y))) M) : gTu 2 (gsCons (gN i) (gsCons (gN j) gsNil)) (T.tup [x, y]) τ M P := ⟨rfl, rfl, h⟩
theorem tw_wt {i j : Nat} {x y : PyData} {τ : En} {M : Mem} {P : En → Mem → Prop} (h : P ((τ.set i (some (.d x))).set j (some (.d y))) M) : gTu 2 (gsCons (gN i) (gsCons (gN j) gsNil)) (T.wt [x, y]) τ M P := ⟨rfl, rfl, h⟩
end Wl

set_option Elab.async false
set_option linter.all false
set_option maxRecDepth 100000
set_option maxHeartbeats 2000000
/-! exceptions over trees: what may raise is read with a wish for what is raised -/
namespace L3
open PySem PySem.Spec L2

/-- the exception of the class cls, its dict at d, is e -/
def Rx (K : PySem.W.Frag) (mg : Str → Option Value) (G : Hp) (cls : Value) (d : Option Addr) (e : Exn) : Prop := mg e.cls = some cls ∧ ExR K G d e
abbrev Wx := Exn → Mem → Prop
abbrev Wxs := Exn → En → Mem → Prop
abbrev MeX := Wx → Me
abbrev MaX := Wx → Ma
abbrev MsX := Wxs → Ms
def GoW (K : PySem.W.Frag) (mg : Str → Option Value) (Wt : Wx) (W : WX) (σ : St) (B : Bk) (H : Hp) : Prop := ∀ e cls d M' B' H', Wt e M' → Wd K B' M' H' → Ext B H B' H' → Rx K mg B'.G cls d e → W cls d σ H'
def GoS (K : PySem.W.Frag) (mg : Str → Option Value) (Wt : Wxs) (W : WX) (B : Bk) (H : Hp) : Prop := ∀ e cls d τ' M' B' σ' H', Wt e τ' M' → Wd K B' M' H' → Ext B H B' H' → Sl K B' σ' τ' → Rx K mg B'.G cls d e → W cls d σ' H'
theorem GoW.ext {K : PySem.W.Frag} {mg : Str → Option Value} {Wt : Wx} {W : WX} {σ : St} {B B1 : Bk} {H H1 : Hp} (g : GoW K mg Wt W σ B H) (x : Ext B H B1 H1) : GoW K mg Wt W σ B1 H1 := fun e c d M' B' H' h w y r => g e c d M' B' H' h w (x.trans y) r
theorem GoS.ext {K : PySem.W.Frag} {mg : Str → Option Value} {Wt : Wxs} {W : WX} {B B1 : Bk} {H H1 : Hp} (g : GoS K mg Wt W B H) (x : Ext B H B1 H1) : GoS K mg Wt W B1 H1 := fun e c d t M' B' s H' h w y l r => g e c d t M' B' s H' h w (x.trans y) l r
theorem GoS.at {K : PySem.W.Frag} {mg : Str → Option Value} {Wt : Wxs} {W : WX} {B : Bk} {H : Hp} {σ : St} {τ : En} (g : GoS K mg Wt W B H) (s : Sl K B σ τ) : GoW K mg (fun e M => Wt e τ M) W σ B H := fun e c d M' B' H' h w y r => g e c d τ M' B' σ H' h w y (s.mono y) r
def rEX (K : PySem.W.Frag) (mg : Str → Option Value) (W : WX) (m : MeX) : TE := fun σ H Q' => ∃ τ M B Q Wt, m Wt τ M Q ∧ Wd K B M H ∧ Sl K B σ τ ∧ (∀ v t M' B' H', Q t M' → Wd K B' M' H' → Ext B H B' H' → Rt K B' v t → Q' v H') ∧ GoW K mg Wt W σ B H
def rAX (K : PySem.W.Frag) (mg : Str → Option Value) (W : WX) (m : MaX) : TA := fun σ H Q' => ∃ τ M B Q Wt, m Wt τ M Q ∧ Wd K B M H ∧ Sl K B σ τ ∧ (∀ v t M' B' H', Q t M' → Wd K B' M' H' → Ext B H B' H' → Paired (Rt K B') v t → Q' v H') ∧ GoW K mg Wt W σ B H
def rSX (K : PySem.W.Frag) (mg : Str → Option Value) (W : WX) (m : MsX) : TS := fun D σ H => ∃ E Wt τ M B, m Wt E τ M ∧ Wd K B M H ∧ Sl K B σ τ ∧ Go K E D B H ∧ GoS K mg Wt W B H
def MEX (X : Cx) (e : Expr) (m : MeX) : Prop := ∀ W, Takes X W → PE X e (rEX X.K X.mg W m)
def MAX (X : Cx) (e : List Expr) (m : MaX) : Prop := ∀ W, Takes X W → PA X e (rAX X.K X.mg W m)
def MSX (X : Cx) (e : Stmt) (m : MsX) : Prop := ∀ W, Takes X W → PS X e (rSX X.K X.mg W m)
def MSsX (X : Cx) (e : List Stmt) (m : MsX) : Prop := ∀ W, Takes X W → PSs X e (rSX X.K X.mg W m)
section
variable {X : Cx} {a b e : Expr} {es : List Expr} {m : Me} {mx my : MeX} {mr : Ma} {mrx : MaX} {mc : Mb} {pos : Pos}
theorem mex_lift (h : ME X e m) : MEX X e fun _ => m := fun W tk => PE.of h fun σ H Q' ⟨τ, M, B, Q, _, h1, w, s, k, _⟩ => ⟨τ, M, B, Q, h1, w, s, k⟩
theorem max_lift (h : MA X es mr) : MAX X es fun _ => mr := fun W tk => PA.of h fun σ H Q' ⟨τ, M, B, Q, _, h1, w, s, k, _⟩ => ⟨τ, M, B, Q, h1, w, s, k⟩
theorem max_cons (ha : MEX X e mx) (hr : MAX X es mrx) (hs : starEach (e :: es) X.env = (false, eval e X.env) :: starEach es X.env := by rfl) : MAX X (e :: es) fun Wt => aCons (mx Wt) (mrx Wt) := fun W tk => PA.of (pa_cons (ha W tk) (hr W tk) hs) fun σ H Q' ⟨τ, M, B, Q, Wt, h, w, s, k, g⟩ => by
  refine ⟨τ, M, B, _, Wt, h, w, s, fun v t M1 B1 H1 h1 w1 e1 r1 => ⟨τ, M1, B1, _, Wt, h1, w1, s.mono e1, fun v2 t2 M2 B2 H2 h2 w2 e2 r2 => ?_, g.ext e1⟩, g⟩
  exact k _ _ M2 B2 H2 h2 w2 (e1.trans e2) (.cons (Rt.mono e2 r1) r2)
theorem mex_lst (h : MAX X es mrx) : MEX X (.List es pos) fun Wt => mLst (mrx Wt) := fun W tk => PE.of (pe_lst (h W tk)) fun σ H Q' ⟨τ, M, B, Q, Wt, h, w, s, k, g⟩ => by
  refine ⟨τ, M, B, _, Wt, h, w, s, fun v t M1 B1 H1 h1 w1 e1 r1 => ?_, g⟩
  split at h1
  · rename_i ds hd
    have q := datas_rpa r1 hd
    refine ⟨by rw [RpA.length q]; exact h1.1, fun p hp => ?_⟩
    obtain ⟨w2, e2⟩ := w1.alloc hp (.lst v)
    exact k _ _ M1 _ _ h1.2 w2 (e1.trans e2) (.lst upd_same (RpA.mono e2.g q))
  · exact h1.elim
theorem mex_tup {x1 : Nat} (h : MAX X es mrx) : MEX X (.Tuple es x1 pos) fun Wt => mTup (mrx Wt) := fun W tk => PE.of (pe_tupC (h W tk)) fun σ H Q' ⟨τ, M, B, Q, Wt, h, w, s, k, g⟩ => by
  refine ⟨τ, M, B, _, Wt, h, w, s, fun v t M1 B1 H1 h1 w1 e1 r1 => ?_, g⟩
  split at h1
  · rename_i ds hd
    have q := datas_rpa r1 hd
    refine ⟨by rw [RpA.length q]; exact h1.1, fun p o hp ho => ?_⟩
    obtain ⟨w2, e2⟩ := w1.alloc hp (.frz o (.tup v))
    exact k _ _ M1 _ _ h1.2 w2 (e1.trans e2) (.tup (.inl ⟨o, upd_same, ho⟩) (RpA.mono e2.g q))
  · exact h1.elim
theorem mex_ite (hc : MB X b mc) (ha : MEX X a mx) (hb : MEX X e my) : MEX X (.IfExp b a e pos) fun Wt => mIte mc (mx Wt) (my Wt) := fun W tk => PE.of (pe_ifExp hc (ha W tk) (hb W tk)) fun σ H Q' ⟨τ, M, B, Q, Wt, h, w, s, k, g⟩ => by
  refine ⟨τ, M, B, _, h, w, s, fun v M1 B1 H1 h1 w1 e1 => ?_⟩
  cases v with
  | true => exact ⟨τ, M1, B1, Q, Wt, h1, w1, s.mono e1, fun v t M2 B2 H2 h2 w2 e2 => k v t M2 B2 H2 h2 w2 (e1.trans e2), g.ext e1⟩
  | false => exact ⟨τ, M1, B1, Q, Wt, h1, w1, s.mono e1, fun v t M2 B2 H2 h2 w2 e2 => k v t M2 B2 H2 h2 w2 (e1.trans e2), g.ext e1⟩
theorem twoX {r : R2} {f : F2} (ho : OpL X.K r f) {W : WX} {σ : St} {H : Hp} {Q' : VK} (h : rEX X.K X.mg W (fun Wt => mOp f (mx Wt) (my Wt)) σ H Q') : tOp r (rEX X.K X.mg W mx) (rEX X.K X.mg W my) σ H Q' := by
  obtain ⟨τ, M, B, Q, Wt, h, w, s, k, g⟩ := h
  refine ⟨τ, M, B, _, Wt, h, w, s, fun x t M1 B1 H1 h1 w1 e1 r1 => ⟨τ, M1, B1, _, Wt, h1, w1, s.mono e1, fun y u M2 B2 H2 h2 w2 e2 r2 => ?_, g.ext e1⟩, g⟩
  exact ho x y t u M2 B2 H2 Q Q' h2 w2 (Rt.mono e2 r1) r2 fun v t' M' B' H' q w' e' r' => k v t' M' B' H' q w' (e1.trans (e2.trans e')) r'
theorem mex_cmp {op : CmpOp} {r : R2} {f : F2} (ho : OpR X (compareOp op) r) (hl : OpL X.K r f) (ha : MEX X a mx) (hb : MEX X b my) (hm : behindInMarks op b = false) : MEX X (.Compare a [op] [b] pos) fun Wt => mOp f (mx Wt) (my Wt) := fun W tk => PE.of (pe_cmpR ho (ha W tk) (hb W tk) hm) fun _ _ _ h => twoX hl h
/-- a call of a built-in by name, an argument raising -/
theorem mex_callTy {x : Str} {p : Pos} {id : String} {r : List V → Hp → VK → Prop} {f : FA} (hc : CallR X (.type id) r) (hl : CaL X.K r f) (hg : Gl X x) (hm : X.mg x = none) (hv : bootBuiltins x = some (.type id)) (ha : MAX X (e :: es) mrx) (hn : x ≠ "__name__" := by decide) (hdb : (x == ("__debug__" : Str)) = false := by decide)
    (he : starEach (e :: es) X.env = (false, eval e X.env) :: starEach es X.env := by rfl) (hpl : (backTo pos (starEach es X.env)).any (·.1) = false := by rfl) : MEX X (.Call (.Name x p) (e :: es) [] pos) fun Wt => mCall f (mrx Wt) := fun W tk => PE.of (pe_callTy hc hg hm hv (ha W tk) hn hdb he hpl) fun σ H Q' ⟨τ, M, B, Q, Wt, h, w, s, k, g⟩ =>
  ⟨τ, M, B, _, Wt, h, w, s, fun v t M1 B1 H1 h1 w1 e1 r1 => hl v t M1 B1 H1 Q Q' h1 w1 r1 fun v t M2 B2 H2 h2 w2 e2 => k v t M2 B2 H2 h2 w2 (e1.trans e2), g⟩
theorem mex_callB {x : Str} {p : Pos} {id : String} {r : List V → Hp → VK → Prop} {f : FA} (hc : CallR X (.builtin id) r) (hl : CaL X.K r f) (hg : Gl X x) (hm : X.mg x = none) (hv : bootBuiltins x = some (.builtin id)) (ha : MAX X (e :: es) mrx) (hn : x ≠ "__name__" := by decide) (hdb : (x == ("__debug__" : Str)) = false := by decide)
    (he : starEach (e :: es) X.env = (false, eval e X.env) :: starEach es X.env := by rfl) (hpl : (backTo pos (starEach es X.env)).any (·.1) = false := by rfl) : MEX X (.Call (.Name x p) (e :: es) [] pos) fun Wt => mCall f (mrx Wt) := fun W tk => PE.of (pe_callB hc hg hm hv (ha W tk) hn hdb he hpl) fun σ H Q' ⟨τ, M, B, Q, Wt, h, w, s, k, g⟩ =>
  ⟨τ, M, B, _, Wt, h, w, s, fun v t M1 B1 H1 h1 w1 e1 r1 => hl v t M1 B1 H1 Q Q' h1 w1 r1 fun v t M2 B2 H2 h2 w2 e2 => k v t M2 B2 H2 h2 w2 (e1.trans e2), g⟩
end
/-! ### statements -/
section
variable {X : Cx} {e c tg : Expr} {m : Me} {mx : MeX} {mc : Mb} {st : Stmt} {sts a b : List Stmt} {s : Ms} {sx rx : MsX} {pos : Pos} {g : Mg}
theorem msx_lift (h : MS X st s) : MSX X st fun _ => s := fun W tk => PS.of h fun D σ H ⟨E, _, τ, M, B, h1, w, l, g, _⟩ => ⟨E, τ, M, B, h1, w, l, g⟩
theorem mssx_lift (h : MSs X sts s) : MSsX X sts fun _ => s := fun W tk => PSs.of h fun D σ H ⟨E, _, τ, M, B, h1, w, l, g, _⟩ => ⟨E, τ, M, B, h1, w, l, g⟩
theorem mssx_cons (h1 : MSX X st sx) (h2 : MSsX X sts rx) : MSsX X (st :: sts) fun Wt => mSeq (sx Wt) (rx Wt) := fun W tk => PSs.of (pss_cons (h1 W tk) (h2 W tk)) fun D σ H ⟨E, Wt, τ, M, B, h, w, sl, g, gs⟩ =>
  ⟨{ E with nx := rx Wt E }, Wt, τ, M, B, h, w, sl, ⟨fun τ' M' B' σ' H' q w' e' s' => ⟨E, Wt, τ', M', B', q, w', s', g.ext e', gs.ext e'⟩, g.rt, g.bk, g.ct⟩, gs⟩
theorem mssx_one (h1 : MSX X st sx) : MSsX X [st] sx := fun W tk => pss_one (h1 W tk)
theorem msx_if (hc : MB X c mc) (ha : MSsX X a sx) (hb : MSsX X b rx) : MSX X (.If c a b pos) fun Wt => mIf mc (sx Wt) (rx Wt) := fun W tk => PS.of (ps_if hc (ha W tk) (hb W tk)) fun D σ H ⟨E, Wt, τ, M, B, h, w, sl, g, gs⟩ => by
  refine ⟨τ, M, B, _, h, w, sl, fun k M1 B1 H1 h1 w1 e1 => ?_⟩
  cases k with
  | true => exact ⟨E, Wt, τ, M1, B1, h1, w1, sl.mono e1, g.ext e1, gs.ext e1⟩
  | false => exact ⟨E, Wt, τ, M1, B1, h1, w1, sl.mono e1, g.ext e1, gs.ext e1⟩
/-- the wish of a statement, at its slots -/
abbrev atW (Wt : Wxs) (m : Wx → Ms) : Ms := fun E τ M => m (fun e M' => Wt e τ M') E τ M
theorem msx_expr (he : MEX X e mx) (hs : swapsWith e none pos.line X.env = pure false := by rfl) : MSX X (.Expr e pos) fun Wt => atW Wt fun W0 => mDrop (mx W0) := fun W tk => PS.of (ps_expr (he W tk) hs) fun D σ H ⟨E, Wt, τ, M, B, h, w, sl, g, gs⟩ =>
  ⟨τ, M, B, _, _, h, w, sl, fun v t M1 B1 H1 h1 w1 e1 _ => g.nx τ M1 B1 σ H1 h1 w1 e1 (sl.mono e1), gs.at sl⟩
theorem msx_ret (he : MEX X e mx) : MSX X (.Return (some e) pos) fun Wt => atW Wt fun W0 => mRet (mx W0) := fun W tk => PS.of (ps_ret (he W tk)) fun D σ H ⟨E, Wt, τ, M, B, h, w, sl, g, gs⟩ =>
  ⟨τ, M, B, _, _, h, w, sl, g.rt, gs.at sl⟩
theorem msx_set {i : Nat} {x : Str} {pos' : Pos} (hN : X.N.Nodup) (hi : X.N[i]? = some x) (hx : Loc X.env.scope x) (he : MEX X e mx) (hs : swapsWith e (some (.Name x pos')) pos.line X.env = pure false := by rfl)
    (hf : X.fn x = true ∨ X.env.scope.names.lookup x = some .local := by first | exact .inl rfl | exact .inr rfl | assumption) : MSX X (.Assign [.Name x pos'] e pos) fun Wt => atW Wt fun W0 => mSet i (mx W0) := fun W tk => PS.of (L2.ps_set hN hi hx (he W tk) hs hf) fun D σ H ⟨E, Wt, τ, M, B, h, w, sl, g, gs⟩ =>
  ⟨τ, M, B, _, _, h, w, sl, fun v t M1 B1 H1 h1 w1 e1 r1 => g.nx _ M1 B1 _ H1 h1 w1 e1 ((sl.mono e1).set i r1), gs.at sl⟩
theorem msx_asg {os : List Nat} (he : MEX X e mx) (hg : MG X tg os g) (hs : swapsWithSole [tg] e pos.line X.env = pure false := by rfl) (hw : swappedStores [tg] e X.env = pure none := by rfl)
    (h1 : (assignEach [tg] X.env).map (·.2) = [assign tg X.env] := by rfl) : MSX X (.Assign [tg] e pos) fun Wt => atW Wt fun W0 => mAsg (mx W0) g := fun W tk => PS.of (ps_asg (he W tk) hg hs hw h1) fun D σ H ⟨E, Wt, τ, M, B, h, w, sl, g, gs⟩ =>
  ⟨τ, M, B, _, _, h, w, sl, fun v t M1 B1 H1 h1 w1 e1 r1 => ⟨t, τ, M1, B1, _, h1, w1, sl.mono e1, r1, fun τ2 M2 B2 σ2 H2 h2 w2 e2 s2 _ => g.nx _ M2 B2 _ H2 h2 w2 (e1.trans e2) s2⟩, gs.at sl⟩
end
/-! ### raise of a class without its own __init__ -/
/-- what the written part says of an exception class -/
structure ExF (K : PySem.W.Frag) (C : Addr) : Prop where
  kp : PySem.W.keepIn K (.ref C) = true
  su : PySem.W.subIn K (.ref C) (.type "BaseException") = some true
  ty : PySem.W.typeIn K (.ref C) = some (.type "type")
  cl : (PySem.W.clsIn K C).isSome = true
  ga : PySem.W.findIn K (.ref C) "__getattribute__" = some (some (.builtin "BaseException.__getattribute__"))
  gt : PySem.W.findIn K (.ref C) "__getattr__" = some none
  ha : PySem.W.findIn K (.ref C) "__class__" = some (some (.builtin "object.__class__"))
  hn : PySem.W.specialIn K (.builtin "object.__class__") "__get__" = some (some (.builtin "getset_descriptor.__get__"))
  tk : PySem.W.takesIn K (.builtin "object.__class__") = some true
  mo : PySem.W.mroIn K C (.type "object") = some true
/-- the class is known by its name -/
def Kx (K : PySem.W.Frag) (mg : Str → Option Value) (c : Str) : Prop := ∃ C, mg c = some (.ref C) ∧ ExF K C
abbrev tailVE : List Value := [.type "ValueError", .type "Exception", .type "BaseException", .type "object"]
/-- .. and has no __init__ of its own -/
def KxN (K : PySem.W.Frag) (mg : Str → Option Value) (c : Str) : Prop := ∃ C, mg c = some (.ref C) ∧ ExF K C ∧ PySem.W.excIn K C tailVE "ValueError.__new__" = true
/-- raise X() -/
def mRaise0 (c : Str) (Wt : Wxs) : Ms := fun _ τ M => Wt { cls := c } τ M
section
variable {X : Cx}
theorem pmk_new0 {x : Str} {C : Addr} {p pos : Pos} (q : PySem.W.excIn X.K C tailVE "ValueError.__new__" = true) (gC : X.mg x = some (.ref C)) (T : ExF X.K C) (hg : Gl X x) (hdb : (x == ("__debug__" : Str)) = false := by decide) :
    PMk X (.Call (.Name x p) [] [] pos) fun _ H Q => Q (.ref C) none H := by
  intro pn sh sg hp Q iv h
  refine wpAny_Call_Name_kw (ld_glob iv hg gC ?_ hdb)
  refine PySem.W.callWith_K0 iv.kIn T.kp ?_
  obtain ⟨bm, N, nm, qn, bs, hdct, sn, sub, ab, col, dd, k0, k1, k2, k3, k5, mN, hC, hN, hni, tl⟩ := exc_obj iv.kIn q
  refine wpAny_call_exc_subT PySem.F.excBase_ValueError tl hC hN hni (fun h' e hm => ?_) (Nat.zero_le _)
  exact mk_of iv hm (raises_own T.su T.ty) h (iv.hok.gone hm.new)
theorem msx_raise0 {x : Str} {p pos pos2 : Pos} (hc : X.calm = true) (T : KxN X.K X.mg x) (hg : Gl X x) (hdb : (x == ("__debug__" : Str)) = false := by decide) : MSX X (.Raise (some (.Call (.Name x p) [] [] pos)) none pos2) (mRaise0 x) := fun W tk => by
  obtain ⟨C, gC, F, q⟩ := T
  refine PS.of (ps_raise hc tk (pmk_new0 q gC F hg hdb)) fun D σ H ⟨E, Wt, τ, M, B, h, w, sl, g, gs⟩ => ?_
  exact gs { cls := x } (.ref C) none τ M B σ H h w (.refl _ _) sl ⟨gC, rfl⟩
end
/-! ### defs that may raise -/
abbrev FX := List T → List Cell → (T → List Cell → Prop) → (Exn → List Cell → Prop) → Prop
def spX (K : PySem.W.Frag) (mg : Str → Option Value) (m : FX) : Sp := fun vs H Q E => ∃ ts D B Q1 W1, m ts D Q1 W1 ∧ Wd K B ⟨D, []⟩ H ∧ Paired (Rt K B) vs ts ∧ (∀ v t D' B' H', Q1 t D' → Wd K B' ⟨D', []⟩ H' → Ext B H B' H' → Rt K B' v t → Q v H') ∧
  ∀ e cls d D' B' H', W1 e D' → Wd K B' ⟨D', []⟩ H' → Ext B H B' H' → Rx K mg B'.G cls d e → E cls d H'
def mDefX (n N : Nat) (body : MsX) : FX := fun ts D Q W => ts.length = n ∧ body (fun e _ M => W e M.D) { nx := fun _ M => Q .non M.D, rt := fun t M => noL t = true ∧ Q t M.D } (ts.map some ++ List.replicate (N - n) none) ⟨D, []⟩
theorem x_defX {n N : Nat} {b : MsX} {ts : List T} {D : List Cell} {Q : T → List Cell → Prop} {W : Exn → List Cell → Prop} : mDefX n N b ts D Q W = (ts.length = n ∧ b (fun e _ M => W e M.D) { nx := fun _ M => Q .non M.D, rt := fun t M => noL t = true ∧ Q t M.D } (ts.map some ++ List.replicate (N - n) none) ⟨D, []⟩) := rfl
structure FnX (P : Program) (w : World) (K : PySem.W.Frag) (mg : Str → Option Value) (base : Heap) (k : Nat) (f : Addr) (fd : FuncData) (ps : List Str) (sp : Sp) : Prop where
  len : ∀ vs H Q E, sp vs H Q E → vs.length = ps.length
  run : ∀ (A : Around) (outer : List Env) (sh : Shared) (H : Hp) (args : Args) (us : List Value) (vs : List V) (Q : VK) (E : XK), Gd A → Room k A → Env0 P w K mg base A outer sh H → BindsTo sh fd args (ps.zip us) → Vals vs us → sp vs H Q E →
    codeAny (model P w) A (.call (.ref f) args) (CR (L2.CX P w) outer P w H sh Q E) sh
theorem FnX.mono {P : Program} {w : World} {K : PySem.W.Frag} {mg : Str → Option Value} {base : Heap} {j k : Nat} {f : Addr} {fd : FuncData} {ps : List Str} {sp : Sp} (F : FnX P w K mg base j f fd ps sp) (h : j ≤ k) : FnX P w K mg base k f fd ps sp :=
  ⟨F.len, fun A outer sh H args us vs Q E gd rm => F.run A outer sh H args us vs Q E gd (rm.mono h)⟩
theorem fnx_of {P : Program} {w : World} {K : PySem.W.Frag} {mg : Str → Option Value} {base : Heap} {x qual : Str} {st : Stmt} {f : Addr} {fd : FuncData} {N ps : List Str} {k : Nat} {sp : Sp}
    (F : Fun K x qual st f fd) (S : FnScope N ps (defScope st)) (len : ∀ vs H Q E, sp vs H Q E → vs.length = ps.length)
    (body : ∀ (cdv : Value) (A : Around) (outer : List Env) (sh : Shared) (H : Hp) (vs : List V) (Q : VK) (E : XK), Gd (A.deeper (PyProof.Rows.envOfC qual (defScope st) sh.heap.objs.size f cdv)) → Room k (A.deeper (PyProof.Rows.envOfC qual (defScope st) sh.heap.objs.size f cdv)) → sp vs H Q E →
      ∃ t, PSs (cxOf (L2.CX P w) P w K mg base N qual (defScope st) f cdv A outer sh H E) (defBody st) t ∧ t { nx := fun _ H' => Q .non H', rt := Q } (start N vs) H) :
    FnX P w K mg base (k + 1) f fd ps sp := by
  obtain ⟨oc, od, kV, doc, pm, an, cdv, ct, osl, rfl, lk, hcd⟩ := F.ex
  refine ⟨len, fun A outer sh H args us vs Q E gd rm e0 bnd rv q => ?_⟩
  have hlen := len _ _ _ _ q
  have kin : K.In sh.heap := e0.mod.kin.keeps fun b o z => (e0.bs b o z).1
  have nolim : sh.heap.NoLimit := e0.mod.nolimit.keeps fun b o z => (e0.bs b o z).1
  have kinds : ∀ y ∈ ps.zip us, (defScope st).names.lookup y.1 = some .local ∨ ((defScope st).names.lookup y.1 = some .cell ∧ ((cellsFrom (sh.heap.objs.size + 1) (defScope st).names []).lookup y.1).isSome = true) := by
    rintro ⟨nm, vl⟩ hy
    exact (S.par nm (List.of_mem_zip hy).1).elim .inl fun z => .inr ⟨z, PySem.W.cellsFrom_some _ _ _ (.inl z)⟩
  refine codeAny_call_function rm.depth (kin _ _ lk) rfl S.co S.gen rfl (PySem.W.codeRec_of kin hcd) (bnd _ _ _ _ ?_)
  refine wpAny_newFunctionEnv_cells S.kind kinds fun env he sh1 xx => ?_
  subst he
  refine ⟨nolim.keeps xx.toInCall.keep, codeAny_func ?_⟩
  obtain ⟨t, ht, hq⟩ := body cdv A outer sh H vs Q E gd (rm.deeper _) q
  have iv := inv_start (CX := L2.CX P w) (E := E) S rm.hd e0 hlen rv xx
  refine wpAny_mono (ht.run [] sh1 (start N vs) H _ iv hq) (fun fl sh' hs => ?_) fun _ _ hs => hs
  cases fl with
  | ret u =>
    obtain ⟨v, σ', H', J, r', q'⟩ := hs
    exact ⟨v, H', J.os, J.bare, J.base, J.hok, r', q'⟩
  | next =>
    obtain ⟨σ', H', J, q'⟩ := hs
    exact ⟨V.non, H', J.os, J.bare, J.base, J.hok, rfl, q'⟩
  | brk => obtain ⟨_, _, _, q'⟩ := hs; exact False.elim q'
  | cont => obtain ⟨_, _, _, q'⟩ := hs; exact False.elim q'
theorem Ext.leave {B B' : Bk} {H H' : Hp} (lB : B.l = []) (e : Ext B H B' H') : Ext B H { B' with l := [] } H' :=
  ⟨e.g, e.r, by rw [lB]; exact List.nil_prefix, e.fr, e.tr, e.rn, fun a z => absurd z (by simp), e.gf⟩
theorem okX_def {P : Program} {w : World} {K : PySem.W.Frag} {mg : Str → Option Value} {base : Heap} {x qual : Str} {st : Stmt} {f : Addr} {fd : FuncData} {N ps : List Str} {k : Nat} {m : MsX}
    (F : Fun K x qual st f fd) (S : FnScope N ps (defScope st))
    (body : ∀ (cdv : Value) (A : Around) (outer : List Env) (sh : Shared) (H : Hp) (E : XK), Gd (A.deeper (PyProof.Rows.envOfC qual (defScope st) sh.heap.objs.size f cdv)) → Room k (A.deeper (PyProof.Rows.envOfC qual (defScope st) sh.heap.objs.size f cdv)) →
      PassesOwn (model P w) (A.deeper (PyProof.Rows.envOfC qual (defScope st) sh.heap.objs.size f cdv)) (PyProof.Rows.envOfC qual (defScope st) sh.heap.objs.size f cdv) (cxOf (L2.CX P w) P w K mg base N qual (defScope st) f cdv A outer sh H E).xe →
      MSsX (cxOf (L2.CX P w) P w K mg base N qual (defScope st) f cdv A outer sh H E) (defBody st) m) :
    FnX P w K mg base (k + 1) f fd ps (spX K mg (mDefX ps.length N.length m)) := by
  refine fnx_of F S (fun vs H Q E h => ?_) fun cdv A outer sh H vs Q E gd rm h => ?_
  · obtain ⟨ts, D, B, Q1, W1, ⟨h1, _⟩, _, r, _⟩ := h
    exact (paired_len r).trans h1
  · obtain ⟨ts, D, B, Q1, W1, ⟨h1, h2⟩, wd, r, kk, kx⟩ := h
    refine ⟨_, body cdv A outer sh H E gd rm (passes_of rfl) (fun cls d _ H' => E cls d H') (takes_of rfl rfl rfl rfl), ?_⟩
    have lB : B.l = [] := List.length_eq_zero_iff.mp wd.llen
    have s0 := start_sl (N := N) r
    rw [h1] at s0
    refine ⟨_, _, _, ⟨D, []⟩, B, h2, wd, s0, ⟨fun τ' M' B' σ' H' q w' e' s' => ?_, fun v t M' B' H' q w' e' r' => ?_, fun _ _ _ _ _ q => q.elim, fun _ _ _ _ _ q => q.elim⟩, fun e cls d τ' M' B' σ' H' q w' e' _ rx => ?_⟩
    · exact kk .non .non M'.D { B' with l := [] } H' q w'.leave (e'.leave lB) .non
    · exact kk v t M'.D { B' with l := [] } H' q.2 w'.leave (e'.leave lB) (r'.deck q.1)
    · exact kx e cls d M'.D { B' with l := [] } H' q w'.leave (e'.leave lB) rx
/-! ### calls of them -/
def fDefX (m : FX) (Wt : Wx) : FA := fun ts M Q => (∀ t ∈ ts, noL t = true) ∧ m ts M.D (fun t D' => Q t { M with D := D' }) fun e D' => Wt e { M with D := D' }
/-- back in the frame that called: its own lists are there again -/
theorem back_wd {K : PySem.W.Frag} {M : Mem} {B B1 : Bk} {H H1 : Hp} {D' : List Cell} (w : Wd K B M H) (w1 : Wd K B1 ⟨D', []⟩ H1) (e1 : Ext { B with l := [] } H B1 H1) :
    Wd K { B1 with l := B.l } { M with D := D' } H1 ∧ Ext B H { B1 with l := B.l } H1 := by
  have l1 : B1.l = [] := List.length_eq_zero_iff.mp w1.llen
  have own : ∀ a ∈ B.l, H a ≠ none := fun a z => w.tr a (List.mem_append_right _ z)
  have nr1 : ∀ a ∈ B.l, a ∉ B1.r := fun a z y => by
    rcases e1.rn a y with q | q
    · exact w.rl q z
    · exact own a z q
  have stay : ∀ {a : Addr} {o : HO}, a ∈ B.l → H a = some o → H1 a = some o := fun {a o} z e => e1.fr a o e (fun y => w.rl y z) fun y => by cases y
  refine ⟨⟨w1.le, w1.rlen, w.llen, ?_, w1.dc, fun i a ds h1 h2 => ?_, fun a ha => ?_⟩, ⟨e1.g, e1.r, List.prefix_refl _, fun a o e n1 n2 => e1.fr a o e n1 (by intro y; cases y), e1.tr, e1.rn, fun a z => .inl z, fun a o e => (e1.gf a o e).elim .inl fun z => z.elim (fun z => .inr (.inl z)) (by intro z; cases z)⟩⟩
  · show (B1.r ++ B.l).Nodup
    have n1 := w1.nd
    rw [l1, List.append_nil] at n1
    refine List.nodup_append.mpr ⟨n1, (List.nodup_append.mp w.nd).2.1, fun x hx y hy z => ?_⟩
    subst z
    exact nr1 x hy hx
  · obtain ⟨q1, xs, q2, q3⟩ := w.lc i a ds h1 h2
    have ml := mem_of_get h1
    refine ⟨?_, xs, stay ml q2, RpA.mono e1.g q3⟩
    show B1.G a = none
    cases z : B1.G a with
    | none => rfl
    | some o =>
      rcases e1.gf a o z with y | y | y
      · rw [show B.G a = none from q1] at y; cases y
      · exact absurd y (own a ml)
      · cases y
  · have ha' : a ∈ B1.r ++ B.l := ha
    rcases List.mem_append.mp ha' with z | z
    · exact w1.tr a (List.mem_append_left _ z)
    · exact fun y => own a z (e1.tr a y)
theorem back_rt {K : PySem.W.Frag} {B B1 : Bk} {v : V} {t : T} (l1 : B1.l = []) (r1 : Rt K B1 v t) : Rt K { B1 with l := B.l } v t := by
  cases t with
  | d x => exact r1
  | mr i => exact r1
  | lr i =>
    obtain ⟨a, _, z⟩ := r1
    rw [l1] at z
    simp at z
  | scr ns => exact r1
  | wt xs => exact r1
  | exo a c d e => exact r1
theorem spx_of {K : PySem.W.Frag} {mg : Str → Option Value} {m : FX} {vs : List V} {ts : List T} {M : Mem} {B : Bk} {H : Hp} {Q : Kt} {Q' : VK} {Wt : Wx} {E : XK} (h : fDefX m Wt ts M Q) (w : Wd K B M H) (r : Paired (Rt K B) vs ts)
    (k : ∀ v t' M' B' H', Q t' M' → Wd K B' M' H' → Ext B H B' H' → Rt K B' v t' → Q' v H') (kx : ∀ e cls d M' B' H', Wt e M' → Wd K B' M' H' → Ext B H B' H' → Rx K mg B'.G cls d e → E cls d H') : spX K mg m vs H Q' E := by
  refine ⟨ts, M.D, { B with l := [] }, _, _, h.2, w.leave, paired_deck r h.1, fun v t D' B1 H1 q w1 e1 r1 => ?_, fun e cls d D' B1 H1 q w1 e1 r1 => ?_⟩
  · obtain ⟨w2, e2⟩ := back_wd w w1 e1
    exact k v t _ _ H1 q w2 e2 (back_rt (List.length_eq_zero_iff.mp w1.llen) r1)
  · obtain ⟨w2, e2⟩ := back_wd w w1 e1
    exact kx e cls d _ _ H1 q w2 e2 r1
def KnX (P : Program) (w : World) (K : PySem.W.Frag) (mg : Str → Option Value) (base : Heap) (k : Nat) (x : Str) (st : Stmt) (ps : List Str) (m : FX) : Prop :=
  ∃ f fd, FnX P w K mg base k f fd ps (spX K mg m) ∧ mg x = some (.ref f) ∧ Fun K x x st f fd ∧ Binds K fd ps []
section
variable {X : Cx} {j k : Nat} {x : Str} {st : Stmt} {f : Addr} {fd : FuncData} {ps ks : List Str} {m : FX} {p pos : Pos} {e : Expr} {es : List Expr} {mr : Ma} {kws : List Keyword}
theorem run_x {args : Args} {us : List Value} {vs : List V} {sp : Sp} {pn : List (Addr × Obj)} {sh : Shared} {sg : L2.St} {hp : Hp} {Q : VK} {W : WX} (F : FnX X.prog X.w X.K X.mg X.base k f fd ps sp) (gd : Gd X.A) (rm : Room k X.A)
    (hb : BindsTo sh fd args (ps.zip us)) (tk : Takes X W) (iv : Inv X pn sg hp sh) (rv : Vals vs us) (h : sp vs hp Q fun cls d H' => W cls d sg H') : wpAny (model X.prog X.w) X.A (call (.ref f) args.pos args.kw) (EP X pn sg Q) X.xe sh := by
  refine wpAny_call (codeAny_mono (F.run X.A X.stack sh hp args us vs Q _ gd rm iv.env0 hb rv h) fun r sh' hq => ?_)
  cases r with
  | error z => exact passAt tk sg pn hp sh z sh' iv hq
  | ok fl =>
    cases fl with
    | ret u => exact iv.after hq
    | next => exact hq.elim
    | brk => exact hq.elim
    | cont => exact hq.elim
theorem mex_fn (h : KnX X.prog X.w X.K X.mg X.base j x st ps m) (gd : Gd X.A) (rm : Room k X.A) (hj : j ≤ k) (hg : Gl X x) (ha : MA X (e :: es) mr) (hdb : (x == ("__debug__" : Str)) = false := by decide)
    (he : starEach (e :: es) X.env = (false, eval e X.env) :: starEach es X.env := by rfl) (hpl : (backTo pos (starEach es X.env)).any (·.1) = false := by rfl) : MEX X (.Call (.Name x p) (e :: es) [] pos) fun Wt => mCall (fDefX m Wt) mr := fun W tk => by
  obtain ⟨f, fd, F, hm, U, hb⟩ := h
  have rm := rm.mono hj
  refine ⟨fun pn sh sg hp Q' iv ⟨τ, M, B, Q, Wt, h, w, s, kk, g⟩ => wpAny_Call_Name_kw (ld_glob iv hg hm ?_ hdb)⟩
  let P := fun (vs : List V) (H1 : Hp) => spX X.K X.mg m vs H1 Q' fun cls d H' => W cls d sg H'
  refine PySem.W.callWith_K (h₀ := X.base) iv.ok.mod.kin U.kp (thn (ha.run pos pn sh sg hp P iv ⟨τ, M, B, _, h, w, s, fun vs ts M1 B1 H1 h1 w1 e1 r1 => ?_⟩) fun us s1 ⟨vs, H1, i1, r, q⟩ => ⟨i1.kIn, ?_⟩) he hpl
  · exact spx_of h1 w1 r1 (fun v t M2 B2 H2 h2 w2 e2 r2 => kk v t M2 B2 H2 h2 w2 (e1.trans e2) r2) fun e c d M2 B2 H2 h2 w2 e2 r2 => g e c d M2 B2 H2 h2 w2 (e1.trans e2) r2
  · have hl : (us ++ []).length = ps.length := by
      rw [List.append_nil, ← r.length]
      exact F.len _ _ _ _ q
    have hbb := hb s1 us i1.kIn hl
    rw [List.append_nil] at hbb
    exact run_x (args := ⟨us, []⟩) F gd rm hbb tk i1 r q
theorem mex_fnK {g : {α : Type} → List α → List α} (h : KnX X.prog X.w X.K X.mg X.base j x st ps m) (gd : Gd X.A) (rm : Room k X.A) (hj : j ≤ k) (hg : Gl X x) (hb : ∀ f fd, Fun X.K x x st f fd → KB X.K fd ps ks g)
    (ha : MK X kws mr) (hall : (backToKw pos (keywordEach kws X.env)).all (·.1.isSome) = true := by rfl) (hks : (backToKw pos (keywordEach kws X.env)).filterMap (·.1) = ks := by rfl) (hdb : (x == ("__debug__" : Str)) = false := by decide)
    (hpl : ((backTo pos (starEach [] X.env)).any (·.1) || (backToKw pos (keywordEach kws X.env)).any (·.1.isNone)) = false := by rfl) : MEX X (.Call (.Name x p) [] kws pos) fun Wt => mCallK g ks.length (fDefX m Wt) mr := fun W tk => by
  obtain ⟨f, fd, F, hm, U, _⟩ := h
  have hb := hb _ _ U
  have rm := rm.mono hj
  refine ⟨fun pn sh sg hp Q' iv ⟨τ, M, B, Q, Wt, h, w, s, kk, gw⟩ => wpAny_Call_Name_kw (ld_glob iv hg hm ?_ hdb)⟩
  let P := fun (vs : List V) (H1 : Hp) => vs.length = ks.length ∧ spX X.K X.mg m (g vs) H1 Q' fun cls d H' => W cls d sg H'
  refine PySem.W.callWith_KW0 (h₀ := X.base) iv.ok.mod.kin U.kp hall (thn (ha.run pos pn sh sg hp P iv ⟨τ, M, B, _, h, w, s, fun vs ts M1 B1 H1 h1 w1 e1 r1 => ?_⟩) fun us s1 ⟨vs, H1, i1, r, l, q⟩ => ⟨i1.kIn, ?_⟩) hpl
  · have l1 : vs.length = ks.length := (paired_len r1).trans h1.1
    exact ⟨l1, spx_of h1.2 w1 (hb.rel _ l1 r1) (fun v t M2 B2 H2 h2 w2 e2 r2 => kk v t M2 B2 H2 h2 w2 (e1.trans e2) r2) fun e c d M2 B2 H2 h2 w2 e2 r2 => gw e c d M2 B2 H2 h2 w2 (e1.trans e2) r2⟩
  · rw [hks]
    have l2 : us.length = ks.length := by
      rw [← r.length]
      exact l
    exact run_x (args := ⟨[], ks.zip us⟩) F gd rm (hb.to s1 us i1.kIn l2) tk i1 (hb.rel _ l r) q
end
end L3

set_option Elab.async false
set_option linter.all false
set_option maxRecDepth 100000
set_option maxHeartbeats 2000000
/-! try .. except X as n -/
namespace L3
open PySem PySem.Spec L2

/-- cls is the class c, and the clause names D: that is a hit -/
def Hits (K : PySem.W.Frag) (mg : Str → Option Value) (D : Str) (cs : List Str) : Prop := ∃ C, mg D = some (.ref C) ∧ ∀ c ∈ cs, ∀ cls, mg c = some cls → PySem.W.exmOne K cls (.ref C) = some true
/-- body; what is raised is of the classes cs, all caught: suite, its name at i -/
def mTryAs (cs : List Str) (i : Nat) (body : MsX) (suite : Addr → Value → Option Addr → Exn → Ms) : Ms := fun E τ M => body (fun e τ' M' => e.cls ∈ cs ∧ ∀ a cls d, suite a cls d e { nx := fun τ2 M2 => E.nx (τ2.set i none) M2, rt := E.rt, bk := fun τ2 M2 => E.bk (τ2.set i none) M2, ct := fun τ2 M2 => E.ct (τ2.set i none) M2 } (τ'.set i (some (.exo a cls d e))) M') E τ M
/-- .. without a name -/
def mTryOnly (cs : List Str) (body : MsX) (suite : Ms) : Ms := fun E τ M => body (fun e τ' M' => e.cls ∈ cs ∧ suite E τ' M') E τ M
section
variable {X : Cx} {x n : Str} {cs : List Str} {i : Nat} {body suite : List Stmt} {b₀ : Stmt} {np pos pos' : Pos} {mb : MsX} {ms : Addr → Value → Option Addr → Exn → Ms} {mo : Ms}
theorem ms_tryAs (hs : X.stack = X.env :: X.outer) (hf : X.env.frame = some X.env.locals) (hN : X.N.Nodup) (hi : X.N[i]? = some n) (hln : X.env.kindOf n = some .local) (hg : Gl X x) (hdb : (x == ("__debug__" : Str)) = false) (hh : Hits X.K X.mg x cs)
    (hb : ∀ (pn : List (Addr × Obj)) (xe : Value → Shared → Prop), PassesOwn (model X.prog X.w) X.A X.env xe → MSsX (X.tr pn xe) body mb)
    (hsu : ∀ (a : Addr) (oe : Obj) (cls : Value) (d : Option Addr) (e : Exn) (pn : List (Addr × Obj)), Zc cls d oe → (∃ vs, oe.data = .fields vs) → X.mg e.cls = some cls → MSs (X.suite a ((a, oe) :: pn)) (b₀ :: suite) (ms a cls d e)) :
    MS X (.Try body [.ExceptHandler (some (.Name x np)) (some n) (b₀ :: suite) pos'] [] [] pos) (mTryAs cs i mb ms) := by
  obtain ⟨C, gC, hits⟩ := hh
  let ts : Addr → Value → Option Addr → TS := fun a cls d D σ H => ∃ e, X.mg e.cls = some cls ∧ rS X.K (ms a cls d e) D σ H
  refine PS.of (ps_try_as (tb := fun W => rSX X.K X.mg W mb) (ts := ts) (Wout := fun _ _ _ _ => False) hs hf hN hi hln ⟨hg, hdb, .inl gC⟩ takes0 (fun W pn xe tk po => hb pn xe po W tk) fun a oe cls d pn hz hfd => ?_) fun D σ H ⟨E, τ, M, B, h, w, sl, g⟩ => ?_
  · exact ⟨fun pn2 s2 σ2 H2 D2 iv ⟨e, he, q⟩ => (hsu a oe cls d e pn hz hfd he).run pn2 s2 σ2 H2 D2 iv q⟩
  · refine ⟨E, _, τ, M, B, h, w, sl, g, fun e cls d τ' M' B' σ' H' hw w' e' s' rx => ?_⟩
    refine ⟨true, hits e.cls hw.1 cls rx.1, fun _ a ha => ⟨e, rx.1, _, _, M', B', hw.2 a cls d, w', s'.set i ⟨rfl, rx.2⟩, ?_⟩, fun z => Bool.noConfusion z⟩
    refine ⟨fun τ2 M2 B2 σ2 H2 q w2 e2 s2 => g.nx _ M2 B2 _ H2 q w2 (e'.trans e2) (s2.clr i), fun v t M2 B2 H2 q w2 e2 r2 => g.rt v t M2 B2 H2 q w2 (e'.trans e2) r2, fun τ2 M2 B2 σ2 H2 q w2 e2 s2 => g.bk _ M2 B2 _ H2 q w2 (e'.trans e2) (s2.clr i), fun τ2 M2 B2 σ2 H2 q w2 e2 s2 => g.ct _ M2 B2 _ H2 q w2 (e'.trans e2) (s2.clr i)⟩
theorem ms_tryOnly (hs : X.stack = X.env :: X.outer) (hf : X.env.frame = some X.env.locals) (hg : Gl X x) (hdb : (x == ("__debug__" : Str)) = false) (hh : Hits X.K X.mg x cs)
    (hb : ∀ (pn : List (Addr × Obj)) (xe : Value → Shared → Prop), PassesOwn (model X.prog X.w) X.A X.env xe → MSsX (X.tr pn xe) body mb)
    (hsu : ∀ (a : Addr) (oe : Obj) (pn : List (Addr × Obj)), MSs (X.suite a ((a, oe) :: pn)) (b₀ :: suite) mo) :
    MS X (.Try body [.ExceptHandler (some (.Name x np)) none (b₀ :: suite) pos'] [] [] pos) (mTryOnly cs mb mo) := by
  obtain ⟨C, gC, hits⟩ := hh
  refine PS.of (ps_try_only (tb := fun W => rSX X.K X.mg W mb) (ts := fun _ _ _ => rS X.K mo) (Wout := fun _ _ _ _ => False) hs hf ⟨hg, hdb, .inl gC⟩ takes0 (fun W pn xe tk po => hb pn xe po W tk) fun a oe cls d pn hz hfd => hsu a oe pn) fun D σ H ⟨E, τ, M, B, h, w, sl, g⟩ => ?_
  refine ⟨E, _, τ, M, B, h, w, sl, g, fun e cls d τ' M' B' σ' H' hw w' e' s' rx => ?_⟩
  exact ⟨true, hits e.cls hw.1 cls rx.1, fun _ a ha => ⟨E, _, M', B', hw.2, w', s', g.ext e'⟩, fun z => Bool.noConfusion z⟩
end
/-! ### isinstance(n, D), n.f in a suite -/
/-- what isinstance says of an exception of the class c, asked for the class that D names -/
def IsiT (K : PySem.W.Frag) (mg : Str → Option Value) (D : V) (tab : List (Str × Bool)) : Prop := (∃ cv, ∀ u, RelV D u → u = cv) ∧ ∀ r ∈ tab, Kx K mg r.1 ∧ ∀ cls, mg r.1 = some cls → ∀ cv, RelV D cv → PySem.W.kitOne K cls cv = some r.2
/-- isinstance(n, D), n at i the exception that the suite holds -/
def mIsE (a : Addr) (cls : Value) (d : Option Addr) (e : Exn) (i : Nat) (tab : List (Str × Bool)) : Me := fun τ M Q => τ[i]? = some (some (.exo a cls d e)) ∧ ∃ b, (e.cls, b) ∈ tab ∧ Q (.bl b) M
section
variable {X : Cx} {a : Addr} {oe : Obj} {cls : Value} {d : Option Addr} {e : Exn} {pn : List (Addr × Obj)} {i : Nat} {x n : Str} {p p2 p3 pos : Pos}
def rIsX (K : PySem.W.Frag) (a : Addr) (cls : Value) (d : Option Addr) : List V → Hp → VK → Prop := fun xs H Q => ∃ (C : Addr) (c : V) (cv : Value) (b : Bool), cls = .ref C ∧ ExF K C ∧ xs = [.ref a, c] ∧ (∀ u, RelV c u → u = cv) ∧ PySem.W.kitOne K cls cv = some b ∧ (d = none ∨ ∃ dd fs, d = some dd ∧ H dd = some (.xd fs)) ∧ Q (.bl b) H
theorem call_isX (hz : Zc cls d oe) (hf : ∃ vs, oe.data = .fields vs) : CallR (X.suite a ((a, oe) :: pn)) (.builtin "isinstance") (rIsX X.K a cls d) := by
  intro pins s σ H xs us Q iv r h
  obtain ⟨C, c, cv, b, rfl, F, rfl, hcv, e, hd, q⟩ := h
  cases r with
  | cons rx rr =>
    cases rr with
    | cons rt rr =>
      cases rr
      cases rx
      have ec := hcv _ rt
      subst ec
      obtain ⟨hget, _⟩ := iv.pin (a, oe) (List.mem_append.mpr (.inl List.mem_cons_self))
      obtain ⟨vs, hv⟩ := hf
      have J : ∃ od, PySem.W.InstAt s.heap a oe C od := by
        rcases hd with hd | ⟨dd, fs, hd, hx⟩
        · exact ⟨none, hget, hz.1, by unfold PySem.W.notCls; rw [hv] <;> rfl, by rw [hz.2, hd]; trivial⟩
        · have hx2 : ObjOk X.prog X.w H s.heap dd (.xd fs) := iv.hok dd _ hx
          obtain ⟨mA, hns, _⟩ := hx2
          obtain ⟨od, ho, _⟩ := lookIn_ns hns
          exact ⟨some od, hget, hz.1, by unfold PySem.W.notCls; rw [hv] <;> rfl, by rw [hz.2, hd]; exact ho⟩
      obtain ⟨od, J⟩ := J
      exact PySem.W.kia_one (PySem.W.kitx_exc F.cl F.ga F.gt F.su F.ha F.hn F.tk F.mo) iv.kIn J e (fun z => nomatch z) fun tk => ⟨.bl b, H, iv.kept (t' := tk) fun _ _ z => z, rfl, q⟩
theorem me_isE {D : V} {tab : List (Str × Bool)} {y : Str} (hz : Zc cls d oe) (hf : ∃ vs, oe.data = .fields vs) (he : X.mg e.cls = some cls) (ht : IsiT X.K X.mg D tab)
    (hn : PE (X.suite a ((a, oe) :: pn)) (.Name n p2) (tVar i)) (hD : PE (X.suite a ((a, oe) :: pn)) (.Name y p3) (tC D)) (hg : Gl X "isinstance") (hm : X.mg "isinstance" = none)
    (h1 : starEach [Expr.Name n p2, .Name y p3] X.env = (false, eval (.Name n p2) X.env) :: starEach [.Name y p3] X.env := by rfl) (h2 : starEach [Expr.Name y p3] X.env = (false, eval (.Name y p3) X.env) :: starEach [] X.env := by rfl)
    (hpl : (backTo pos (starEach [Expr.Name y p3] X.env)).any (·.1) = false := by rfl) :
    ME (X.suite a ((a, oe) :: pn)) (.Call (.Name "isinstance" p) [.Name n p2, .Name y p3] [] pos) (mIsE a cls d e i tab) := by
  refine PE.of (pe_callB (call_isX hz hf) hg hm (by decide +kernel) (pa_cons hn (pa_cons hD pa_nil h2) h1) (by decide) (by decide) h1 hpl) fun σ H Q' ⟨τ, M, B, Q, ⟨hi, b, hb, q⟩, w, s, k⟩ => ?_
  obtain ⟨v, hv, rv, rx⟩ := s.at_ i _ hi
  subst rv
  obtain ⟨⟨cv, hcv⟩, hT⟩ := ht
  obtain ⟨⟨C, gC, F⟩, hk⟩ := hT _ hb
  rw [he] at gC
  cases gC
  refine ⟨_, hv, ?_⟩
  have rD : RelV D cv := by
    cases D with
    | non => exact (hcv .none rfl) ▸ rfl
    | bl b => exact (hcv (.bool b) rfl) ▸ rfl
    | int z => exact (hcv (.int z 0) ⟨0, rfl⟩) ▸ ⟨0, rfl⟩
    | str z => exact (hcv (.str z 0) ⟨0, rfl⟩) ▸ ⟨0, rfl⟩
    | byt z => exact (hcv (.bytes z 0) ⟨0, rfl⟩) ▸ ⟨0, rfl⟩
    | flt z => exact (hcv (.float z 0) ⟨0, rfl⟩) ▸ ⟨0, rfl⟩
    | ref z => exact (hcv (.ref z) rfl) ▸ rfl
    | ty z => exact (hcv (.type z) rfl) ▸ rfl
  refine ⟨C, D, cv, b, rfl, F, rfl, hcv, hk _ he cv rD, ?_, k _ _ M B H q w (.refl _ _) (.bl _)⟩
  unfold ExR at rx
  split at rx
  · exact .inl rx
  · obtain ⟨dd, v, e1, e2, _⟩ := rx
    exact .inr ⟨dd, _, e1, w.le _ _ e2⟩
/-- n.f, n at i the exception that the suite holds, of the class c -/
def mFldE (a : Addr) (cls : Value) (d : Option Addr) (e : Exn) (c f : Str) (i : Nat) : Me := fun τ M Q => τ[i]? = some (some (.exo a cls d e)) ∧ e.cls = c ∧ ∃ x, e.arg = some (f, x) ∧ Q (.d x) M
/-- the class c has no f of its own; its objects have a dict -/
def KxF (K : PySem.W.Frag) (mg : Str → Option Value) (c f : Str) : Prop := ∃ C, mg c = some (.ref C) ∧ XfC K C ∧ PySem.W.findIn K (.ref C) f = some none
theorem me_fldE {c f : Str} (T : KxF X.K X.mg c f) (hz : Zc cls d oe) (hf : ∃ vs, oe.data = .fields vs) (he : X.mg e.cls = some cls) (hn : PE (X.suite a ((a, oe) :: pn)) (.Name n p2) (tVar i))
    (hb : attributeBase (.Name n p2) f X.env (eval (.Name n p2) X.env) = eval (.Name n p2) X.env := by rfl) : ME (X.suite a ((a, oe) :: pn)) (.Attribute (.Name n p2) f pos) (mFldE a cls d e c f i) := by
  obtain ⟨C, gC, F, hno⟩ := T
  refine PE.of (pe_xf F hno hz hf hn hb) fun σ H Q' ⟨τ, M, B, Q, ⟨hi, hc, x, hx, q⟩, w, s, k⟩ => ?_
  obtain ⟨v, hv, rv, rx⟩ := s.at_ i _ hi
  subst rv
  rw [hc, gC] at he
  cases he
  unfold ExR at rx
  rw [hx] at rx
  obtain ⟨dd, v, e1, e2, e3⟩ := rx
  exact ⟨_, hv, rfl, rfl, dd, _, v, e1, w.le _ _ e2, by simp [List.lookup], k v (.d x) M B H q w (.refl _ _) e3⟩
end
end L3
namespace L3
open PySem PySem.Spec L2
/-! ### the facts, from what the end finds -/
theorem exf_of {K : PySem.W.Frag} {C : Addr} (kp : PySem.W.keepIn K (.ref C) = true) (su : PySem.W.subIn K (.ref C) (.type "BaseException") = some true) (ty : PySem.W.typeIn K (.ref C) = some (.type "type")) (cl : PySem.W.isClsIn K C = true)
    (ga : PySem.W.findIn K (.ref C) "__getattribute__" = some (some (.builtin "BaseException.__getattribute__"))) (gt : PySem.W.findIn K (.ref C) "__getattr__" = some none) (ha : PySem.W.findIn K (.ref C) "__class__" = some (some (.builtin "object.__class__")))
    (hn : PySem.W.specialIn K (.builtin "object.__class__") "__get__" = some (some (.builtin "getset_descriptor.__get__"))) (tk : PySem.W.takesIn K (.builtin "object.__class__") = some true) (mo : PySem.W.mroIn K C (.type "object") = some true) : ExF K C :=
  ⟨kp, su, ty, cl, ga, gt, ha, hn, tk, mo⟩
theorem kitc_of {K : PySem.W.Frag} {C D : Addr} {b : Bool} (F : ExF K D) (h : PySem.W.subIn K (.ref C) (.ref D) = some b) : PySem.W.kitCls K (.ref C) (.ref D) = some b := by
  have e : ((PySem.W.clsIn K D).isSome && PySem.W.typeIn K (.ref D) == some (.type "type")) = true := by rw [F.cl, F.ty] <;> rfl
  show (if _ = true then PySem.W.subIn K (.ref C) (.ref D) else none) = some b
  rw [if_pos e]
  exact h
theorem kito_of {K : PySem.W.Frag} {C D : Addr} (F : ExF K D) (h : PySem.W.subIn K (.ref C) (.ref D) = some true) : PySem.W.kitOne K (.ref C) (.ref D) = some true := by
  unfold PySem.W.kitOne
  split
  · rfl
  · exact kitc_of F h
theorem kitb_of {K : PySem.W.Frag} {C : Addr} {T : String} {b : Bool} (hT : PySem.W.kitMeta T = true) (h : PySem.W.subIn K (.ref C) (.type T) = some b) : PySem.W.kitOne K (.ref C) (.type T) = some b := by
  unfold PySem.W.kitOne
  rw [if_neg (show ¬ ((Value.ref C == Value.type T) = true) from fun z => by cases eq_of_beq z)]
  show (if PySem.W.kitMeta T = true then PySem.W.subIn K (.ref C) (.type T) else none) = some b
  rw [if_pos hT]
  exact h
theorem exm_of {K : PySem.W.Frag} {C D : Addr} {b : Bool} (F : ExF K D) (h : PySem.W.subIn K (.ref C) (.ref D) = some b) : PySem.W.exmOne K (.ref C) (.ref D) = some b := by
  have e : (PySem.W.subIn K (.ref D) (.type "BaseException") == some true) = true := by rw [F.su] <;> rfl
  show (if (PySem.W.subIn K (.ref D) (.type "BaseException") == some true) = true then PySem.W.kitCls K (.ref C) (.ref D) else none) = some b
  rw [if_pos e]
  exact kitc_of F h
/-- one class that an except clause of the class D catches -/
def Hit1 (K : PySem.W.Frag) (mg : Str → Option Value) (D c : Str) : Prop := ∃ C E, mg D = some (.ref E) ∧ mg c = some (.ref C) ∧ PySem.W.exmOne K (.ref C) (.ref E) = some true
theorem hits_of {K : PySem.W.Frag} {mg : Str → Option Value} {D : Str} {E : Addr} {cs : List Str} (hD : mg D = some (.ref E)) (h : ∀ c ∈ cs, Hit1 K mg D c) : Hits K mg D cs := by
  refine ⟨E, hD, fun c hc cls hm => ?_⟩
  obtain ⟨C, E', h1, h2, h3⟩ := h c hc
  rw [hD] at h1
  cases h1
  rw [hm] at h2
  cases h2
  exact h3
/-- what isinstance says for one class, asked for D -/
def Isi1 (K : PySem.W.Frag) (mg : Str → Option Value) (D : V) (r : Str × Bool) : Prop := ∃ C, mg r.1 = some (.ref C) ∧ ExF K C ∧ ∀ cv, RelV D cv → PySem.W.kitOne K (.ref C) cv = some r.2
theorem isit_of {K : PySem.W.Frag} {mg : Str → Option Value} {D : V} {tab : List (Str × Bool)} (hD : ∃ cv, ∀ u, RelV D u → u = cv) (h : ∀ r ∈ tab, Isi1 K mg D r) : IsiT K mg D tab := by
  refine ⟨hD, fun r hr => ?_⟩
  obtain ⟨C, h1, h2, h3⟩ := h r hr
  exact ⟨⟨C, h1, h2⟩, fun cls hm cv rv => by
    rw [hm] at h1
    cases h1
    exact h3 cv rv⟩
def IsiO (K : PySem.W.Frag) (mg : Str → Option Value) (y : Str) (tab : List (Str × Bool)) : Prop := ∃ D, mg y = some (.ref D) ∧ IsiT K mg (.ref D) tab
def IsiB (K : PySem.W.Frag) (mg : Str → Option Value) (y : Str) (tab : List (Str × Bool)) : Prop := ∃ T, mg y = none ∧ bootBuiltins y = some (.type T) ∧ IsiT K mg (.ty T) tab
theorem all_nil {α : Type} {P : α → Prop} : ∀ x ∈ ([] : List α), P x := fun x h => absurd h (by simp)
theorem all_cons {α : Type} {P : α → Prop} {a : α} {l : List α} (h : P a) (t : ∀ x ∈ l, P x) : ∀ x ∈ a :: l, P x := fun x hx => by
  rcases List.mem_cons.mp hx with e | e
  · rw [e]; exact h
  · exact t x e
section
variable {X : Cx} {a : Addr} {oe : Obj} {cls : Value} {d : Option Addr} {e : Exn} {pn : List (Addr × Obj)} {i : Nat} {x n : Str} {p p2 p3 pos : Pos}
theorem me_isEo {tab : List (Str × Bool)} {y : Str} (hz : Zc cls d oe) (hf : ∃ vs, oe.data = .fields vs) (he : X.mg e.cls = some cls) (ht : IsiO X.K X.mg y tab)
    (hn : PE (X.suite a ((a, oe) :: pn)) (.Name n p2) (tVar i)) (hgy : Gl X y) (hg : Gl X "isinstance") (hm : X.mg "isinstance" = none) (hdb : (y == ("__debug__" : Str)) = false)
    (h1 : starEach [Expr.Name n p2, .Name y p3] X.env = (false, eval (.Name n p2) X.env) :: starEach [.Name y p3] X.env := by rfl) (h2 : starEach [Expr.Name y p3] X.env = (false, eval (.Name y p3) X.env) :: starEach [] X.env := by rfl)
    (hpl : (backTo pos (starEach [Expr.Name y p3] X.env)).any (·.1) = false := by rfl) :
    ME (X.suite a ((a, oe) :: pn)) (.Call (.Name "isinstance" p) [.Name n p2, .Name y p3] [] pos) (mIsE a cls d e i tab) := by
  obtain ⟨D, gD, hT⟩ := ht
  exact me_isE hz hf he hT hn (pe_glob hgy gD rfl hdb) hg hm h1 h2 hpl
theorem me_isEb {tab : List (Str × Bool)} {y : Str} (hz : Zc cls d oe) (hf : ∃ vs, oe.data = .fields vs) (he : X.mg e.cls = some cls) (ht : IsiB X.K X.mg y tab)
    (hn : PE (X.suite a ((a, oe) :: pn)) (.Name n p2) (tVar i)) (hgy : Gl X y) (hg : Gl X "isinstance") (hm : X.mg "isinstance" = none) (hdb : (y == ("__debug__" : Str)) = false) (hnn : y ≠ "__name__")
    (h1 : starEach [Expr.Name n p2, .Name y p3] X.env = (false, eval (.Name n p2) X.env) :: starEach [.Name y p3] X.env := by rfl) (h2 : starEach [Expr.Name y p3] X.env = (false, eval (.Name y p3) X.env) :: starEach [] X.env := by rfl)
    (hpl : (backTo pos (starEach [Expr.Name y p3] X.env)).any (·.1) = false := by rfl) :
    ME (X.suite a ((a, oe) :: pn)) (.Call (.Name "isinstance" p) [.Name n p2, .Name y p3] [] pos) (mIsE a cls d e i tab) := by
  obtain ⟨T, gT, bT, hT⟩ := ht
  exact me_isE hz hf he hT hn (pe_bltn hgy gT bT rfl hnn hdb) hg hm h1 h2 hpl
end
end L3
namespace L3
open PySem PySem.Spec L2
theorem w_tryAs {cs : List Str} {i : Nat} {body : MsX} {suite : Addr → Value → Option Addr → Exn → Ms} {E : Es} {τ : En} {M : Mem} (h : body (fun e τ' M' => e.cls ∈ cs ∧ ∀ a cls d, suite a cls d e { nx := fun τ2 M2 => E.nx (τ2.set i none) M2, rt := E.rt, bk := fun τ2 M2 => E.bk (τ2.set i none) M2, ct := fun τ2 M2 => E.ct (τ2.set i none) M2 } (τ'.set i (some (.exo a cls d e))) M') E τ M) : mTryAs cs i body suite E τ M := h
theorem w_tryOnly {cs : List Str} {body : MsX} {suite : Ms} {E : Es} {τ : En} {M : Mem} (h : body (fun e τ' M' => e.cls ∈ cs ∧ suite E τ' M') E τ M) : mTryOnly cs body suite E τ M := h
theorem w_ret {m : Me} {E : Es} {τ : En} {M : Mem} (h : m τ M E.rt) : mRet m E τ M := h
theorem w_drop {m : Me} {E : Es} {τ : En} {M : Mem} (h : m τ M fun _ M1 => E.nx τ M1) : mDrop m E τ M := h
theorem w_set {i : Nat} {m : Me} {E : Es} {τ : En} {M : Mem} (h : m τ M fun t M1 => E.nx (τ.set i (some t)) M1) : mSet i m E τ M := h
theorem w_next {E : Es} {τ : En} {M : Mem} (h : E.nx τ M) : mNext E τ M := h
theorem w_ac {m : Me} {a : Ma} {τ : En} {M : Mem} {R : List T → Mem → Prop} (h : m τ M fun x M1 => a τ M1 fun xs M2 => R (x :: xs) M2) : aCons m a τ M R := h
theorem w_lst {a : Ma} {τ : En} {M : Mem} {Q : Kt} (h : a τ M fun ts M1 => match datas ts with
    | some ds => ds.length ≤ sizeLine ∧ Q (.lst ds) M1
    | none => False) : mLst a τ M Q := h
theorem w_tup {a : Ma} {τ : En} {M : Mem} {Q : Kt} (h : a τ M fun ts M1 => match datas ts with
    | some ds => ds.length ≤ sizeLine ∧ Q (.tup ds) M1
    | none => False) : mTup a τ M Q := h
theorem w_call {f : FA} {a : Ma} {τ : En} {M : Mem} {Q : Kt} (h : a τ M fun ts M1 => f ts M1 Q) : mCall f a τ M Q := h
theorem w_op {f : F2} {m r : Me} {τ : En} {M : Mem} {Q : Kt} (h : m τ M fun x M1 => r τ M1 fun y M2 => f x y M2 Q) : mOp f m r τ M Q := h
end L3

set_option Elab.async false
set_option linter.all false
set_option maxRecDepth 100000
set_option maxHeartbeats 2000000
/-! dicts of the deck whose keys are tuples, of ints and of such tuples -/
namespace L3
open PySem PySem.Spec L2 PyProof.Rows

mutual
theorem ok_hash : ∀ (n : Nat) (k : NestedKey), okKey n k = true → ∀ w w' : World, k.hash w = k.hash w'
  | _, .none, _, _, _ => rfl
  | _, .num _, _, _, _ => rfl
  | _, .text _, h, _, _ => by simp [okKey] at h
  | 0, .tup _, h, _, _ => by simp [okKey] at h
  | n + 1, .tup ks, h, w, w' => by
    rw [NestedKey.hash, NestedKey.hash, ok_hashes n ks (by simpa [okKey] using h) w w']
theorem ok_hashes : ∀ (n : Nat) (ks : List NestedKey), okKeys n ks = true → ∀ w w' : World, NestedKey.hashes w ks = NestedKey.hashes w' ks
  | _, [], _, _, _ => rfl
  | n, k :: ks, h, w, w' => by
    rw [okKeys, Bool.and_eq_true] at h
    rw [NestedKey.hashes, NestedKey.hashes, ok_hash n k h.1 w w', ok_hashes n ks h.2 w w']
end
mutual
theorem ok_depth : ∀ (n : Nat) (k : NestedKey), okKey n k = true → k.depth ≤ n
  | _, .none, _ => Nat.zero_le _
  | _, .num _, _ => Nat.zero_le _
  | _, .text _, _ => Nat.zero_le _
  | 0, .tup _, h => by simp [okKey] at h
  | n + 1, .tup ks, h => by
    rw [NestedKey.depth]
    exact Nat.succ_le_succ (ok_depths n ks (by simpa [okKey] using h))
theorem ok_depths : ∀ (n : Nat) (ks : List NestedKey), okKeys n ks = true → NestedKey.depthAll ks ≤ n
  | _, [], _ => Nat.zero_le _
  | n, k :: ks, h => by
    rw [okKeys, Bool.and_eq_true] at h
    rw [NestedKey.depthAll]
    exact Nat.max_le.mpr ⟨ok_depth n k h.1, ok_depths n ks h.2⟩
end
section
variable {X : Cx} {pn : List (Addr × Obj)} {sg : L2.St} {H : Hp} {s : Shared}
mutual
theorem nest_is (iv : Inv X pn sg H s) : ∀ (n : Nat) (k : NestedKey), okKey n k = true → ∀ (v : V) (u : Value), Rp X.K H v k.data → RelV v u → NestedIs s.heap k u
  | _, .none, _, _, _, r, ru => by
    cases r
    cases ru
    exact .none
  | _, .num i, _, _, _, r, ru => by
    cases r
    obtain ⟨t, rfl⟩ := ru
    exact .int _ _
  | _, .text _, h, _, _, _, _ => by simp [okKey] at h
  | 0, .tup _, h, _, _, _, _ => by simp [okKey] at h
  | n + 1, .tup ks, h, _, _, r, ru => by
    cases r with
    | tup hT hA =>
      cases ru
      obtain ⟨its, rv, ⟨o, ho, hc, m, hd⟩, _⟩ := iv.tuple hT.t
      exact .tup ho hc hd (by simpa using nests_are iv n ks (by simpa [okKey] using h) _ _ hA rv)
theorem nests_are (iv : Inv X pn sg H s) : ∀ (n : Nat) (ks : List NestedKey), okKeys n ks = true → ∀ (vs : List V) (us : List Value), RpA X.K H vs (NestedKey.datas ks) → Vals vs us → NestedAll s.heap ks us
  | _, [], _, _, _, r, ru => by
    cases r
    cases ru
    exact .nil
  | n, k :: ks, h, _, _, r, ru => by
    rw [okKeys, Bool.and_eq_true] at h
    cases r with
    | cons r1 r2 =>
      cases ru with
      | cons q1 q2 => exact .cons (nest_is iv n k h.1 _ _ r1 q1) (nests_are iv n ks h.2 _ _ r2 q2)
end
end
/-- at b stands the tuple that is the key k -/
def KeyAt (K : PySem.W.Frag) (H : Hp) (b : Addr) (k : NestedKey) : Prop := okKey 8 k = true ∧ Rp K H (.ref b) k.data
def DnAt (K : PySem.W.Frag) (H : Hp) (a : Addr) (es : List (NestedKey × Addr × V)) : Prop := H a = some (.ext (DNok a es)) ∧ ∀ e ∈ es, KeyAt K H e.2.1 e.1
def lookE (es : List (NestedKey × Addr × V)) (k : NestedKey) : Option V := (es.find? fun e => decide (e.1 = k)).map (·.2.2)
def putE (es : List (NestedKey × Addr × V)) (k : NestedKey) (b : Addr) (v : V) : List (NestedKey × Addr × V) :=
  if (lookE es k).isSome then es.map fun e => if e.1 = k then (e.1, e.2.1, v) else e else es ++ [(k, b, v)]
abbrev PrE (es : List (NestedKey × Addr × V)) (xs : List (NestedKey × Addr × Value)) : Prop := Paired (fun (p : NestedKey × Addr × V) (q : NestedKey × Addr × Value) => p.1 = q.1 ∧ p.2.1 = q.2.1 ∧ RelV p.2.2 q.2.2) es xs
theorem PrE.look {es : List (NestedKey × Addr × V)} {xs : List (NestedKey × Addr × Value)} (r : PrE es xs) (k : NestedKey) : RelO (lookE es k) ((atKey xs k).map (·.2)) := by
  unfold PrE at r
  induction r with
  | nil => trivial
  | @cons p q ps qs f _ ih =>
    by_cases z : p.1 = k
    · have e1 : lookE (p :: ps) k = some p.2.2 := by simp [lookE, List.find?_cons, z]
      have e2 : (atKey (q :: qs) k).map (·.2) = some q.2.2 := by simp [atKey, List.find?_cons, f.1.symm.trans z]
      rw [e1, e2]
      exact f.2.2
    · have z2 : ¬ q.1 = k := fun y => z (f.1.trans y)
      have e1 : lookE (p :: ps) k = lookE ps k := by simp [lookE, List.find?_cons, z]
      have e2 : (atKey (q :: qs) k).map (·.2) = (atKey qs k).map (·.2) := by simp [atKey, List.find?_cons, z2]
      rw [e1, e2]
      exact ih
theorem PrE.repl {es : List (NestedKey × Addr × V)} {xs : List (NestedKey × Addr × Value)} (r : PrE es xs) (k : NestedKey) {v : V} {u : Value} (rv : RelV v u) :
    PrE (es.map fun e => if e.1 = k then (e.1, e.2.1, v) else e) (xs.map (putAt k u)) := by
  unfold PrE at r
  induction r with
  | nil => exact .nil
  | @cons p q ps qs f _ ih =>
    refine .cons ?_ ih
    by_cases z : p.1 = k
    · have e1 : (fun e : NestedKey × Addr × V => if e.1 = k then (e.1, e.2.1, v) else e) p = (p.1, p.2.1, v) := if_pos z
      have e2 : putAt k u q = (q.1, q.2.1, u) := if_pos (f.1.symm.trans z)
      rw [e1, e2]
      exact ⟨f.1, f.2.1, rv⟩
    · have e1 : (fun e : NestedKey × Addr × V => if e.1 = k then (e.1, e.2.1, v) else e) p = p := if_neg z
      have e2 : putAt k u q = q := if_neg fun y => z (f.1.trans y)
      rw [e1, e2]
      exact f
theorem PrE.put {es : List (NestedKey × Addr × V)} {xs : List (NestedKey × Addr × Value)} (r : PrE es xs) (k : NestedKey) (b : Addr) {v : V} {u : Value} (rv : RelV v u) : PrE (putE es k b v) (storedH xs k b u) := by
  have e : (lookE es k).isSome = (atKey xs k).isSome := by
    have := (r.look k).isSome_eq
    rw [Option.isSome_map] at this
    exact this
  unfold putE storedH
  rw [e]
  by_cases q : (atKey xs k).isSome = true
  · rw [if_pos q, if_pos q]
    exact r.repl k rv
  · rw [if_neg q, if_neg q]
    exact Paired.snoc r ⟨rfl, rfl, rv⟩
theorem PrE.keys {es : List (NestedKey × Addr × V)} {xs : List (NestedKey × Addr × Value)} (r : PrE es xs) : es.map (·.1) = xs.map (·.1) := by
  unfold PrE at r
  induction r with
  | nil => rfl
  | cons f _ ih => rw [List.map_cons, List.map_cons, ih, f.1]
theorem putE_len (es : List (NestedKey × Addr × V)) (k : NestedKey) (b : Addr) (v : V) : (putE es k b v).length ≤ es.length + 1 := by
  unfold putE
  split
  · rw [List.length_map]; omega
  · rw [List.length_append]; simp
section
variable {P : Program} {w : World} {H : Hp} {h h' : Heap} {a : Addr} {es : List (NestedKey × Addr × V)}
theorem dnok_stay (x : DNok a es h) (k : ∀ o, h.get? a = some o → h'.get? a = some o) : DNok a es h' := by
  obtain ⟨h1, h2, h3, w, xs, r, o, ds, ep, e1, e2⟩ := x
  exact ⟨h1, h2, h3, w, xs, r, o, ds, ep, k _ e1, e2⟩
theorem dno_ok (x : DNok a es h) : ObjOk P w H h a (.ext (DNok a es)) := by
  have x2 := x
  obtain ⟨_, _, _, _, _, _, o, _, _, e1, _⟩ := x2
  exact ⟨x, ⟨o, e1⟩, fun h1 h2 z k => dnok_stay z k⟩
theorem dno_at (ok : HOk P w H h) (e : H a = some (.ext (DNok a es))) : DNok a es h := by
  have x : ObjOk P w H h a (.ext (DNok a es)) := ok a _ e
  exact x.1
end
section
variable {X : Cx} {pn : List (Addr × Obj)} {sg : L2.St} {H : Hp} {s : Shared} {a b : Addr} {es : List (NestedKey × Addr × V)} {k : NestedKey} {v : V} {u : Value} {A : Around} {E : Value → Shared → Prop}
theorem key_is (iv : Inv X pn sg H s) (h : KeyAt X.K H b k) : (nestedKind X.prog X.w).is s.heap k b := ⟨nest_is iv 8 k h.1 _ _ h.2 rfl, ok_depth 8 k h.1⟩
theorem dn_dict (iv : Inv X pn sg H s) (h : DnAt X.K H a es) : es.length ≤ sizeLine ∧ (a == sysModules) = false ∧ (es.map (·.1)).Nodup ∧ ∃ xs, PrE es xs ∧ s.heap.DictOfH (nestedKind X.prog X.w) a xs := by
  obtain ⟨h1, h2⟩ := h
  obtain ⟨z1, z2, z3, w, xs, r, o, ds, ep, e1, e2, e3, e4⟩ := dno_at iv.hok h1
  have all : ∀ {l : List (NestedKey × Addr × V)} {m : List (NestedKey × Addr × Value)}, PrE l m → (∀ e ∈ l, KeyAt X.K H e.2.1 e.1) → (∀ x ∈ m, (nestedKind X.prog X.w).is s.heap x.1 x.2.1) ∧ ∀ x ∈ m, x.1.hash w = x.1.hash X.w := by
    intro l m q
    unfold PrE at q
    induction q with
    | nil => intro _; exact ⟨fun x hx => (nomatch hx), fun x hx => (nomatch hx)⟩
    | @cons p q ps qs hq t ih =>
      intro hk
      obtain ⟨i1, i2⟩ := ih fun e he => hk e (List.mem_cons_of_mem _ he)
      have hp := hk p List.mem_cons_self
      rw [hq.1, hq.2.1] at hp
      refine ⟨fun x hx => ?_, fun x hx => ?_⟩
      · rcases List.mem_cons.mp hx with e | hx
        · subst e; exact key_is iv hp
        · exact i1 x hx
      · rcases List.mem_cons.mp hx with e | hx
        · subst e; exact ok_hash 8 _ hp.1 _ _
        · exact i2 x hx
  obtain ⟨a1, a2⟩ := all r h2
  refine ⟨z1, z2, z3, xs, r, o, ds, ep, e1, e2, e3, e4.trans ?_, a1, by rw [← PrE.keys r]; exact z3⟩
  exact List.map_congr_left fun x hx => by
    show (⟨x.1.hash w, .ref x.2.1, x.2.2⟩ : DictEntry) = ⟨x.1.hash X.w, .ref x.2.1, x.2.2⟩
    rw [a2 x hx]
theorem dn_mk {h' : Heap} {xs : List (NestedKey × Addr × Value)} {P : Program} {w : World} (z1 : es.length ≤ sizeLine) (z2 : (a == sysModules) = false) (r : PrE es xs) (d : h'.DictOfH (nestedKind P w) a xs) : DNok a es h' := by
  obtain ⟨o, ds, ep, e1, e2, e3, e4, _, e5⟩ := d
  exact ⟨z1, z2, by rw [PrE.keys r]; exact e5, w, xs, r, o, ds, ep, e1, e2, e3, e4⟩
theorem dn_ty (iv : Inv X pn sg H s) (h : DnAt X.K H a es) : s.TypeIs (.ref a) "dict" := by
  obtain ⟨_, _, _, xs, _, d⟩ := dn_dict iv h
  exact d.typeIs
theorem dn_get {Q : Value → Shared → Prop} (hu : A.units + 12 < cLine) (iv : Inv X pn sg H s) (h : DnAt X.K H a es) (hk : KeyAt X.K H b k) (hv : lookE es k = some v) (q : ∀ w' s', Inv X pn sg H s' → RelV v w' → Q w' s') :
    wpAny (model X.prog X.w) A (getItem (.ref a) (.ref b)) Q E s := by
  obtain ⟨_, _, _, xs, r, d⟩ := dn_dict iv h
  have rk := r.look k
  rw [hv] at rk
  obtain ⟨w', hw, rw'⟩ := RelO.some_of rk
  obtain ⟨p, hp, hp2⟩ := Option.map_eq_some_iff.mp hw
  refine wpAny_getItem_heap (show A.units + 1 + 8 < cLine by omega) (key_is iv hk) d hp ?_
  rw [hp2]
  exact q w' _ (iv.tok _) rw'
theorem dn_in {Q : Value → Shared → Prop} (hu : A.units + 12 < cLine) (iv : Inv X pn sg H s) (h : DnAt X.K H a es) (hk : KeyAt X.K H b k) (q : ∀ s', Inv X pn sg H s' → Q (.bool (lookE es k).isSome) s') :
    wpAny (model X.prog X.w) A (compareOp .In (.ref b) (.ref a)) Q E s := by
  obtain ⟨_, z2, _, xs, r, d⟩ := dn_dict iv h
  have rk := (r.look k).isSome_eq
  rw [Option.isSome_map] at rk
  refine wpAny_in_heap (show A.units + 1 + 8 < cLine by omega) (key_is iv hk) z2 d ?_
  rw [← rk]
  exact q _ (iv.tok _)
theorem dn_notIn {Q : Value → Shared → Prop} (hu : A.units + 12 < cLine) (iv : Inv X pn sg H s) (h : DnAt X.K H a es) (hk : KeyAt X.K H b k) (q : ∀ s', Inv X pn sg H s' → Q (.bool (!(lookE es k).isSome)) s') :
    wpAny (model X.prog X.w) A (compareOp .NotIn (.ref b) (.ref a)) Q E s := by
  obtain ⟨_, z2, _, xs, r, d⟩ := dn_dict iv h
  have rk := (r.look k).isSome_eq
  rw [Option.isSome_map] at rk
  refine wpAny_notIn_heap (show A.units + 1 + 8 < cLine by omega) (key_is iv hk) z2 d ?_
  rw [← rk]
  exact q _ (iv.tok _)
theorem dn_get2 {z : V} {dv : Value} {Q : Value → Shared → Prop} (hu : A.units + 12 < cLine) (iv : Inv X pn sg H s) (h : DnAt X.K H a es) (hk : KeyAt X.K H b k) (rz : RelV z dv) (q : ∀ w' s', Inv X pn sg H s' → RelV ((lookE es k).getD z) w' → Q w' s') :
    wpAny (model X.prog X.w) A (call (.builtin "dict.get") [.ref a, .ref b, dv]) Q E s := by
  obtain ⟨_, z2, _, xs, r, d⟩ := dn_dict iv h
  refine call_meetsIn PySem.F.slot_dict_get d.typeIs PySem.F.entry_dict_get (PySem.F.args_dict_get_3 _ _ _) (meetsH_dict_get_default (nestedKind X.prog X.w) a b z2 dv) ⟨show A.in1.units + 8 < cLine from (by show A.units + 1 + 8 < cLine; omega), k, xs, key_is iv hk, d, q _ _ (iv.tok _) ?_⟩
  have rk := r.look k
  cases e1 : lookE es k with
  | none =>
    rw [e1] at rk
    have : (atKey xs k).map (·.2) = none := RelO.none_of rk
    rw [this]
    exact rz
  | some y =>
    rw [e1] at rk
    obtain ⟨w', hw, rw'⟩ := RelO.some_of rk
    rw [hw]
    exact rw'
theorem dn_set {r0 : Value} {Q : Unit → Shared → Prop} (hu : A.units + 12 < cLine) (iv : Inv X pn sg H s) (h : DnAt X.K H a es) (hk : KeyAt X.K H b k) (hl : es.length < sizeLine) (rv : RelV v r0) (q : ∀ s', Inv X pn sg (upd H a (.ext (DNok a (putE es k b v)))) s' → Q () s') :
    wpAny (model X.prog X.w) A (setItem (.ref a) (.ref b) r0) Q E s := by
  obtain ⟨z1, z2, z3, xs, r, d⟩ := dn_dict iv h
  have hz : xs.length ≤ sizeLine := by rw [← Paired.length r]; exact z1
  refine wpAny_setItem_heap (hsz := hz) (show A.units + 1 + 8 < cLine by omega) (key_is iv hk) d fun h' dd' hs => q _ ?_
  have he : ∃ q, h'.get? a = some q := let ⟨q, _, _, hq, _⟩ := dd'; ⟨q, hq⟩
  exact d_write iv (by rw [h.1]; trivial) hs he (dno_ok (dn_mk (by have := putE_len es k b v; omega) z2 (r.put k b rv) dd'))
theorem dn_new (w : World) (hb : sysModules < s.heap.objs.size) : DNok s.heap.objs.size [] (s.heap.push { cls := .type "dict", data := .dict #[] }) :=
  ⟨Nat.zero_le _, beq_eq_false_iff_ne.mpr (Nat.ne_of_gt hb), List.nodup_nil, w, [], .nil, _, _, _, Heap.get?_push_size _ rfl, ⟨rfl, rfl, rfl⟩, rfl, rfl⟩
end

/-! ### over trees -/
def lookN (kvs : List (NestedKey × T)) (k : NestedKey) : Option T := (kvs.find? fun kv => decide (kv.1 = k)).map (·.2)
def putN (kvs : List (NestedKey × T)) (k : NestedKey) (t : T) : List (NestedKey × T) :=
  if (lookN kvs k).isSome then kvs.map fun kv => if kv.1 = k then (kv.1, t) else kv else kvs ++ [(k, t)]
abbrev NT (K : PySem.W.Frag) (B : Bk) (es : List (NestedKey × Addr × V)) (kvs : List (NestedKey × T)) : Prop := Paired (fun (p : NestedKey × Addr × V) (q : NestedKey × T) => p.1 = q.1 ∧ okKey 8 q.1 = true ∧ Rp K B.G (.ref p.2.1) q.1.data ∧ Rt K { B with l := [] } p.2.2 q.2) es kvs
theorem NT.look {K : PySem.W.Frag} {B : Bk} {es : List (NestedKey × Addr × V)} {kvs : List (NestedKey × T)} (r : NT K B es kvs) (k : NestedKey) : (lookE es k).isSome = (lookN kvs k).isSome ∧ ∀ t, lookN kvs k = some t → ∃ v, lookE es k = some v ∧ Rt K { B with l := [] } v t := by
  unfold NT at r
  induction r with
  | nil => exact ⟨rfl, fun t e => (nomatch e)⟩
  | @cons p q ps qs f _ ih =>
    by_cases z : q.1 = k
    · have e1 : lookE (p :: ps) k = some p.2.2 := by simp [lookE, List.find?_cons, f.1.trans z]
      have e2 : lookN (q :: qs) k = some q.2 := by simp [lookN, List.find?_cons, z]
      rw [e1, e2]
      exact ⟨rfl, fun t e => by cases e; exact ⟨_, rfl, f.2.2.2⟩⟩
    · have z2 : ¬ p.1 = k := fun y => z (f.1.symm.trans y)
      have e1 : lookE (p :: ps) k = lookE ps k := by simp [lookE, List.find?_cons, z2]
      have e2 : lookN (q :: qs) k = lookN qs k := by simp [lookN, List.find?_cons, z]
      rw [e1, e2]
      exact ih
theorem NT.repl {K : PySem.W.Frag} {B : Bk} {es : List (NestedKey × Addr × V)} {kvs : List (NestedKey × T)} (r : NT K B es kvs) (k : NestedKey) {v : V} {t : T} (rv : Rt K { B with l := [] } v t) :
    NT K B (es.map fun e => if e.1 = k then (e.1, e.2.1, v) else e) (kvs.map fun kv => if kv.1 = k then (kv.1, t) else kv) := by
  unfold NT at r
  induction r with
  | nil => exact .nil
  | @cons p q ps qs f _ ih =>
    refine .cons ?_ ih
    by_cases z : q.1 = k
    · have e1 : (fun e : NestedKey × Addr × V => if e.1 = k then (e.1, e.2.1, v) else e) p = (p.1, p.2.1, v) := if_pos (f.1.trans z)
      have e2 : (fun kv : NestedKey × T => if kv.1 = k then (kv.1, t) else kv) q = (q.1, t) := if_pos z
      rw [e1, e2]
      exact ⟨f.1, f.2.1, f.2.2.1, rv⟩
    · have e1 : (fun e : NestedKey × Addr × V => if e.1 = k then (e.1, e.2.1, v) else e) p = p := if_neg fun y => z (f.1.symm.trans y)
      have e2 : (fun kv : NestedKey × T => if kv.1 = k then (kv.1, t) else kv) q = q := if_neg z
      rw [e1, e2]
      exact f
theorem NT.put {K : PySem.W.Frag} {B : Bk} {es : List (NestedKey × Addr × V)} {kvs : List (NestedKey × T)} (r : NT K B es kvs) {k : NestedKey} {b : Addr} (hk : okKey 8 k = true) (hb : Rp K B.G (.ref b) k.data) {v : V} {t : T} (rv : Rt K { B with l := [] } v t) :
    NT K B (putE es k b v) (putN kvs k t) := by
  unfold putE putN
  rw [(r.look k).1]
  split
  · exact r.repl k rv
  · exact Paired.snoc r ⟨rfl, hk, hb, rv⟩
theorem NT.at {K : PySem.W.Frag} {B : Bk} {M : Mem} {H : Hp} {es : List (NestedKey × Addr × V)} {kvs : List (NestedKey × T)} (w : Wd K B M H) (r : NT K B es kvs) : ∀ e ∈ es, KeyAt K H e.2.1 e.1 := by
  unfold NT at r
  induction r with
  | nil => intro e he; cases he
  | @cons p q ps qs f _ ih =>
    intro e he
    rcases List.mem_cons.mp he with z | he
    · subst z
      rw [← f.1] at f
      exact ⟨f.2.1, w.rp f.2.2.1⟩
    · exact ih e he
/-- the dict at i of the deck, and a key -/
def keyT (y : T) (k : NestedKey) : Prop := ∃ ks, k = .tup ks ∧ y = .d (.tuple (NestedKey.datas ks)) ∧ okKey 8 k = true
theorem keyT_at {K : PySem.W.Frag} {B : Bk} {y : V} {t : T} {k : NestedKey} (r : Rt K B y t) (h : keyT t k) : ∃ b, y = .ref b ∧ okKey 8 k = true ∧ Rp K B.G (.ref b) k.data := by
  obtain ⟨ks, rfl, rfl, hk⟩ := h
  have r' : Rp K B.G y (.tuple (NestedKey.datas ks)) := r
  cases r' with
  | tup e q => exact ⟨_, rfl, hk, .tup e q⟩
def oNGet : F2 := fun x y M Q => ∃ i k kvs t, x = .mr i ∧ keyT y k ∧ M.D[i]? = some (.dnk kvs) ∧ lookN kvs k = some t ∧ Q t M
def oNIn (n : Bool) : F2 := fun y x M Q => ∃ i k kvs, x = .mr i ∧ keyT y k ∧ M.D[i]? = some (.dnk kvs) ∧ Q (.bl (if n then !(lookN kvs k).isSome else (lookN kvs k).isSome)) M
def mNGet2 (d y z : Me) : Me := fun τ M Q => d τ M fun x M1 => (∃ i kvs, x = .mr i ∧ M1.D[i]? = some (.dnk kvs)) ∧ y τ M1 fun y M2 => z τ M2 fun z M3 => ∃ i k kvs, x = .mr i ∧ keyT y k ∧ M3.D[i]? = some (.dnk kvs) ∧ noL z = true ∧ Q ((lookN kvs k).getD z) M3
def mNPut (d k v : Me) : Ms := fun E τ M => v τ M fun t M1 => d τ M1 fun x M2 => k τ M2 fun y M3 => ∃ i k kvs, x = .mr i ∧ keyT y k ∧ M3.D[i]? = some (.dnk kvs) ∧ noL t = true ∧ kvs.length < sizeLine ∧ E.nx τ { M3 with D := M3.D.set i (.dnk (putN kvs k t)) }
def mNNew : Me := fun _ M Q => Q (.mr M.D.length) { M with D := M.D ++ [.dnk []] }
section
variable {X : Cx} {o i e f value : Expr} {mo mi mv mz : Me} {pos pos' apos cpos : Pos} {kk : Nat}
theorem dn_wd {K : PySem.W.Frag} {B : Bk} {M : Mem} {H : Hp} (w : Wd K B M H) {x : V} {n : Nat} {kvs : List (NestedKey × T)} (r : Rt K B x (.mr n)) (hD : M.D[n]? = some (.dnk kvs)) : ∃ a es, x = .ref a ∧ B.r[n]? = some a ∧ DnAt K H a es ∧ NT K B es kvs := by
  obtain ⟨a, rfl, ha⟩ := r
  obtain ⟨_, es, e, q⟩ := w.dc _ _ _ ha hD
  exact ⟨a, es, rfl, ha, ⟨e, NT.at w q⟩, q⟩
theorem me_nget (rm : Room kk X.A) (ho : ME X o mo) (hi : ME X i mi) (hs : NoSl i) : ME X (.Subscript o i pos) (mOp oNGet mo mi) := by
  refine ⟨fun pins s σ H Q' iv ⟨τ, M, B, Q, h, w, sl, kc⟩ => ?_⟩
  let P1 := fun (x : V) (H1 : Hp) => ∃ t M1 B1, (mi τ M1 fun y M2 => oNGet t y M2 Q) ∧ Wd X.K B1 M1 H1 ∧ Ext B H B1 H1 ∧ Rt X.K B1 x t
  refine subD_of PySem.F.slot_dict_getitem.lookup hs (thn (ho.run pins s σ H P1 iv ⟨τ, M, B, _, h, w, sl, fun v t M1 B1 H1 h1 w1 e1 r1 => ⟨t, M1, B1, h1, w1, e1, r1⟩⟩) fun u s1 ⟨x, H1, I1, rx, t, M1, B1, h1, w1, e1, r1⟩ => ?_)
  let P2 := fun (y : V) (H2 : Hp) => ∃ ty M2 B2, oNGet t ty M2 Q ∧ Wd X.K B2 M2 H2 ∧ Ext B1 H1 B2 H2 ∧ Rt X.K B2 y ty
  refine thn (hi.run pins s1 σ H1 P2 I1 ⟨τ, M1, B1, _, h1, w1, sl.mono e1, fun v t M2 B2 H2 h2 w2 e2 r2 => ⟨t, M2, B2, h2, w2, e2, r2⟩⟩) fun iu s2 ⟨y, H2, I2, ry, ty, M2, B2, ⟨n, k, kvs, t', ex, hk, hD, hl, hQ⟩, w2, e2, r2⟩ => ?_
  subst ex
  obtain ⟨a, es, rfl, ha, hd, hn⟩ := dn_wd w2 (Rt.mono e2 r1) hD
  obtain ⟨b, rfl, hk8, hb⟩ := keyT_at r2 hk
  obtain rfl : u = Value.ref a := rx
  obtain rfl : iu = Value.ref b := ry
  obtain ⟨v, hv, rv⟩ := (hn.look k).2 t' hl
  exact ⟨dn_ty I2 hd, dn_get (by have := rm.un; omega) I2 hd ⟨hk8, w2.rp hb⟩ hv fun w' s3 I3 rw' => ⟨v, H2, I3, rw', kc _ _ M2 B2 H2 hQ w2 (e1.trans e2) rv.undeck⟩⟩
theorem opl_nin {K : PySem.W.Frag} : OpL K (fun y x H Q => ∃ a b es k, x = .ref a ∧ y = .ref b ∧ DnAt K H a es ∧ KeyAt K H b k ∧ Q (.bl (lookE es k).isSome) H) (oNIn false) := by
  rintro y x ty tx M B H Q Q' ⟨n, k, kvs, rfl, hk, hD, hQ⟩ w ry rx kc
  obtain ⟨a, es, rfl, ha, hd, hn⟩ := dn_wd w rx hD
  obtain ⟨b, rfl, hk8, hb⟩ := keyT_at ry hk
  refine ⟨a, b, es, k, rfl, rfl, hd, ⟨hk8, w.rp hb⟩, ?_⟩
  rw [(hn.look k).1]
  exact kc _ _ M B H hQ w (.refl _ _) (.bl _)
theorem opl_nnin {K : PySem.W.Frag} : OpL K (fun y x H Q => ∃ a b es k, x = .ref a ∧ y = .ref b ∧ DnAt K H a es ∧ KeyAt K H b k ∧ Q (.bl (!(lookE es k).isSome)) H) (oNIn true) := by
  rintro y x ty tx M B H Q Q' ⟨n, k, kvs, rfl, hk, hD, hQ⟩ w ry rx kc
  obtain ⟨a, es, rfl, ha, hd, hn⟩ := dn_wd w rx hD
  obtain ⟨b, rfl, hk8, hb⟩ := keyT_at ry hk
  refine ⟨a, b, es, k, rfl, rfl, hd, ⟨hk8, w.rp hb⟩, ?_⟩
  rw [(hn.look k).1]
  exact kc _ _ M B H hQ w (.refl _ _) (.bl _)
theorem op_nin (rm : Room kk X.A) : OpR X (compareOp .In) (fun y x H Q => ∃ a b es k, x = .ref a ∧ y = .ref b ∧ DnAt X.K H a es ∧ KeyAt X.K H b k ∧ Q (.bl (lookE es k).isSome) H) := by
  rintro pn s σ H x y v u Q iv rx ry ⟨a, b, es, k, rfl, rfl, hd, hk, q⟩
  cases rx
  cases ry
  exact dn_in (by have := rm.un; omega) iv hd hk fun s' I' => ⟨.bl _, H, I', rfl, q⟩
theorem op_nnin (rm : Room kk X.A) : OpR X (compareOp .NotIn) (fun y x H Q => ∃ a b es k, x = .ref a ∧ y = .ref b ∧ DnAt X.K H a es ∧ KeyAt X.K H b k ∧ Q (.bl (!(lookE es k).isSome)) H) := by
  rintro pn s σ H x y v u Q iv rx ry ⟨a, b, es, k, rfl, rfl, hd, hk, q⟩
  cases rx
  cases ry
  exact dn_notIn (by have := rm.un; omega) iv hd hk fun s' I' => ⟨.bl _, H, I', rfl, q⟩
theorem me_nin (rm : Room kk X.A) (hi : ME X i mi) (ho : ME X o mo) (hm : behindInMarks .In o = false := by with_unfolding_all rfl) : ME X (.Compare i [.In] [o] pos) (mOp (oNIn false) mi mo) := me_cmp (op_nin rm) opl_nin hi ho hm
theorem mb_nin (rm : Room kk X.A) (hi : ME X i mi) (ho : ME X o mo) (hm : behindInMarks .In o = false := by with_unfolding_all rfl) : MB X (.Compare i [.In] [o] pos) (mTest (mOp (oNIn false) mi mo)) := mb_cmp (op_nin rm) opl_nin hi ho hm
theorem me_nnin (rm : Room kk X.A) (hi : ME X i mi) (ho : ME X o mo) (hm : behindInMarks .NotIn o = false := by with_unfolding_all rfl) : ME X (.Compare i [.NotIn] [o] pos) (mOp (oNIn true) mi mo) := me_cmp (op_nnin rm) opl_nnin hi ho hm
theorem mb_nnin (rm : Room kk X.A) (hi : ME X i mi) (ho : ME X o mo) (hm : behindInMarks .NotIn o = false := by with_unfolding_all rfl) : MB X (.Compare i [.NotIn] [o] pos) (mTest (mOp (oNIn true) mi mo)) := mb_cmp (op_nnin rm) opl_nnin hi ho hm
theorem me_nnew : ME X (.Dict [] [] pos) mNNew := ⟨fun pins s σ H Q' iv ⟨τ, M, B, Q, h, w, sl, k⟩ => by
  have hp := iv.hok.fresh (Nat.le_refl s.heap.objs.size)
  obtain ⟨w2, e2⟩ := w.newD hp (o := .ext (DNok s.heap.objs.size [])) (c := .dnk []) fun H' eH => ⟨[], eH, .nil⟩
  exact wpAny_Dict_empty ⟨.ref s.heap.objs.size, _, iv.laid (a := s.heap.objs.size) (t' := s.toks) (fun _ _ q => Heap.get?_push_of_some _ q) (Nat.le_refl _) (dno_ok (dn_new X.w iv.big)), rfl, k _ _ _ _ _ h w2 e2 ⟨_, rfl, by rw [← w.rlen]; exact get_snoc⟩⟩⟩
theorem ms_nput (rm : Room kk X.A) (ho : ME X o mo) (hi : ME X i mi) (hv : ME X value mv) (hs : swapsWith value (some (.Subscript o i pos')) pos.line X.env = pure false := by rfl) :
    MS X (.Assign [.Subscript o i pos'] value pos) (mNPut mo mi mv) := by
  refine ⟨fun pins s σ H D iv ⟨E, τ, M, B, h, w, sl, g⟩ => ?_⟩
  let P1 := fun (x : V) (H1 : Hp) => ∃ t M1 B1, (mo τ M1 fun x M2 => mi τ M2 fun y M3 => ∃ i k kvs, x = .mr i ∧ keyT y k ∧ M3.D[i]? = some (.dnk kvs) ∧ noL t = true ∧ kvs.length < sizeLine ∧ E.nx τ { M3 with D := M3.D.set i (.dnk (putN kvs k t)) }) ∧ Wd X.K B1 M1 H1 ∧ Ext B H B1 H1 ∧ Rt X.K B1 x t
  refine wpAny_Assign_Subscript (thn (hv.run pins s σ H P1 iv ⟨τ, M, B, _, h, w, sl, fun v t M1 B1 H1 h1 w1 e1 r1 => ⟨t, M1, B1, h1, w1, e1, r1⟩⟩) fun vu s1 ⟨v, H1, I1, rv, t, M1, B1, h1, w1, e1, r1⟩ => ?_) hs
  let P2 := fun (x : V) (H2 : Hp) => ∃ tx M2 B2, (mi τ M2 fun y M3 => ∃ i k kvs, tx = .mr i ∧ keyT y k ∧ M3.D[i]? = some (.dnk kvs) ∧ noL t = true ∧ kvs.length < sizeLine ∧ E.nx τ { M3 with D := M3.D.set i (.dnk (putN kvs k t)) }) ∧ Wd X.K B2 M2 H2 ∧ Ext B1 H1 B2 H2 ∧ Rt X.K B2 x tx
  refine thn (ho.run pins s1 σ H1 P2 I1 ⟨τ, M1, B1, _, h1, w1, sl.mono e1, fun v t M2 B2 H2 h2 w2 e2 r2 => ⟨t, M2, B2, h2, w2, e2, r2⟩⟩) fun u s2 ⟨x, H2, I2, rx, tx, M2, B2, h2, w2, e2, r2⟩ => ?_
  let P3 := fun (y : V) (H3 : Hp) => ∃ ty M3 B3, (∃ i k kvs, tx = .mr i ∧ keyT ty k ∧ M3.D[i]? = some (.dnk kvs) ∧ noL t = true ∧ kvs.length < sizeLine ∧ E.nx τ { M3 with D := M3.D.set i (.dnk (putN kvs k t)) }) ∧ Wd X.K B3 M3 H3 ∧ Ext B2 H2 B3 H3 ∧ Rt X.K B3 y ty
  refine thn (hi.run pins s2 σ H2 P3 I2 ⟨τ, M2, B2, _, h2, w2, (sl.mono e1).mono e2, fun v t M3 B3 H3 h3 w3 e3 r3 => ⟨t, M3, B3, h3, w3, e3, r3⟩⟩) fun iu s3 ⟨y, H3, I3, ry, ty, M3, B3, ⟨n, k, kvs, ex, hk, hD, hno, hlen, hQ⟩, w3, e3, r3⟩ => ?_
  subst ex
  obtain ⟨a, es, rfl, ha, hd, hn⟩ := dn_wd w3 (Rt.mono e3 r2) hD
  obtain ⟨b, rfl, hk8, hb⟩ := keyT_at r3 hk
  obtain rfl : u = Value.ref a := rx
  obtain rfl : iu = Value.ref b := ry
  have rt := Rt.deck hno (Rt.mono e3 (Rt.mono e2 r1))
  refine dn_set (by have := rm.un; omega) I3 hd ⟨hk8, w3.rp hb⟩ (by rw [Paired.length hn]; exact hlen) rv fun s4 I4 => ?_
  obtain ⟨w4, e4⟩ := w3.setD ha hD (o := .ext (DNok a (putE es k b v))) (c := .dnk (putN kvs k t)) fun H' eH => ⟨_, eH, hn.put hk8 hb rt⟩
  have e14 := e1.trans (e2.trans (e3.trans e4))
  exact ⟨σ, _, I4, g.nx _ _ _ _ _ hQ w4 e14 (sl.mono e14)⟩
theorem me_nget2 (rm : Room kk X.A) (ho : ME X o mo) (he : ME X e mi) (hf : ME X f mz) (m : M2 X o "get" apos e f cpos) : ME X (.Call (.Attribute o "get" apos) [e, f] [] cpos) (mNGet2 mo mi mz) := by
  refine ⟨fun pins s σ H Q' iv ⟨τ, M, B, Q, h, w, sl, kc⟩ => ?_⟩
  let P1 := fun (x : V) (H1 : Hp) => ∃ tx M1 B1, ((∃ i kvs, tx = .mr i ∧ M1.D[i]? = some (.dnk kvs)) ∧ mi τ M1 fun y M2 => mz τ M2 fun z M3 => ∃ i k kvs, tx = .mr i ∧ keyT y k ∧ M3.D[i]? = some (.dnk kvs) ∧ noL z = true ∧ Q ((lookN kvs k).getD z) M3) ∧ Wd X.K B1 M1 H1 ∧ Ext B H B1 H1 ∧ Rt X.K B1 x tx
  refine wpAny_Call_method m.base m.few m.line PySem.F.plainAttrs_dict PySem.F.slot_dict_get PySem.F.type_dict_get (thn (ho.run pins s σ H P1 iv ⟨τ, M, B, _, h, w, sl, fun v t M1 B1 H1 h1 w1 e1 r1 => ⟨t, M1, B1, h1, w1, e1, r1⟩⟩) fun u s1 ⟨x, H1, I1, rx, tx, M1, B1, ⟨⟨n, kvs0, ex, hD0⟩, h1⟩, w1, e1, r1⟩ => ?_)
  subst ex
  obtain ⟨a, es0, rfl, ha0, hd0, hn0⟩ := dn_wd w1 r1 hD0
  obtain rfl : u = Value.ref a := rx
  refine ⟨dn_ty I1 hd0, fun b hb => ?_, ?_⟩
  · cases hb
    obtain ⟨_, _, _, xs, _, ob, _, _, g1, g2, _⟩ := dn_dict I1 hd0
    exact ⟨ob, g1, g2.2.1⟩
  rw [m.trees]
  let P2 := fun (y : V) (H2 : Hp) => ∃ ty M2 B2, (mz τ M2 fun z M3 => ∃ i k kvs, T.mr n = .mr i ∧ keyT ty k ∧ M3.D[i]? = some (.dnk kvs) ∧ noL z = true ∧ Q ((lookN kvs k).getD z) M3) ∧ Wd X.K B2 M2 H2 ∧ Ext B1 H1 B2 H2 ∧ Rt X.K B2 y ty
  refine Calls.callWith_builtin rfl (Calls.evalArgs_plain (Calls.spliced_cons (thn (he.run pins s1 σ H1 P2 I1 ⟨τ, M1, B1, _, h1, w1, sl.mono e1, fun v t M2 B2 H2 h2 w2 e2 r2 => ⟨t, M2, B2, h2, w2, e2, r2⟩⟩) fun iu s2 ⟨y, H2, I2, ry, ty, M2, B2, h2, w2, e2, r2⟩ => ?_)))
  let P3 := fun (z : V) (H3 : Hp) => ∃ tz M3 B3, (∃ i k kvs, T.mr n = .mr i ∧ keyT ty k ∧ M3.D[i]? = some (.dnk kvs) ∧ noL tz = true ∧ Q ((lookN kvs k).getD tz) M3) ∧ Wd X.K B3 M3 H3 ∧ Ext B2 H2 B3 H3 ∧ Rt X.K B3 z tz
  refine Calls.spliced_cons (thn (hf.run pins s2 σ H2 P3 I2 ⟨τ, M2, B2, _, h2, w2, (sl.mono e1).mono e2, fun v t M3 B3 H3 h3 w3 e3 r3 => ⟨t, M3, B3, h3, w3, e3, r3⟩⟩) fun zu s3 ⟨z, H3, I3, rz, tz, M3, B3, ⟨n2, k, kvs, en, hk, hD, hno, hQ⟩, w3, e3, r3⟩ => Calls.spliced_nil ?_)
  cases en
  obtain ⟨a2, es, ea, ha, hd, hn⟩ := dn_wd w3 (Rt.mono e3 (Rt.mono e2 r1)) hD
  cases ea
  obtain ⟨b, rfl, hk8, hb⟩ := keyT_at (Rt.mono e3 r2) hk
  obtain rfl : iu = Value.ref b := ry
  refine dn_get2 (by have := rm.un; omega) I3 hd ⟨hk8, w3.rp hb⟩ rz fun w' s4 I4 rw' => ⟨_, H3, I4, rw', ?_⟩
  refine kc _ ((lookN kvs k).getD tz) M3 B3 H3 hQ w3 (e1.trans (e2.trans e3)) ?_
  have lk := hn.look k
  cases hl : lookN kvs k with
  | none =>
    rw [hl] at lk
    have : lookE es k = none := by
      cases q : lookE es k with
      | none => rfl
      | some y => rw [q] at lk; cases lk.1
    rw [this]
    exact r3
  | some t =>
    obtain ⟨v, hv, rv⟩ := lk.2 t hl
    rw [hv]
    exact rv.undeck
end
end L3

set_option Elab.async false
set_option linter.all false
set_option maxRecDepth 100000
set_option maxHeartbeats 2000000
/-! dict(pairs).get(k, x) -/
namespace L3
open PySem PySem.Spec L2 PyProof.Rows
abbrev kvI (ps : List (Int × Int)) : List (Key × V) := ps.map fun q => (.inl q.1, .int q.2)
def rDictP2 (K : PySem.W.Frag) : List V → Hp → VK → Prop := fun xs H Q => ∃ (a : Addr) (ads : List Addr) (ps : List (Int × Int)), xs = [.ref a] ∧ (SqL K H a (ads.map V.ref) ∨ TupC K H a (ads.map V.ref)) ∧ Paired (fun p (kv : Int × Int) => SqT K H p [.int kv.1, .int kv.2]) ads ps ∧
  ∀ p, H p = none → Q (.ref p) (upd H p (.dK (mergeK [] (kvI ps))))
/-- the pairs, as they stand in the heap -/
theorem prs_of {X : Cx} {pins : List (Addr × Obj)} {σ : L2.St} {H : Hp} {s : Shared} (iv : Inv X pins σ H s) : ∀ {ads : List Addr} {ps : List (Int × Int)}, Paired (fun p (kv : Int × Int) => SqT X.K H p [.int kv.1, .int kv.2]) ads ps →
    ∃ (prs : List (Key × Value)) (us : List (Value × Value)), KV (kvI ps) prs ∧ us.length = ads.length ∧ prs.length = ads.length ∧
      ∀ (j : Nat) (k v : Value), us[j]? = some (k, v) → ∃ b key, ads[j]? = some b ∧ IsTup s.heap b #[k, v] ∧ prs[j]? = some (key, v) ∧ keyIs key k = true
  | _, _, .nil => ⟨[], [], .nil, rfl, rfl, fun j k v e => by simp at e⟩
  | _, _, .cons (a := p) (b := kv) h t => by
    obtain ⟨prs, us, r, hl, hl2, hp⟩ := prs_of iv t
    obtain ⟨its, rv, ht, _⟩ := iv.tuple h
    cases rv with
    | cons r1 rv =>
      cases rv with
      | cons r2 rv =>
        cases rv
        obtain ⟨t1, rfl⟩ := r1
        obtain ⟨t2, rfl⟩ := r2
        refine ⟨(.inl kv.1, .int kv.2 t2) :: prs, (.int kv.1 t1, .int kv.2 t2) :: us, .cons ⟨rfl, ⟨t2, rfl⟩⟩ r, by rw [List.length_cons, List.length_cons, hl], by rw [List.length_cons, List.length_cons, hl2], fun j k v e => ?_⟩
        cases j with
        | zero =>
          cases e
          exact ⟨p, .inl kv.1, rfl, ht, rfl, keyIs_int _ _⟩
        | succ j =>
          obtain ⟨b, key, e1, e2, e3, e4⟩ := hp j k v (by simpa using e)
          exact ⟨b, key, by simpa using e1, e2, by simpa using e3, e4⟩
theorem cr_dictP2 {X : Cx} (hc : X.calm = true) : CallR X (.type "dict") (rDictP2 X.K) := by
  intro pins s σ H xs us Q iv r ⟨a, ads, ps, ex, hq, hp, q⟩
  rcases hq with hq | hq
  · have hp2 : Paired (fun p (kv : Key × V) => SqT X.K H p [kV kv.1, kv.2]) ads (kvI ps) := by
      clear hq q ex
      induction hp with
      | nil => exact .nil
      | cons f _ ih => exact .cons f ih
    exact call_dictP hc pins s σ H xs us Q iv r ⟨a, ads, kvI ps, ex, hq, hp2, q⟩
  · subst ex
    cases r with
    | cons rx rr =>
      cases rr
      cases rx
      obtain ⟨its, rv, ⟨o, ho, hcl, n, hd⟩, hz⟩ := iv.tuple hq.t
      have hdict := (tupC_is iv hq).2
      obtain ⟨ob, hob, hod⟩ := hdict
      rw [ho] at hob
      cases hob
      have ei := refs_at rv
      subst ei
      obtain ⟨prs, us, rel, hl, hl2, hpr⟩ := prs_of iv hp
      have hlen : ads.length ≤ sizeLine := by rw [List.length_map] at hz; exact hz
      refine PySem.call_dict_pairs (knd := mixKind X.prog X.w) (kvs := prs) (PairArg.tuple a (ads.map Value.ref).toArray (fun j => ads.getD j 0) us) (iv.ok.hd hc) ⟨⟨o, n, ho, hcl, hod, hd⟩, ?_, ?_⟩ ⟨by omega, ?_⟩ (by omega) fun h' tk hd' k => ?_
      · simp [hl]
      · intro j k v e
        obtain ⟨b, key, e1, e2, e3, e4⟩ := hpr j k v e
        have eb : ads.getD j 0 = b := by rw [List.getD_eq_getElem?_getD, e1]; rfl
        refine ⟨by simp [e1], .inl ?_⟩
        show IsTup _ (ads.getD j 0) _
        rw [eb]
        exact e2
      · intro i key v hrel
        obtain ⟨b, key', e1, e2, e3, e4⟩ := hpr i key v hrel
        exact ⟨key', e3, e4⟩
      · have hm : (s.heap.objs.size == sysModules) = false := beq_eq_false_iff_ne.mpr (Nat.ne_of_gt iv.big)
        have hlen2 : (mergeK [] (kvI ps)).length ≤ sizeLine := by
          refine Nat.le_trans (length_mergeK (kvI ps) []) ?_
          rw [List.length_nil, Nat.zero_add, rel.length, hl2]
          exact hlen
        exact ⟨.ref s.heap.objs.size, upd H s.heap.objs.size (.dK (mergeK [] (kvI ps))), iv.laid (t' := tk) (fun b o e => k b o (by simp) e) (Nat.le_refl _) (show ObjOk X.prog X.w _ _ _ (.dK (mergeK [] (kvI ps))) from ⟨hlen2, hm, merged [] prs, KV.merge rel .nil, hd'⟩), rfl, q _ (iv.hok.fresh (Nat.le_refl _))⟩
/-- dict(pairs).get(k, x), the pairs of ints, their keys all unlike -/
def mDictGet (m k z : Me) : Me := fun τ M Q => m τ M fun x M1 => ∃ ps : List (Int × Int), (x = .d (.list (ps.map prI)) ∨ x = .d (.tuple (ps.map prI))) ∧ (ps.map (·.1)).Nodup ∧ k τ M1 fun y M2 => z τ M2 fun z M3 => ∃ i, y = .d (.int i) ∧ Q ((ps.lookup i).elim z fun j => .int j) M3
theorem rpa_prI {K : PySem.W.Frag} {G : Hp} : ∀ {vs : List V} {ps : List (Int × Int)}, RpA K G vs (ps.map prI) → ∃ ads : List Addr, vs = ads.map V.ref ∧ Paired (fun p (kv : Int × Int) => TupC K G p [.int kv.1, .int kv.2]) ads ps
  | _, [], .nil => ⟨[], rfl, .nil⟩
  | _, p :: ps, .cons r q => by
    obtain ⟨ads, rfl, h⟩ := rpa_prI q
    cases r with
    | tup g q =>
      rename_i a xs
      cases q with
      | cons q1 q =>
        cases q with
        | cons q2 q =>
          cases q
          cases q1
          cases q2
          exact ⟨a :: ads, rfl, .cons g h⟩
theorem val_kvI : ∀ {ps : List (Int × Int)} {i : Int}, valV (kvI ps) (.inl i) = (ps.lookup i).map V.int
  | [], i => rfl
  | p :: ps, i => by
    by_cases z : p.1 = i
    · have e1 : valV (kvI (p :: ps)) (.inl i) = some (.int p.2) := valV_pos (by show (Sum.inl p.1 : Key) = _; rw [z])
      rw [e1]
      simp [List.lookup, z]
    · have e1 : valV (kvI (p :: ps)) (.inl i) = valV (kvI ps) (.inl i) := valV_neg (by intro e; exact z (Sum.inl.inj e))
      rw [e1, val_kvI]
      have : (i == p.1) = false := beq_eq_false_iff_ne.mpr fun e => z e.symm
      simp [List.lookup, this]
theorem me_dictGet {X : Cx} {k : Nat} {e e1 e2 : Expr} {m mk mz : Me} {p pos apos cpos : Pos} (rm : Room k X.A) (hc : X.calm = true) (hg : Gl X "dict") (hm : X.mg "dict" = none) (he : ME X e m) (hk : ME X e1 mk) (hz : ME X e2 mz)
    (h2 : M2 X (.Call (.Name "dict" p) [e] [] pos) "get" apos e1 e2 cpos)
    (hh : starEach [e] X.env = (false, eval e X.env) :: starEach [] X.env := by rfl) (hpl : (backTo pos (starEach [] X.env)).any (·.1) = false := by rfl) :
    ME X (.Call (.Attribute (.Call (.Name "dict" p) [e] [] pos) "get" apos) [e1, e2] [] cpos) (mDictGet m mk mz) := by
  refine PE.of (pe_dget2 (hu_of rm) (pe_callTy (cr_dictP2 hc) hg hm (by decide +kernel) (pa_cons he pa_nil hh) (by decide) (by decide) hh hpl) hk hz h2) fun σ H Q' ⟨τ, M, B, Q, h, w, s, kc⟩ => ?_
  refine ⟨τ, M, B, _, h, w, s, fun v t M1 B1 H1 h1 w1 e1 r1 => ?_⟩
  obtain ⟨ps, ht, nd, h1⟩ := h1
  have hs : ∃ a ads, v = .ref a ∧ (SqL X.K H1 a (ads.map V.ref) ∨ TupC X.K H1 a (ads.map V.ref)) ∧ Paired (fun p (kv : Int × Int) => SqT X.K H1 p [.int kv.1, .int kv.2]) ads ps := by
    rcases ht with rfl | rfl
    · cases (show Rp X.K B1.G v (.list _) from r1) with
      | lst g q =>
        obtain ⟨ads, rfl, hp⟩ := rpa_prI q
        exact ⟨_, ads, rfl, .inl (.of (w1.le _ _ g)), Paired.imp (fun _ _ z => (z.mono w1.le).t) hp⟩
    · cases (show Rp X.K B1.G v (.tuple _) from r1) with
      | tup g q =>
        obtain ⟨ads, rfl, hp⟩ := rpa_prI q
        exact ⟨_, ads, rfl, .inr (g.mono w1.le), Paired.imp (fun _ _ z => (z.mono w1.le).t) hp⟩
  obtain ⟨a, ads, rfl, hsq, hp⟩ := hs
  refine ⟨a, ads, ps, rfl, hsq, hp, fun d hd => ?_⟩
  have hnd : ((kvI ps).map (·.1)).Nodup := by
    have : (kvI ps).map (·.1) = (ps.map (·.1)).map (Sum.inl : Int → Key) := by simp [kvI]
    rw [this]
    exact List.Pairwise.map _ (fun _ _ z e => z (Sum.inl.inj e)) nd
  have em : mergeK [] (kvI ps) = kvI ps := by
    rw [merge_nil (kvI ps) [] (by rw [List.nil_append]; exact hnd), List.nil_append]
  rw [em]
  obtain ⟨dG, dr, dl⟩ := w1.fresh hd
  refine ⟨d, rfl, .inl ⟨_, .inl upd_same⟩, τ, M1, B1, _, h1, w1.side hd _, s.mono e1, fun y ty M2 B2 H2 h2 w2 e2 r2 => ⟨τ, M2, B2, _, h2, w2, (s.mono e1).mono e2, fun z tz M3 B3 H3 h3 w3 e3 r3 => ?_⟩⟩
  obtain ⟨i, rfl, hQ⟩ := h3
  cases r2
  have x02 : Ext B1 H1 B2 H2 := (Ext.side hd _).trans e2
  have d2 : H2 d = some (.dK (kvI ps)) := e2.fr d _ upd_same dr dl
  have d3 : H3 d = some (.dK (kvI ps)) := e3.fr d _ d2 (fun z => (e2.rn d z).elim dr fun q => by rw [upd_same] at q; cases q) (fun z => (e2.ln d z).elim dl fun q => by rw [upd_same] at q; cases q)
  refine ⟨_, DGet.k (k := .inl i) d3, ?_⟩
  refine kc _ _ M3 B3 H3 hQ w3 (e1.trans (x02.trans e3)) ?_
  rw [val_kvI]
  cases ps.lookup i with
  | none => exact r3
  | some j => exact .int _
end L3

set_option Elab.async false
set_option linter.all false
set_option maxRecDepth 100000
set_option maxHeartbeats 2000000
/-! (a, b, c) = (x, y, z) through a tuple that nothing else holds: what the names get may change later -/
namespace L3
open PySem PySem.Spec L2 PyProof.Rows
theorem ms_unp3 {X : Cx} {mr : Ma} {pos : Pos} {i j l : Nat} {x y z : Str} {e1 e2 e3 : Expr} {px py pz pt : Pos} {kt k2 : Nat} {pt2 : Pos} (hc : X.calm = true) (hN : X.N.Nodup) (hi : X.N[i]? = some x) (hj : X.N[j]? = some y) (hl : X.N[l]? = some z)
    (hx : Loc X.env.scope x) (hy : Loc X.env.scope y) (hz : Loc X.env.scope z)
    (fx : X.fn x = true ∨ X.env.scope.names.lookup x = some .local) (fy : X.fn y = true ∨ X.env.scope.names.lookup y = some .local) (fz : X.fn z = true ∨ X.env.scope.names.lookup z = some .local) (ha : MA X [e1, e2, e3] mr)
    (hs : swapsWithSole [.Tuple [.Name x px, .Name y py, .Name z pz] kt pt] (.Tuple [e1, e2, e3] k2 pt2) pos.line X.env = pure false := by rfl)
    (hw : swappedStores [.Tuple [.Name x px, .Name y py, .Name z pz] kt pt] (.Tuple [e1, e2, e3] k2 pt2) X.env = pure none := by rfl) :
    MS X (.Assign [.Tuple [.Name x px, .Name y py, .Name z pz] kt pt] (.Tuple [e1, e2, e3] k2 pt2) pos) (mPar3 i j l mr) :=
  PS.of (ps_asg (pe_tupC ha) (pg_tup (n := 3) hc (pgs_cons (pg_name hN hi hx fx) (pgs_cons (pg_name hN hj hy fy) (pgs_cons (pg_name hN hl hz fz) pgs_nil))) (by rfl) (by rfl)) hs hw (by rfl)) fun D σ H ⟨E, τ, M, B, h, w, sl, g⟩ => by
  refine ⟨τ, M, B, _, h, w, sl, fun v t M1 B1 H1 h1 w1 e1 r1 => ?_⟩
  split at h1
  · cases r1 with
    | cons r2 r3 =>
      cases r3 with
      | cons r4 r5 =>
        obtain ⟨v3, rfl, r6⟩ := paired_one r5
        refine ⟨(show 3 ≤ sizeLine by decide +kernel), fun p o hp ho => ?_⟩
        refine ⟨p, _, rfl, .inl (.inr ⟨o, upd_same⟩), rfl, _, _, rfl, _, _, rfl, _, _, rfl, rfl, ?_⟩
        exact g.nx _ M1 B1 _ _ h1 (w1.side hp _) (e1.trans (Ext.side hp _)) ((((sl.mono e1).set i r2).set j r4).set l r6)
  · exact h1.elim
theorem ms_unp2 {X : Cx} {mr : Ma} {pos : Pos} {i j : Nat} {x y : Str} {e1 e2 : Expr} {px py pt : Pos} {kt k2 : Nat} {pt2 : Pos} (hc : X.calm = true) (hN : X.N.Nodup) (hi : X.N[i]? = some x) (hj : X.N[j]? = some y)
    (hx : Loc X.env.scope x) (hy : Loc X.env.scope y)
    (fx : X.fn x = true ∨ X.env.scope.names.lookup x = some .local) (fy : X.fn y = true ∨ X.env.scope.names.lookup y = some .local) (ha : MA X [e1, e2] mr)
    (hs : swapsWithSole [.Tuple [.Name x px, .Name y py] kt pt] (.Tuple [e1, e2] k2 pt2) pos.line X.env = pure false := by rfl)
    (hw : swappedStores [.Tuple [.Name x px, .Name y py] kt pt] (.Tuple [e1, e2] k2 pt2) X.env = pure none := by rfl) :
    MS X (.Assign [.Tuple [.Name x px, .Name y py] kt pt] (.Tuple [e1, e2] k2 pt2) pos) (mPar i j mr) :=
  PS.of (ps_asg (pe_tupC ha) (pg_tup (n := 2) hc (pgs_cons (pg_name hN hi hx fx) (pgs_cons (pg_name hN hj hy fy) pgs_nil)) (by rfl) (by rfl)) hs hw (by rfl)) fun D σ H ⟨E, τ, M, B, h, w, sl, g⟩ => by
  refine ⟨τ, M, B, _, h, w, sl, fun v t M1 B1 H1 h1 w1 e1 r1 => ?_⟩
  split at h1
  · cases r1 with
    | cons r2 r3 =>
      obtain ⟨v3, rfl, r6⟩ := paired_one r3
      refine ⟨(show 2 ≤ sizeLine by decide +kernel), fun p o hp ho => ?_⟩
      refine ⟨p, _, rfl, .inl (.inr ⟨o, upd_same⟩), rfl, _, _, rfl, _, _, rfl, rfl, ?_⟩
      exact g.nx _ M1 B1 _ _ h1 (w1.side hp _) (e1.trans (Ext.side hp _)) (((sl.mono e1).set i r2).set j r6)
  · exact h1.elim
end L3

set_option Elab.async false
set_option linter.all false
set_option maxRecDepth 100000
set_option maxHeartbeats 2000000
/-! defs that drop the cells which they made, the cells that were there changed, none of them holding one that was made -/
namespace L3
open PySem PySem.Spec L2
def T.lo (n : Nat) : T → Bool
  | .mr i => decide (i < n)
  | _ => true
def Cell.lo (n : Nat) : Cell → Bool
  | .lst ts => ts.all (T.lo n)
  | .dct kvs => kvs.all fun p => T.lo n p.2
  | .dnk kvs => kvs.all fun p => T.lo n p.2
def clo (n : Nat) (D : List Cell) : Prop := (D.take n).all (Cell.lo n) = true
theorem Rt.cutL {K : PySem.W.Frag} {B : Bk} {n : Nat} {v : V} {t : T} (h0 : T.lo n t = true) (h : Rt K { B with l := [] } v t) : Rt K { B with r := B.r.take n, l := [] } v t := by
  cases t with
  | d x => exact h
  | mr i =>
    obtain ⟨a, e, q⟩ := h
    have hi : i < n := of_decide_eq_true h0
    refine ⟨a, e, ?_⟩
    show (B.r.take n)[i]? = some a
    rw [List.getElem?_take, if_pos hi]
    exact q
  | lr i => exact h
  | scr ns => exact h
  | wt xs => exact h
  | exo a c d e => exact h
theorem paired_cutL {K : PySem.W.Frag} {B : Bk} {n : Nat} : ∀ {vs : List V} {ts : List T}, ts.all (T.lo n) = true → Paired (Rt K { B with l := [] }) vs ts → Paired (Rt K { B with r := B.r.take n, l := [] }) vs ts
  | _, _, _, .nil => .nil
  | _, _, h, .cons b r => by
    rw [List.all_cons, Bool.and_eq_true] at h
    exact .cons (Rt.cutL h.1 b) (paired_cutL h.2 r)
theorem paired_cutLD {K : PySem.W.Frag} {B : Bk} {n : Nat} : ∀ {vs : List (Key × V)} {ts : List (Key × T)}, (ts.all fun p => T.lo n p.2) = true → Paired (fun (p : Key × V) (q : Key × T) => p.1 = q.1 ∧ Rt K { B with l := [] } p.2 q.2) vs ts → Paired (fun (p : Key × V) (q : Key × T) => p.1 = q.1 ∧ Rt K { B with r := B.r.take n, l := [] } p.2 q.2) vs ts
  | _, _, _, .nil => .nil
  | _, _, h, .cons b r => by
    rw [List.all_cons, Bool.and_eq_true] at h
    exact .cons ⟨b.1, Rt.cutL h.1 b.2⟩ (paired_cutLD h.2 r)
theorem paired_cutLN {K : PySem.W.Frag} {B : Bk} {n : Nat} : ∀ {vs : List (NestedKey × Addr × V)} {ts : List (NestedKey × T)}, (ts.all fun p => T.lo n p.2) = true →
    Paired (fun (p : NestedKey × Addr × V) (q : NestedKey × T) => p.1 = q.1 ∧ okKey 8 q.1 = true ∧ Rp K B.G (.ref p.2.1) q.1.data ∧ Rt K { B with l := [] } p.2.2 q.2) vs ts →
    Paired (fun (p : NestedKey × Addr × V) (q : NestedKey × T) => p.1 = q.1 ∧ okKey 8 q.1 = true ∧ Rp K B.G (.ref p.2.1) q.1.data ∧ Rt K { B with r := B.r.take n, l := [] } p.2.2 q.2) vs ts
  | _, _, _, .nil => .nil
  | _, _, h, .cons b r => by
    rw [List.all_cons, Bool.and_eq_true] at h
    exact .cons ⟨b.1, b.2.1, b.2.2.1, Rt.cutL h.1 b.2.2.2⟩ (paired_cutLN h.2 r)
theorem Wd.cutL {K : PySem.W.Frag} {B : Bk} {M : Mem} {H : Hp} {n : Nat} (w : Wd K B M H) (hD : clo n M.D) : Wd K { B with r := B.r.take n, l := [] } ⟨M.D.take n, []⟩ H := by
  have nr : B.r.Nodup := (List.nodup_append.mp w.nd).1
  refine ⟨w.le, ?_, rfl, ?_, fun i a c h1 h2 => ?_, fun i a ds h1 _ => ?_, fun a ha => ?_⟩
  · show (B.r.take n).length = (M.D.take n).length
    rw [List.length_take, List.length_take, w.rlen]
  · show (B.r.take n ++ []).Nodup
    rw [List.append_nil]
    exact nr.sublist (List.take_sublist _ _)
  · have h1' : (B.r.take n)[i]? = some a := h1
    have h2' : (M.D.take n)[i]? = some c := h2
    have hc : Cell.lo n c = true := List.all_eq_true.mp hD c (List.mem_of_getElem? h2')
    rw [List.getElem?_take] at h1' h2'
    split at h1'
    · rename_i hi
      rw [if_pos hi] at h2'
      obtain ⟨z1, z2⟩ := w.dc i a c h1' h2'
      refine ⟨z1, ?_⟩
      cases c with
      | lst ts =>
        obtain ⟨xs, e1, e2⟩ := z2
        exact ⟨xs, e1, paired_cutL hc e2⟩
      | dct kvs =>
        obtain ⟨xs, e1, e2⟩ := z2
        exact ⟨xs, e1, paired_cutLD hc e2⟩
      | dnk kvs =>
        obtain ⟨xs, e1, e2⟩ := z2
        exact ⟨xs, e1, paired_cutLN hc e2⟩
    · cases h1'
  · have h1' : ([] : List Addr)[i]? = some a := h1
    simp at h1'
  · have ha' : a ∈ B.r.take n ++ [] := ha
    rw [List.append_nil] at ha'
    exact w.tr a (List.mem_append_left _ (List.mem_of_mem_take ha'))
def mDefC (n N : Nat) (body : Ms) : FD := fun ts D Q => ts.length = n ∧ body { nx := fun _ M => clo D.length M.D ∧ Q .non (M.D.take D.length), rt := fun t M => (∃ x, t = .d x) ∧ clo D.length M.D ∧ Q t (M.D.take D.length) } (ts.map some ++ List.replicate (N - n) none) ⟨D, []⟩
theorem okC_def {P : Program} {w : World} {K : PySem.W.Frag} {mg : Str → Option Value} {base : Heap} {x qual : Str} {st : Stmt} {f : Addr} {fd : FuncData} {N ps : List Str} {k : Nat} {m : Ms}
    (F : Fun K x qual st f fd) (S : FnScope N ps (defScope st))
    (body : ∀ (cdv : Value) (A : Around) (outer : List Env) (sh : Shared) (H : Hp) (E : XK), Gd (A.deeper (PyProof.Rows.envOfC qual (defScope st) sh.heap.objs.size f cdv)) → Room k (A.deeper (PyProof.Rows.envOfC qual (defScope st) sh.heap.objs.size f cdv)) →
      MSs (cxOf CX0 P w K mg base N qual (defScope st) f cdv A outer sh H E).nox (defBody st) m) :
    FnG P w K mg base (k + 1) f fd ps (spM K (mDefC ps.length N.length m)) := by
  refine fng_of F S (fun vs H Q E h => ?_) fun cdv A outer sh H vs Q E gd rm h => ?_
  · obtain ⟨ts, D, B, Q1, ⟨h1, _⟩, _, r, _⟩ := h
    exact (paired_len r).trans h1
  · obtain ⟨ts, D, B, Q1, ⟨h1, h2⟩, wd, r, kk⟩ := h
    refine ⟨_, body cdv A outer sh H E gd rm, ?_⟩
    have lB : B.l = [] := List.length_eq_zero_iff.mp wd.llen
    have lr : B.r.length = D.length := wd.rlen
    have s0 := start_sl (N := N) r
    rw [h1] at s0
    refine ⟨_, _, ⟨D, []⟩, B, h2, wd, s0, ⟨fun τ' M' B' σ' H' q w' e' s' => ?_, fun v t M' B' H' q w' e' r' => ?_, fun _ _ _ _ _ q => q.elim, fun _ _ _ _ _ q => q.elim⟩⟩
    · have e2 := e'.cut
      rw [lB, lr] at e2
      exact kk .non .non _ _ H' q.2 (Wd.cutL w' q.1) e2 .non
    · obtain ⟨⟨x, rfl⟩, q1, q2⟩ := q
      have e2 := e'.cut
      rw [lB, lr] at e2
      exact kk v (.d x) _ _ H' q2 (Wd.cutL w' q1) e2 r'
/-! ### calls that see only the first cells of the deck -/
def fDefC (m : FD) : FA := fun ts M Q => ∃ n, n ≤ M.D.length ∧ clo n M.D ∧ (∀ t ∈ ts, noL t = true ∧ T.lo n t = true) ∧ m ts (M.D.take n) fun t D' => D'.length = n ∧ Q t { M with D := D' ++ M.D.drop n }
theorem paired_deckL {K : PySem.W.Frag} {B : Bk} {n : Nat} : ∀ {vs : List V} {ts : List T}, Paired (Rt K B) vs ts → (∀ t ∈ ts, noL t = true ∧ T.lo n t = true) → Paired (Rt K { B with r := B.r.take n, l := [] }) vs ts
  | _, _, .nil, _ => .nil
  | _, _, .cons p q, h => .cons (Rt.cutL (h _ (List.mem_cons_self ..)).2 (p.deck (h _ (List.mem_cons_self ..)).1)) (paired_deckL q fun t z => h t (List.mem_cons_of_mem _ z))
theorem sp_ofC {K : PySem.W.Frag} {m : FD} {vs : List V} {ts : List T} {M : Mem} {B : Bk} {H : Hp} {Q : Kt} {Q' : VK} {E : XK} (h : fDefC m ts M Q) (w : Wd K B M H) (r : Paired (Rt K B) vs ts)
    (k : ∀ v t' M' B' H', Q t' M' → Wd K B' M' H' → Ext B H B' H' → Rt K B' v t' → Q' v H') : spM K m vs H Q' E := by
  obtain ⟨n, hn, hc, hts, h⟩ := h
  refine ⟨ts, M.D.take n, { B with r := B.r.take n, l := [] }, _, h, w.cutL hc, paired_deckL r hts, fun v t D' B1 H1 q w1 e1 r1 => ?_⟩
  obtain ⟨hl, q⟩ := q
  have l1 : B1.l = [] := List.length_eq_zero_iff.mp w1.llen
  have rl1 : B1.r.length = n := by rw [w1.rlen]; exact hl
  have er : B1.r = B.r.take n := by
    have hp : B.r.take n <+: B1.r := e1.r
    exact (hp.eq_of_length (by rw [rl1, List.length_take, w.rlen]; omega)).symm
  have pre : B1.r <+: B.r := by rw [er]; exact List.take_prefix _ _
  have own : ∀ a ∈ B.r ++ B.l, H a ≠ none := fun a z => w.tr a z
  have nG : ∀ a, H a ≠ none → B.G a = none → B1.G a = none := fun a ha hb => by
    cases z : B1.G a with
    | none => rfl
    | some o =>
      rcases e1.gf a o z with y | y | y
      · rw [show B.G a = none from hb] at y; cases y
      · exact absurd y ha
      · cases y
  have e' : Ext B H { B1 with r := B.r, l := B.l } H1 :=
    ⟨e1.g, List.prefix_refl _, List.prefix_refl _, fun a o e n1 n2 => e1.fr a o e (fun y => n1 (List.mem_of_mem_take y)) (by intro y; cases y), e1.tr, fun a z => .inl z, fun a z => .inl z, fun a o e => (e1.gf a o e).elim .inl fun z => z.elim (fun z => .inr (.inl z)) (by intro z; cases z)⟩
  have ndr : B.r.Nodup := (List.nodup_append.mp w.nd).1
  refine k v t { M with D := D' ++ M.D.drop n } { B1 with r := B.r, l := B.l } H1 q ⟨w1.le, ?_, w.llen, w.nd, fun i a c h1 h2 => ?_, fun i a ds h1 h2 => ?_, fun a ha => fun y => own a ha (e1.tr a y)⟩ e' ?_
  · show B.r.length = (D' ++ M.D.drop n).length
    rw [List.length_append, List.length_drop, hl, w.rlen]
    omega
  · have h1' : B.r[i]? = some a := h1
    have h2' : (D' ++ M.D.drop n)[i]? = some c := h2
    rcases Nat.lt_or_ge i n with z | z
    · rw [List.getElem?_append_left (by omega)] at h2'
      have h3 : B1.r[i]? = some a := by
        rw [er, List.getElem?_take, if_pos z]
        exact h1'
      obtain ⟨q1, q2⟩ := w1.dc i a c h3 h2'
      exact ⟨q1, CellAt.mono (B := B1) (fun _ _ e => e) pre rfl q2⟩
    · rw [List.getElem?_append_right (by omega), List.getElem?_drop, hl, show n + (i - n) = i by omega] at h2'
      obtain ⟨q1, q2⟩ := w.dc i a c h1' h2'
      have ha : H a ≠ none := own a (List.mem_append_left _ (mem_of_get h1'))
      have nt : a ∉ B.r.take n := fun y => by
        obtain ⟨j, hj, e⟩ := List.getElem_of_mem y
        rw [List.getElem_take] at e
        have hj2 : j < n := by rw [List.length_take] at hj; omega
        have hj3 : j < B.r.length := by rw [List.length_take] at hj; omega
        obtain ⟨hi, e2⟩ := List.getElem?_eq_some_iff.mp h1'
        have := (List.getElem_inj (h₀ := hj3) (h₁ := hi) ndr).mp (e.trans e2.symm)
        omega
      refine ⟨nG a ha q1, CellAt.mono (B := B) e1.g (List.prefix_refl _) ?_ q2⟩
      cases z : H a with
      | none => exact absurd z ha
      | some o => exact e1.fr a o z nt (by intro y; cases y)
  · obtain ⟨q1, xs, q2, q3⟩ := w.lc i a ds h1 h2
    have ml : a ∈ B.l := mem_of_get h1
    exact ⟨nG a (own a (List.mem_append_right _ ml)) q1, xs, e1.fr a _ q2 (fun y => w.rl (List.mem_of_mem_take y) ml) (by intro y; cases y), RpA.mono e1.g q3⟩
  · cases t with
    | d x => exact r1
    | mr i =>
      obtain ⟨a, e, z⟩ := r1
      refine ⟨a, e, ?_⟩
      obtain ⟨c, hc⟩ := pre
      show B.r[i]? = some a
      rw [← hc]
      rw [List.getElem?_append_left (List.getElem?_eq_some_iff.mp z).1]
      exact z
    | lr i =>
      obtain ⟨a, _, z⟩ := r1
      rw [l1] at z
      simp at z
    | scr ns => exact r1
    | wt xs => exact r1
    | exo a c d e => exact r1
section
variable {X : Cx} {j k : Nat} {f : Addr} {fd : FuncData} {ps ks : List Str} {m : FD} {st : Stmt} {x : Str} {p pos : Pos} {e : Expr} {es : List Expr} {mr mk : Ma} {kws : List Keyword}
theorem me_callC (F : FnG X.prog X.w X.K X.mg X.base k f fd ps (spM X.K m)) (gd : Gd X.A) (rm : Room k X.A) (hg : Gl X x) (hm : X.mg x = some (.ref f)) (hk : PySem.W.keepIn X.K (.ref f) = true) (hb : Binds X.K fd ps [])
    (ha : MA X (e :: es) mr) (hdb : (x == ("__debug__" : Str)) = false := by decide) (he : starEach (e :: es) X.env = (false, eval e X.env) :: starEach es X.env := by rfl) (hpl : (backTo pos (starEach es X.env)).any (·.1) = false := by rfl) :
    ME X (.Call (.Name x p) (e :: es) [] pos) (mCall (fDefC m) mr) := by
  refine ⟨fun pn sh sg hp Q' iv ⟨τ, M, B, Q, h, w, s, kk⟩ => wpAny_Call_Name_kw (ld_glob iv hg hm ?_ hdb)⟩
  let P := fun (vs : List V) (H1 : Hp) => spM X.K m vs H1 Q' E0
  refine PySem.W.callWith_K (h₀ := X.base) iv.ok.mod.kin hk (thn (ha.run pos pn sh sg hp P iv ⟨τ, M, B, _, h, w, s, fun vs ts M1 B1 H1 h1 w1 e1 r1 => ?_⟩) fun us s1 ⟨vs, H1, i1, r, q⟩ => ⟨i1.kIn, ?_⟩) he hpl
  · exact sp_ofC h1 w1 r1 fun v t M2 B2 H2 h2 w2 e2 r2 => kk v t M2 B2 H2 h2 w2 (e1.trans e2) r2
  · have hl : (us ++ []).length = ps.length := by
      rw [List.append_nil, ← r.length]
      exact F.len _ _ _ _ q
    have hbb := hb s1 us i1.kIn hl
    rw [List.append_nil] at hbb
    exact run_g (args := ⟨us, []⟩) F gd rm hbb i1 r q
theorem me_fnC (h : Kn X.prog X.w X.K X.mg X.base j x st ps m) (gd : Gd X.A) (rm : Room k X.A) (hj : j ≤ k) (hg : Gl X x) (ha : MA X (e :: es) mr) (hdb : (x == ("__debug__" : Str)) = false := by decide)
    (he : starEach (e :: es) X.env = (false, eval e X.env) :: starEach es X.env := by rfl) (hpl : (backTo pos (starEach es X.env)).any (·.1) = false := by rfl) : ME X (.Call (.Name x p) (e :: es) [] pos) (mCall (fDefC m) mr) :=
  let ⟨_, _, F, hm, U, hb⟩ := h
  me_callC F gd (rm.mono hj) hg hm U.kp hb ha hdb he hpl
end
end L3

set_option Elab.async false
set_option linter.all false
set_option maxRecDepth 100000
/-! more steps of readings, by refine -/
namespace Wm
open PySem PySem.Spec L2 L3 Sh
theorem two_ok : 2 ≤ sizeLine := sz64' (show 2 ≤ 100000 by decide)
theorem sz3 : 3 ≤ sizeLine := sz64' (show 3 ≤ 100000 by decide)
theorem sz1 : 1 ≤ sizeLine := sz64' (show 1 ≤ 100000 by decide)
theorem sz4' : 4 ≤ sizeLine := sz64' (show 4 ≤ 100000 by decide)
theorem w_test {m : Me} {τ : En} {M : Mem} {R : Bool → Mem → Prop} (h : m τ M fun x M1 => ∃ k, x = .d (.bool k) ∧ R k M1) : mTest m τ M R := h
theorem w_bor {c d : Mb} {τ : En} {M : Mem} {R : Bool → Mem → Prop} (h : c τ M fun k M1 => if k = true then R true M1 else d τ M1 R) : bOr c d τ M R := h
theorem w_bnot {c : Mb} {τ : En} {M : Mem} {R : Bool → Mem → Prop} (h : c τ M fun k M1 => R (!k) M1) : bNot c τ M R := h
theorem w_par {i j : Nat} {r : Ma} {E : Es} {τ : En} {M : Mem} (h : r τ M fun ts M1 => match ts with
  | [t, u] => E.nx ((τ.set i (some t)).set j (some u)) M1
  | _ => False) : mPar i j r E τ M := h
theorem w_and {a b : Me} {τ : En} {M : Mem} {Q : Kt} (h : a τ M fun t M1 => match t with
  | .d (.bool true) => b τ M1 Q
  | .d (.bool false) => Q (.bl false) M1
  | _ => False) : mAnd a b τ M Q := h
theorem w_min {a b : Int} {M : Mem} {Q : Kt} (q : Q (.int (if b < a then b else a)) M) : fMin [.d (.int a), .d (.int b)] M Q := q
theorem w_max {a b : Int} {M : Mem} {Q : Kt} (q : Q (.int (if b > a then b else a)) M) : fMax [.d (.int a), .d (.int b)] M Q := q
theorem w_mul {a b : Int} {M : Mem} {Q : Kt} (z : CMul a b) (h : Q (.int (a * b)) M) : oMul (.d (.int a)) (.d (.int b)) M Q := ⟨z, h⟩
theorem w_div {a b : Int} {M : Mem} {Q : Kt} (z : CDv a b) (h : Q (.int (a / b)) M) : oDiv (.d (.int a)) (.d (.int b)) M Q := ⟨z, h⟩
theorem w_slL {i : Nat} {ds : List PyData} {lo hi : Option Int} {M : Mem} {Q : Kt} (h : M.L[i]? = some (some ds)) (q : Q (.lst (cutT ds lo hi)) M) : oSl (.lr i) lo hi M Q := by
  unfold oSl
  simp only [h]
  exact q
theorem w_lenL {i : Nat} {ds : List PyData} {M : Mem} {Q : Kt} (h : M.L[i]? = some (some ds)) (q : Q (.int ds.length) M) : fLen [.lr i] M Q := by
  unfold fLen
  simp only [now, h]
  exact q
theorem w_slF {m : Me} {b : Nat} {n : Int} {τ : En} {M : Mem} {Q : Kt} (hb : τ[b]? = some (some (.int n))) (h : m τ M fun x M1 => oSl x (some n) none M1 Q) : mSl m (oPart (mVar b)) oNone τ M Q := by
  unfold mSl oPart mVar oNone
  have e : (fun x M1 => oSl x (some n) none M1 Q) = (fun x M1 => (fun Q1 => ∃ t, τ[b]? = some (some t) ∧ (match t with | .d (.int i) => Q1 (some i) M1 | _ => False)) fun l M2 => (fun Q2 => Q2 none M2) fun u M3 => oSl x l u M3 Q) := by
    funext x M1
    exact propext ⟨fun z => ⟨.int n, hb, z⟩, fun ⟨t, ht, z⟩ => by
      rw [hb] at ht
      cases ht
      exact z⟩
  rw [e] at h
  exact h
theorem w_slT {m : Me} {b : Nat} {n : Int} {τ : En} {M : Mem} {Q : Kt} (hb : τ[b]? = some (some (.int n))) (h : m τ M fun x M1 => oSl x none (some n) M1 Q) : mSl m oNone (oPart (mVar b)) τ M Q := by
  unfold mSl oPart mVar oNone
  have e : (fun x M1 => oSl x none (some n) M1 Q) = (fun x M1 => (fun Q2 => Q2 none M1) fun l M2 => (fun Q1 => ∃ t, τ[b]? = some (some t) ∧ (match t with | .d (.int i) => Q1 (some i) M2 | _ => False)) fun u M3 => oSl x l u M3 Q) := by
    funext x M1
    exact propext ⟨fun z => ⟨.int n, hb, z⟩, fun ⟨t, ht, z⟩ => by
      rw [hb] at ht
      cases ht
      exact z⟩
  rw [e] at h
  exact h
theorem w_asg {m : Me} {g : Mg} {E : Es} {τ : En} {M : Mem} (h : m τ M fun t M1 => g t τ M1 E.nx) : mAsg m g E τ M := h
theorem w_lc {i : Mi} {g : Mg} {c : Mb} {m : Me} {vs : List Nat} {τ : En} {M : Mem} {Q : Kt} (h : i τ M fun ts M1 => goLc g c m (wipeT τ vs) (fun acc M2 => Q (.lst acc) M2) ts [] M1) : mLc i g c m vs τ M Q := h
theorem w_yes {τ : En} {M : Mem} {R : Bool → Mem → Prop} (h : R true M) : bYes τ M R := h
theorem w_frz {x : PyData} {τ : En} {M : Mem} {Q : Kt} {b : Nat} (hb : τ[b]? = some (some (.d x))) (q : Q (.d x) M) : mFrz (mVar b) τ M Q := ⟨.d x, hb, q⟩
theorem w_frzL {b r : Nat} {ds : List PyData} {τ : En} {M : Mem} {Q : Kt} (hb : τ[b]? = some (some (.lr r))) (hL : M.L[r]? = some (some ds)) (q : Q (.lst ds) { M with L := M.L.set r none }) : mFrz (mVar b) τ M Q := by
  refine ⟨.lr r, hb, ?_⟩
  show (match M.L[r]? with
    | some (some ds) => Q (.lst ds) { M with L := M.L.set r none }
    | _ => False)
  rw [hL]
  exact q
theorem w_ixL {i : Nat} {j : Int} {x : PyData} {ds : List PyData} {M : Mem} {Q : Kt} (hL : M.L[i]? = some (some ds)) (hx : atI ds j = some x) (q : Q (.d x) M) : oIx (.lr i) (.d (.int j)) M Q := by
  show (match M.L[i]? with
    | some (some xs) => ∃ t, atI xs j = some t ∧ Q (.d t) M
    | _ => False)
  rw [hL]
  exact ⟨x, hx, q⟩
theorem k_lput {r n : Nat} {j : Int} {z : PyData} {ds : List PyData} {E : Es} {τ : En} {M : Mem} (hL : M.L[r]? = some (some ds)) (hn : ixN ds.length j = some n) (q : E.nx τ { M with L := M.L.set r (some (ds.set n z)) }) :
    (match T.lr r, T.d (.int j), T.d z with
    | .lr i, .d (.int j), .d z => (match M.L[i]? with
      | some (some ds) => ∃ n, ixN ds.length j = some n ∧ E.nx τ { M with L := M.L.set i (some (ds.set n z)) }
      | _ => False)
    | _, _, _ => False) := by
  show (match M.L[r]? with
      | some (some ds) => ∃ n, ixN ds.length j = some n ∧ E.nx τ { M with L := M.L.set r (some (ds.set n z)) }
      | _ => False)
  rw [hL]
  exact ⟨n, hn, q⟩
theorem w_lput {d k v : Me} {E : Es} {τ : En} {M : Mem} (h : v τ M fun t M1 => d τ M1 fun x M2 => k τ M2 fun y M3 => match x, y, t with
    | .lr i, .d (.int j), .d z => (match M3.L[i]? with
      | some (some ds) => ∃ n, ixN ds.length j = some n ∧ E.nx τ { M3 with L := M3.L.set i (some (ds.set n z)) }
      | _ => False)
    | _, _, _ => False) : mLPut d k v E τ M := h
theorem w_tupL {r : Nat} {ds : List PyData} {M : Mem} {Q : Kt} (hL : M.L[r]? = some (some ds)) (q : Q (.tup ds) M) : fTuple [.lr r] M Q := by
  unfold fTuple
  simp only [now, hL]
  exact q
theorem w_listL {ds : List PyData} {M : Mem} {Q : Kt} (q : Q (.lr M.L.length) { M with L := M.L ++ [some ds] }) : fListL [.d (.tuple ds)] M Q := q
theorem set_get {α : Type} {L : List α} {r : Nat} {x y : α} (h : L[r]? = some x) : (L.set r y)[r]? = some y := by
  rw [List.getElem?_set_self (List.getElem?_eq_some_iff.mp h).1]
theorem get_app {α : Type} {L M : List α} {i : Nat} {x : α} (h : L[i]? = some x) : (L ++ M)[i]? = some x := by
  rw [List.getElem?_append_left (List.getElem?_eq_some_iff.mp h).1]
  exact h
theorem w_wt {i j : Nat} {x y : PyData} {τ : En} {M : Mem} {P : En → Mem → Prop} (h : P ((τ.set i (some (.d x))).set j (some (.d y))) M) : gTu 2 (gsCons (gN i) (gsCons (gN j) gsNil)) (T.wt [x, y]) τ M P := ⟨rfl, rfl, h⟩
theorem w_nnew {τ : En} {M : Mem} {Q : Kt} (h : Q (.mr M.D.length) { M with D := M.D ++ [.dnk []] }) : mNNew τ M Q := h
theorem w_nput {d k v : Me} {E : Es} {τ : En} {M : Mem} (h : v τ M fun t M1 => d τ M1 fun x M2 => k τ M2 fun y M3 => ∃ i k kvs, x = .mr i ∧ keyT y k ∧ M3.D[i]? = some (.dnk kvs) ∧ noL t = true ∧ kvs.length < sizeLine ∧ E.nx τ { M3 with D := M3.D.set i (.dnk (putN kvs k t)) }) : mNPut d k v E τ M := h
theorem w_band {c d : Mb} {τ : En} {M : Mem} {R : Bool → Mem → Prop} (h : c τ M fun k M1 => if k = true then d τ M1 R else R false M1) : bAnd c d τ M R := h
theorem w_t4 {i j k l : Nat} {x y z u : PyData} {τ : En} {M : Mem} {P : En → Mem → Prop} (h : P ((((τ.set i (some (.d x))).set j (some (.d y))).set k (some (.d z))).set l (some (.d u))) M) : gTu 4 (gsCons (gN i) (gsCons (gN j) (gsCons (gN k) (gsCons (gN l) gsNil)))) (.d (.tuple [x, y, z, u])) τ M P := ⟨rfl, rfl, h⟩
theorem w_t3 {i j k : Nat} {x y z : PyData} {τ : En} {M : Mem} {P : En → Mem → Prop} (h : P (((τ.set i (some (.d x))).set j (some (.d y))).set k (some (.d z))) M) : gTu 3 (gsCons (gN i) (gsCons (gN j) (gsCons (gN k) gsNil))) (.d (.tuple [x, y, z])) τ M P := ⟨rfl, rfl, h⟩
theorem w_popAt {i k : Nat} {x : PyData} {ds : List PyData} {M : Mem} {Q : Kt} (hL : M.L[i]? = some (some ds)) (hk : k < 100000) (hx : ds[k]? = some x) (q : Q (.d x) { M with L := M.L.set i (some (ds.eraseIdx k)) }) : fPopAt (.lr i) [.d (.int (k : Int))] M Q := by
  rw [x_popAt, hL]
  refine ⟨⟨by omega, by omega, by rw [Int.toNat_natCast]; exact (List.getElem?_eq_some_iff.mp hx).1⟩, fun z hz => ?_⟩
  rw [Int.toNat_natCast] at hz ⊢
  rw [hx] at hz
  cases hz
  exact q
theorem er_map {α β : Type} (f : α → β) : ∀ (l : List α) (k : Nat), (l.map f).eraseIdx k = (l.eraseIdx k).map f
  | [], _ => rfl
  | _ :: _, 0 => rfl
  | a :: l, k + 1 => by
    rw [List.map_cons, List.eraseIdx_cons_succ, List.eraseIdx_cons_succ, List.map_cons, er_map f l k]
theorem w_chain {f g : F2} {a b c : Me} {τ : En} {M : Mem} {Q : Kt} (h : a τ M fun a M1 => b τ M1 fun b M2 => f a b M2 fun t M3 => match t with
  | .d (.bool true) => c τ M3 fun c M4 => g b c M4 Q
  | .d (.bool false) => Q (.bl false) M3
  | _ => False) : mChain f g a b c τ M Q := h
theorem w_listT {xs : List PyData} {M : Mem} {Q : Kt} (q : Q (.lst xs) M) : fList [.d (.tuple xs)] M Q := q
theorem w_catL {a b : List PyData} {M : Mem} {Q : Kt} (z : a.length + b.length ≤ sizeLine) (q : Q (.lst (a ++ b)) M) : oAdd (.d (.list a)) (.d (.list b)) M Q := ⟨z, q⟩
theorem w_catT {a b : List PyData} {M : Mem} {Q : Kt} (z : a.length + b.length ≤ sizeLine) (q : Q (.tup (a ++ b)) M) : oAdd (.d (.tuple a)) (.d (.tuple b)) M Q := ⟨z, q⟩
theorem w_neS {a : Str} {M : Mem} {Q : Kt} (q : Q (.bl false) M) : oEq true (.d (.str a)) (.d (.str a)) M Q := by
  rw [x_eqs]
  simpa using q
theorem w_eqS {a : Str} {M : Mem} {Q : Kt} (q : Q (.bl true) M) : oEq false (.d (.str a)) (.d (.str a)) M Q := by
  rw [x_eqs]
  simpa using q
theorem w_repZ {xs : List PyData} {n : Nat} {M : Mem} {Q : Kt} (h : xs ≠ [] ∧ n ≤ 1000 ∧ xs.length ≤ 1000) (q : Q (.tup (List.replicate n xs).flatten) M) : oRepZ (.d (.tuple xs)) (.d (.int (n : Int))) M Q := by
  rw [x_repZ]
  exact ⟨⟨h.1, by omega, by omega, h.2.2⟩, q⟩
theorem w_tupl {xs : List PyData} {M : Mem} {Q : Kt} (q : Q (.tup xs) M) : fTuple [.d (.list xs)] M Q := q
end Wm

set_option Elab.async false
set_option linter.all false
set_option maxRecDepth 100000
set_option maxHeartbeats 2000000
/-! [elt for target in iter for target1 in iter1] -/
namespace L3
open PySem PySem.Spec L2
def goLc2 (g : Mg) (c : Mb) (i1 : Mi) (g1 : Mg) (c1 : Mb) (m : Me) (vs1 : List Nat) (τ0 : En) (Q : List PyData → Mem → Prop) : List T → List PyData → Mem → Prop
  | [], acc, M => Q acc M
  | t :: ts, acc, M => g t τ0 M fun τ1 M1 => c τ1 M1 fun k M2 => if k = true then i1 τ1 M2 fun ts1 M3 => goLc g1 c1 m (wipeT τ1 vs1) (goLc2 g c i1 g1 c1 m vs1 τ0 Q ts) ts1 acc M3 else goLc2 g c i1 g1 c1 m vs1 τ0 Q ts acc M2
def mLc2 (i : Mi) (g : Mg) (c : Mb) (i1 : Mi) (g1 : Mg) (c1 : Mb) (m : Me) (vs vs1 : List Nat) : Me := fun τ M Q => i τ M fun ts M1 => goLc2 g c i1 g1 c1 m vs1 (wipeT τ vs) (fun acc M2 => Q (.lst acc) M2) ts [] M1
/-- the list that grows at D, and what is to come -/
def LSt (K : PySem.W.Frag) (B1 : Bk) (H1 : Hp) (D : Addr) (cont : List PyData → Mem → Prop) (H2 : Hp) : Prop := ∃ acc vs M2 B2, cont acc M2 ∧ Wd K B2 M2 H2 ∧ Ext B1 H1 B2 H2 ∧ H2 D = some (.lst vs) ∧ RpA K B2.G vs acc ∧ B2.G D = none ∧ D ∉ B2.r ∧ D ∉ B2.l
theorem keepD {B2 B4 : Bk} {H2 H4 : Hp} {D : Addr} {vs : List V} (d2 : H2 D = some (.lst vs)) (g2 : B2.G D = none) (n2 : D ∉ B2.r) (l2 : D ∉ B2.l) (e4 : Ext B2 H2 B4 H4) : H4 D = some (.lst vs) ∧ B4.G D = none ∧ D ∉ B4.r ∧ D ∉ B4.l := by
  refine ⟨e4.fr D _ d2 n2 l2, ?_, fun z => ?_, fun z => ?_⟩
  · cases q : B4.G D with
    | none => rfl
    | some o =>
      rcases e4.gf D o q with z | z | z
      · rw [g2] at z; cases z
      · rw [d2] at z; cases z
      · exact absurd z l2
  · rcases e4.rn D z with q | q
    · exact n2 q
    · rw [d2] at q; cases q
  · rcases e4.ln D z with q | q
    · exact l2 q
    · rw [d2] at q; cases q
theorem side_write {K : PySem.W.Frag} {B6 : Bk} {M6 : Mem} {H6 : Hp} {D : Addr} {o : HO} (w6 : Wd K B6 M6 H6) (q2 : B6.G D = none) (q3 : D ∉ B6.r) (q4 : D ∉ B6.l) : Wd K B6 M6 (upd H6 D o) := by
  refine ⟨fun a u z => ?_, w6.rlen, w6.llen, w6.nd, fun j a c z1 z2 => ?_, fun j a ds z1 z2 => ?_, fun a ha => ?_⟩
  · rw [upd_ne (ne_of_none z q2)]
    exact w6.le a u z
  · obtain ⟨p1, p2⟩ := w6.dc j a c z1 z2
    exact ⟨p1, CellAt.mono (fun _ _ e => e) (List.prefix_refl _) (upd_ne fun z => q3 (by rw [← z]; exact mem_of_get z1)) p2⟩
  · obtain ⟨p1, xs, p2, p3⟩ := w6.lc j a ds z1 z2
    exact ⟨p1, xs, (upd_ne fun z => q4 (by rw [← z]; exact mem_of_get z1)).trans p2, p3⟩
  · rw [upd_ne fun z => ?_]
    · exact w6.tr a ha
    · rw [z] at ha
      exact (List.mem_append.mp ha).elim q3 q4
structure BkLe (B B' : Bk) : Prop where
  g : ∀ a o, B.G a = some o → B'.G a = some o
  r : B.r <+: B'.r
  l : B.l <+: B'.l
theorem BkLe.of {B B' : Bk} {H H' : Hp} (x : Ext B H B' H') : BkLe B B' := ⟨x.g, x.r, x.l⟩
theorem BkLe.refl (B : Bk) : BkLe B B := ⟨fun _ _ e => e, List.prefix_refl _, List.prefix_refl _⟩
theorem BkLe.trans {B B1 B2 : Bk} (x : BkLe B B1) (y : BkLe B1 B2) : BkLe B B2 := ⟨fun a o e => y.g a o (x.g a o e), x.r.trans y.r, x.l.trans y.l⟩
theorem Sl.le {K : PySem.W.Frag} {B B' : Bk} (x : BkLe B B') {σ : L2.St} {τ : En} (s : Sl K B σ τ) : Sl K B' σ τ :=
  ⟨s.len, fun i t e => let ⟨v, h, q⟩ := s.at_ i t e; ⟨v, h, Rt.mono' x.g x.r x.l q⟩⟩
theorem WalkT.stepL {K : PySem.W.Frag} {B1 B2 : Bk} {M2 : Mem} {H2 H3 : Hp} {ts : List T} {i : Nat} {x : V} (hi : i < ts.length) (w2 : Wd K B2 M2 H2) (e2 : BkLe B1 B2)
    (y : (H3 = H2 ∧ ∃ t, ts[i]? = some t ∧ Rt K B1 x t) ∨ ∃ p vs ds, x = .ref p ∧ H2 p = none ∧ H3 = upd H2 p (.tup vs) ∧ RpA K B1.G vs ds ∧ ts[i]? = some (.wt ds)) :
    ∃ B3, Wd K B3 M2 H3 ∧ Ext B2 H2 B3 H3 ∧ Rt K B3 x ts[i] := by
  have hg : ts[i]? = some ts[i] := List.getElem?_eq_getElem hi
  rcases y with ⟨rfl, t, h1, h2⟩ | ⟨p, vs, ds, rfl, h1, rfl, h2, h3⟩
  · rw [hg] at h1
    cases h1
    exact ⟨B2, w2, .refl _ _, Rt.mono' e2.g e2.r e2.l h2⟩
  · rw [hg] at h3
    obtain ⟨w3, e3⟩ := w2.alloc h1 (.tup vs)
    refine ⟨_, w3, e3, ?_⟩
    rw [Option.some.inj h3]
    exact ⟨p, vs, rfl, .inl (.inl upd_same), RpA.mono e3.g (RpA.mono e2.g h2)⟩
theorem lc2_gen {K : PySem.W.Frag} {i : Mi} {g : Mg} {os : List Nat} {mc : Mb} {i1 : Mi} {g1 : Mg} {os1 : List Nat} {mc1 : Mb} {m : Me} {vs0 vs1 : List Nat} {σ : L2.St} {H : Hp} {Q' : VK} {τ : En} {M : Mem} {B : Bk} {Qf : List PyData → Mem → Prop} (sub : ∀ j ∈ os, j ∈ vs0) (sub1 : ∀ j ∈ os1, j ∈ vs1)
    (h : i τ M fun ts M1 => goLc2 g mc i1 g1 mc1 m vs1 (wipeT τ vs0) Qf ts [] M1) (w : Wd K B M H) (sl : Sl K B σ τ)
    (k : ∀ (D : Addr) (acc : List PyData) (vs : List V) (M2 : Mem) (B2 : Bk) (H2 : Hp), Qf acc M2 → H D = none → Wd K B2 M2 H2 → Ext B H B2 H2 → H2 D = some (.lst vs) → RpA K B2.G vs acc → B2.G D = none → D ∉ B2.r → D ∉ B2.l → Q' (.ref D) H2) :
    tLc2 (rI K i) (rG K os g) (rB K mc) (rI K i1) (rG K os1 g1) (rB K mc1) (rE K m) vs0 vs1 σ H Q' := by
  refine ⟨τ, M, B, _, h, w, sl, fun ts M1 B1 H1 J h1 w1 e1 W D hD => ?_⟩
  obtain ⟨dG, dr, dl⟩ := w1.fresh hD
  have sw := (sl.mono e1).wipe vs0
  let P := fun (i : Nat) (H2 : Hp) => LSt K B1 H1 D (goLc2 g mc i1 g1 mc1 m vs1 (wipeT τ vs0) Qf (ts.drop i)) H2
  refine ⟨fun i n H2 => n = ts.length - i ∧ i ≤ ts.length ∧ P i H2, ⟨ts.length, by simp, Nat.zero_le _, [], [], M1, B1, h1, w1.side hD _, .side hD _, upd_same, .nil, dG, dr, dl⟩, ?_⟩
  rintro i n H2 ⟨rfl, hi, acc, vs, M2, B2, h2, w2, e2, d2, r2, g2, n2, l2⟩
  have hG : ∀ a o, B1.G a = some o → H2 a = some o := fun a o z => w2.le a o (e2.g a o z)
  by_cases hlt : i < ts.length
  · refine .inr ⟨W.goes i H2 hlt hG, P (i + 1), fun H' p' => ⟨ts.length - (i + 1), by omega, rfl, hlt, p'⟩, fun x H3 y => ?_⟩
    have y := W.yields i H2 x H3 hlt hG y
    obtain ⟨B3, w3, e3, r3⟩ := WalkT.step hlt w2 e2 y
    rw [drop_at hlt, goLc2] at h2
    refine ⟨ts[i], wipeT τ vs0, M2, B3, _, h2, w3, (sw.mono e2).mono e3, r3, fun τ4 M4 B4 σ4 H4 h4 w4 e4 s4 a4 => ⟨a4.wipe sub, ?_⟩⟩
    refine ⟨τ4, M4, B4, _, h4, w4, s4, fun k5 M5 B5 H5 h5 w5 e5 => ?_⟩
    have e25 := e3.trans (e4.trans e5)
    cases k5 with
    | false =>
      obtain ⟨q1, q2, q3, q4⟩ := keepD d2 g2 n2 l2 e25
      exact ⟨acc, vs, M5, B5, h5, w5, e2.trans e25, q1, RpA.mono e25.g r2, q2, q3, q4⟩
    | true =>
      refine ⟨τ4, M5, B5, _, h5, w5, s4.mono e5, fun ts1 M6 B6 H6 J1 h6 w6 e6 W1 => ?_⟩
      have e26 := e25.trans e6
      have s6 := ((s4.mono e5).mono e6).wipe vs1
      let P1 := fun (j : Nat) (H7 : Hp) => ∃ acc vs M2 B2, goLc g1 mc1 m (wipeT τ4 vs1) (goLc2 g mc i1 g1 mc1 m vs1 (wipeT τ vs0) Qf (ts.drop (i + 1))) (ts1.drop j) acc M2 ∧ Wd K B2 M2 H7 ∧ Ext B1 H1 B2 H7 ∧ BkLe B6 B2 ∧ H7 D = some (.lst vs) ∧ RpA K B2.G vs acc ∧ B2.G D = none ∧ D ∉ B2.r ∧ D ∉ B2.l
      obtain ⟨q1, q2, q3, q4⟩ := keepD d2 g2 n2 l2 e26
      refine ⟨fun j n H7 => n = ts1.length - j ∧ j ≤ ts1.length ∧ P1 j H7, ⟨ts1.length, by simp, Nat.zero_le _, acc, vs, M6, B6, h6, w6, e2.trans e26, .refl _, q1, RpA.mono e26.g r2, q2, q3, q4⟩, ?_⟩
      clear q1 q2 q3 q4 r2 d2 g2 n2 l2
      rintro j n H7 ⟨rfl, hj, acc, vs, M7, B7, h7, w7, e7, b7, d7, r7, g7, n7, l7⟩
      have hG1 : ∀ a o, B6.G a = some o → H7 a = some o := fun a o z => w7.le a o (b7.g a o z)
      by_cases hlt1 : j < ts1.length
      · refine .inr ⟨W1.goes j H7 hlt1 hG1, P1 (j + 1), fun H' p' => ⟨ts1.length - (j + 1), by omega, rfl, hlt1, p'⟩, fun x1 H8 y1 => ?_⟩
        have y1 := W1.yields j H7 x1 H8 hlt1 hG1 y1
        obtain ⟨B8, w8, e8, r8⟩ := WalkT.stepL hlt1 w7 b7 y1
        rw [drop_at hlt1, goLc] at h7
        refine ⟨ts1[j], wipeT τ4 vs1, M7, B8, _, h7, w8, (s6.le b7).mono e8, r8, fun τ9 M9 B9 σ9 H9 h9 w9 e9 s9 a9 => ⟨a9.wipe sub1, ?_⟩⟩
        refine ⟨τ9, M9, B9, _, h9, w9, s9, fun k10 M10 B10 H10 h10 w10 e10 => ?_⟩
        have e710 := e8.trans (e9.trans e10)
        cases k10 with
        | false =>
          obtain ⟨q1, q2, q3, q4⟩ := keepD d7 g7 n7 l7 e710
          exact ⟨acc, vs, M10, B10, h10, w10, e7.trans e710, b7.trans (.of e710), q1, RpA.mono e710.g r7, q2, q3, q4⟩
        | true =>
          refine ⟨τ9, M10, B10, _, h10, w10, s9.mono e10, fun v t M11 B11 H11 h11 w11 e11 r11 => ?_⟩
          split at h11
          · have e711 := e710.trans e11
            obtain ⟨q1, q2, q3, q4⟩ := keepD d7 g7 n7 l7 e711
            refine ⟨vs, q1, by rw [RpA.length r7]; exact h11.1, acc ++ [_], vs ++ [v], M11, B11, h11.2, side_write w11 q2 q3 q4, ?_, b7.trans (.of e711), upd_same, RpA.append (RpA.mono e711.g r7) (.cons r11 .nil), q2, q3, q4⟩
            have x6 := e7.trans e711
            refine ⟨x6.g, x6.r, x6.l, fun a u z n1 n2 => ?_, fun a z => ?_, x6.rn, x6.ln, x6.gf⟩
            · rw [upd_ne (ne_of_none z hD)]
              exact x6.fr a u z n1 n2
            · by_cases q : a = D
              · rw [q]
                exact hD
              · rw [upd_ne q] at z
                exact x6.tr a z
          · exact h11.elim
      · have e : j = ts1.length := by omega
        subst e
        rw [List.drop_length] at h7
        exact .inl ⟨W1.stops H7 hG1, acc, vs, M7, B7, h7, w7, e7, d7, r7, g7, n7, l7⟩
  · have e : i = ts.length := by omega
    subst e
    rw [List.drop_length] at h2
    exact .inl ⟨W.stops H2 hG, k D acc vs M2 B2 H2 h2 (e1.tr D hD) w2 (e1.trans e2) d2 r2 g2 n2 l2⟩
theorem lc2_of {K : PySem.W.Frag} {i : Mi} {g : Mg} {os : List Nat} {mc : Mb} {i1 : Mi} {g1 : Mg} {os1 : List Nat} {mc1 : Mb} {m : Me} {vs0 vs1 : List Nat} {σ : L2.St} {H : Hp} {Q' : VK} (sub : ∀ j ∈ os, j ∈ vs0) (sub1 : ∀ j ∈ os1, j ∈ vs1) (h : rE K (mLc2 i g mc i1 g1 mc1 m vs0 vs1) σ H Q') :
    tLc2 (rI K i) (rG K os g) (rB K mc) (rI K i1) (rG K os1 g1) (rB K mc1) (rE K m) vs0 vs1 σ H Q' := by
  obtain ⟨τ, M, B, Q, h, w, sl, k⟩ := h
  refine lc2_gen sub sub1 h w sl fun D acc vs M2 B2 H2 h2 hD w2 e2 d2 r2 g2 n2 l2 => ?_
  rcases Ext.adoptG (o := .lst vs) hD e2 with x | x
  · exact k _ _ M2 _ H2 h2 (w2.adoptG g2 n2 l2 d2) x (.lst upd_same (RpA.mono (upd_keep g2) r2))
  · exact absurd g2 x
section
variable {X : Cx} {elt tg tg1 e e1 : Expr} {ifs ifs1 : List Expr} {scope : Scope} {own : List (Str × Nat)} {i i1 : Mi} {g g1 : Mg} {os os1 : List Nat} {mc mc1 : Mb} {m : Me} {vs1 : List Nat} {pos : Pos}
theorem me_lc2 (hc : X.calm = true) (hN : X.N.Nodup) (hi : MI X tg e i) (ok : BlkOk X.N X.env.scope scope own) (hv : ∀ i ∈ vs1, i ∈ own.map (·.2))
    (hg : ∀ (s : Shared) (H : Hp) (C : Addr) (cl : List (Str × Addr)) (fp : List Addr), MG (X.blk s H scope (compEnvC scope cl C X.env) fp) tg os g) (ht : ∀ (s : Shared) (H : Hp) (C : Addr) (cl : List (Str × Addr)) (fp : List Addr), MTs (X.blk s H scope (compEnvC scope cl C X.env) fp) ifs mc)
    (hi1 : ∀ (s : Shared) (H : Hp) (C : Addr) (cl : List (Str × Addr)) (fp : List Addr), MI (X.blk s H scope (compEnvC scope cl C X.env) fp) tg1 e1 i1)
    (hg1 : ∀ (s : Shared) (H : Hp) (C : Addr) (cl : List (Str × Addr)) (fp : List Addr), MG (X.blk s H scope (compEnvC scope cl C X.env) fp) tg1 os1 g1) (ht1 : ∀ (s : Shared) (H : Hp) (C : Addr) (cl : List (Str × Addr)) (fp : List Addr), MTs (X.blk s H scope (compEnvC scope cl C X.env) fp) ifs1 mc1)
    (he : ∀ (s : Shared) (H : Hp) (C : Addr) (cl : List (Str × Addr)) (fp : List Addr), ME (X.blk s H scope (compEnvC scope cl C X.env) fp) elt m) (sub : ∀ j ∈ os, j ∈ own.map (·.2)) (sub1 : ∀ j ∈ os1, j ∈ vs1)
    (hs : ∀ x, foldedSetIterable e X.env x = pure x := by intro _; rfl) (hs1 : ∀ env x, foldedSetIterable e1 env x = pure x := by intro _ _; rfl) :
    ME X (.ListComp elt [⟨tg, e, ifs, 0⟩, ⟨tg1, e1, ifs1, 0⟩] scope pos) (mLc2 i g mc i1 g1 mc1 m (own.map (·.2)) vs1) :=
  PE.of (pe_lc2 (te := rE X.K m) (tt := rB X.K mc) (g := rG X.K os g) (wi1 := rI X.K i1) (g1 := rG X.K os1 g1) (tt1 := rB X.K mc1) hc hN hi ok hv hg ht hi1 hg1 ht1 he hs hs1) fun _ _ _ h => lc2_of sub sub1 h
variable {n : Nat} {y : Str} {py spos : Pos}
theorem ms_setLc2 (hc : X.calm = true) (hN : X.N.Nodup) (hy : X.N[n]? = some y) (hyl : X.env.scope.names.lookup y = some .local)
    (hsw : swapsWith (.ListComp elt [⟨tg, e, ifs, 0⟩, ⟨tg1, e1, ifs1, 0⟩] scope pos) (some (.Name y py)) spos.line X.env = pure true) (hi : MI X tg e i) (ok : BlkOk X.N X.env.scope scope own) (hv : ∀ i ∈ vs1, i ∈ own.map (·.2))
    (hg : ∀ (s : Shared) (H : Hp) (C : Addr) (cl : List (Str × Addr)) (fp : List Addr), MG (X.blk s H scope (compEnvC scope cl C X.env) fp) tg os g) (ht : ∀ (s : Shared) (H : Hp) (C : Addr) (cl : List (Str × Addr)) (fp : List Addr), MTs (X.blk s H scope (compEnvC scope cl C X.env) fp) ifs mc)
    (hi1 : ∀ (s : Shared) (H : Hp) (C : Addr) (cl : List (Str × Addr)) (fp : List Addr), MI (X.blk s H scope (compEnvC scope cl C X.env) fp) tg1 e1 i1)
    (hg1 : ∀ (s : Shared) (H : Hp) (C : Addr) (cl : List (Str × Addr)) (fp : List Addr), MG (X.blk s H scope (compEnvC scope cl C X.env) fp) tg1 os1 g1) (ht1 : ∀ (s : Shared) (H : Hp) (C : Addr) (cl : List (Str × Addr)) (fp : List Addr), MTs (X.blk s H scope (compEnvC scope cl C X.env) fp) ifs1 mc1)
    (he : ∀ (s : Shared) (H : Hp) (C : Addr) (cl : List (Str × Addr)) (fp : List Addr), ME (X.blk s H scope (compEnvC scope cl C X.env) fp) elt m) (sub : ∀ j ∈ os, j ∈ own.map (·.2)) (sub1 : ∀ j ∈ os1, j ∈ vs1)
    (hs : ∀ x, foldedSetIterable e X.env x = pure x := by intro _; rfl) (hs1 : ∀ env x, foldedSetIterable e1 env x = pure x := by intro _ _; rfl) :
    MS X (.Assign [.Name y py] (.ListComp elt [⟨tg, e, ifs, 0⟩, ⟨tg1, e1, ifs1, 0⟩] scope pos) spos) (mSet n (mLc2 i g mc i1 g1 mc1 m (own.map (·.2)) vs1)) :=
  PS.of (L2.ps_setLc2 (te := rE X.K m) (tt := rB X.K mc) (g := rG X.K os g) (wi1 := rI X.K i1) (g1 := rG X.K os1 g1) (tt1 := rB X.K mc1) hc hN hy hyl hsw hi ok hv hg ht hi1 hg1 ht1 he hs hs1) fun D σ H ⟨E, τ, M, B, h, w, sl, go⟩ =>
  lc2_of sub sub1 ⟨τ, M, B, _, h, w, sl, fun v t M1 B1 H1 h1 w1 e1 r1 => go.nx _ M1 B1 _ H1 h1 w1 e1 ((sl.mono e1).set n r1)⟩
end
end L3

set_option Elab.async false
set_option linter.all false
set_option maxRecDepth 100000
set_option maxHeartbeats 2000000
/-! min of pairs, [::-1] of a list, dicts with one tuple key, d[k] as a target -/
namespace L3
open PySem PySem.Spec L2 PySem.W PyProof.Rows

/-! ### min of a list of data -/
def rMinD (K : PySem.W.Frag) : List V → Hp → VK → Prop := fun xs H Q => ∃ (a : Addr) (vs : List V) (x : PyData) (l : List PyData), xs = [.ref a] ∧ SqL K H a vs ∧ Dp K H (.ref a) (.list (x :: l)) ∧ AlikeAll (x :: l) ∧ PyData.depthAll (x :: l) ≤ 20 ∧
  ∀ (i : Nat) (v : V), vs[i]? = some v → (x :: l)[i]? = some (minD x l) → Q v H
theorem cr_minD {X : Cx} {k : Nat} (hc : X.calm = true) (rm : Room k X.A) : CallR X (.builtin "min") (rMinD X.K) := by
  intro pins s σ H xs us Q iv r ⟨a, vs, x, l, ex, hs, hd, al, dp, q⟩
  subst ex
  have rr : RelV (.ref a) (.ref a) := rfl
  obtain ⟨as, rd⟩ := Dp.reads iv _ _ _ hd rr
  obtain ⟨its, rv, hl, hz⟩ := iv.list hs
  obtain ⟨o, n, ho, hcl, hdn, hdat⟩ := hl
  have un := rm.un
  cases rd with
  | list h1 h2 h3 h4 =>
    rw [ho] at h1
    cases h1
    rw [hdat] at h3
    cases h3
    have hl2 : s.heap.IsList a its.toArray := ⟨o, ho, hcl, n, hdat⟩
    rw [Vals.ref1 r]
    have hn : its.toArray.size = l.length + 1 := readsAll_len h4
    refine call_min_walkH (iter_listW (A := X.A.in1) (iv.ok.hd hc) hl2 fun s₂ e W st hfp hw hk => ?_)
    refine ⟨_, _, _, _, _, _, _, s.heap, _, rfl, W, st, hfp, by omega, hw, hk, cmpIn_lt (A := X.A.in1) h4 al (by show X.A.units + 1 + _ < _; omega), fun v s' hP m => ?_⟩
    obtain ⟨h', tk, rfl, hk'⟩ := moved_old e rfl m
    have e1 : its.toArray.size - 1 = l.length := by omega
    rw [e1] at hP
    obtain ⟨b1, b2⟩ := argBest_fold dataLt PyData.none x l l.length (Nat.le_refl _)
    rw [List.take_length] at b2
    generalize hj : argBest (fun i j => dataLt ((x :: l).getD i .none) ((x :: l).getD j .none)) l.length = j at hP b1 b2
    have hv : its[j]? = some v := by simpa using hP
    have hw2 := vals_at rv hv
    have hjl : j < vs.length := by rw [rv.length]; exact (List.getElem?_eq_some_iff.mp hv).1
    refine ⟨_, H, iv.kept (t' := tk) hk', hw2, q j _ (by rw [List.getD_eq_getElem?_getD, List.getElem?_eq_getElem hjl]; rfl) ?_⟩
    have hlt : j < (x :: l).length := by simp; omega
    rw [List.getElem?_eq_getElem hlt]
    unfold minD
    rw [← b2, List.getD_eq_getElem?_getD, List.getElem?_eq_getElem hlt]
    rfl
theorem RpA.at_ {K : PySem.W.Frag} {G : Hp} : ∀ {vs : List V} {ds : List PyData} {i : Nat} {v : V} {d : PyData}, RpA K G vs ds → vs[i]? = some v → ds[i]? = some d → Rp K G v d
  | _, _, i, _, _, .nil, e, _ => by simp at e
  | _, _, 0, _, _, .cons p q, e, f => by
    cases e
    cases f
    exact p
  | _, _, i + 1, _, _, .cons p q, e, f => RpA.at_ q (by simpa using e) (by simpa using f)
def fMinD : FA := fun ts M Q => match ts with
  | [t] => (match now t M with
    | some (.list (x :: l)) => (AlikeAll (x :: l) ∧ PyData.depthAll (x :: l) ≤ 20) ∧ Q (.d (minD x l)) M
    | _ => False)
  | _ => False
theorem cal_minD {K : PySem.W.Frag} : CaL K (rMinD K) fMinD := by
  intro xs ts M B H Q Q' h w r k
  unfold fMinD at h
  split at h
  · obtain ⟨v, rfl, r1⟩ := paired_one r
    split at h
    · rename_i x l e
      obtain ⟨p, ys, rfl, h1, h2⟩ := (w.seq r1).1 _ e
      refine ⟨p, ys, x, l, rfl, h1, w.dpNow r1 e, h.1.1, h.1.2, fun i v hv hm => ?_⟩
      exact k _ _ M _ _ h.2 w (.refl _ _) (RpA.at_ h2 hv hm)
    · exact h.elim
  · exact h.elim
theorem me_minD {X : Cx} {k : Nat} {e : Expr} {es : List Expr} {mr : Ma} {p pos : Pos} (hc : X.calm = true) (rm : Room k X.A) (hg : Gl X "min") (hm : X.mg "min" = none) (ha : MA X (e :: es) mr) (he : starEach (e :: es) X.env = (false, eval e X.env) :: starEach es X.env := by rfl) (hpl : (backTo pos (starEach es X.env)).any (·.1) = false := by rfl) : ME X (.Call (.Name "min" p) (e :: es) [] pos) (mCall fMinD mr) := me_callB (cr_minD hc rm) cal_minD hg hm (by decide +kernel) ha (by decide) (by decide) he hpl

/-! ### xs[::-1] -/
def mRevL (m : Me) : Me := fun τ M Q => m τ M fun t M1 => match now t M1 with
  | some (.list ds) => Q (.lst ds.reverse) M1
  | _ => False
theorem me_revL {X : Cx} {e : Expr} {m : Me} {k : Nat} {p1 p2 p3 pos : Pos} (he : ME X e m) : ME X (.Subscript e (.Slice none none (some (.UnaryOp .USub (.Constant (.int 1) k p1) p2)) p3) pos) (mRevL m) := PE.of (pe_revL he) fun σ H Q' ⟨τ, M, B, Q, h, w, s, k⟩ => by
  refine ⟨τ, M, B, _, h, w, s, fun v t M1 B1 H1 h1 w1 e1 r1 => ?_⟩
  split at h1
  · rename_i ds e
    obtain ⟨p, ys, rfl, g1, g2⟩ := (w1.seq r1).1 _ e
    refine ⟨p, ys, rfl, g1, fun q hq => ?_⟩
    obtain ⟨w4, e4⟩ := w1.alloc hq (.lst ys.reverse)
    exact k _ _ M1 _ _ h1 w4 (e1.trans e4) (.lst upd_same (RpA.mono e4.g (RpA.reverse g2)))
  · exact h1.elim

/-! ### d[k] = .. as a target -/
def gNPut (d k : Me) : Mg := fun t τ M Q => d τ M fun x M2 => k τ M2 fun y M3 => ∃ i k kvs, x = .mr i ∧ keyT y k ∧ M3.D[i]? = some (.dnk kvs) ∧ noL t = true ∧ kvs.length < sizeLine ∧ Q τ { M3 with D := M3.D.set i (.dnk (putN kvs k t)) }
theorem mg_nput {X : Cx} {kk : Nat} {o i : Expr} {mo mi : Me} {pos : Pos} (rm : Room kk X.A) (ho : ME X o mo) (hi : ME X i mi)
    (ha : ∀ v, assign (.Subscript o i pos) X.env v = (do
      let ov ← holding [v] (eval o X.env)
      let iv ← holding [v, ov] (eval i X.env)
      standAt pos
      holding [v, ov, iv] (setItem ov iv v)
      release [v, ov, iv] []) := by intro _; rfl) : MG X (.Subscript o i pos) [] (gNPut mo mi) := by
  refine ⟨fun pins s σ H v u Q' iv rv ⟨t, τ, M, B, Q, h, w, sl, r, g⟩ => ?_⟩
  rw [ha]
  let P2 := fun (x : V) (H2 : Hp) => ∃ tx M2 B2, (mi τ M2 fun y M3 => ∃ i k kvs, tx = .mr i ∧ keyT y k ∧ M3.D[i]? = some (.dnk kvs) ∧ noL t = true ∧ kvs.length < sizeLine ∧ Q τ { M3 with D := M3.D.set i (.dnk (putN kvs k t)) }) ∧ Wd X.K B2 M2 H2 ∧ Ext B H B2 H2 ∧ Rt X.K B2 x tx
  refine wpAny_bind (wpAny_holding (thn (ho.run pins s σ H P2 iv ⟨τ, M, B, _, h, w, sl, fun v t M2 B2 H2 h2 w2 e2 r2 => ⟨t, M2, B2, h2, w2, e2, r2⟩⟩) fun ov s2 ⟨x, H2, I2, rx, tx, M2, B2, h2, w2, e2, r2⟩ => ?_))
  let P3 := fun (y : V) (H3 : Hp) => ∃ ty M3 B3, (∃ i k kvs, tx = .mr i ∧ keyT ty k ∧ M3.D[i]? = some (.dnk kvs) ∧ noL t = true ∧ kvs.length < sizeLine ∧ Q τ { M3 with D := M3.D.set i (.dnk (putN kvs k t)) }) ∧ Wd X.K B3 M3 H3 ∧ Ext B2 H2 B3 H3 ∧ Rt X.K B3 y ty
  refine wpAny_bind (wpAny_holding (thn (hi.run pins s2 σ H2 P3 I2 ⟨τ, M2, B2, _, h2, w2, sl.mono e2, fun v t M3 B3 H3 h3 w3 e3 r3 => ⟨t, M3, B3, h3, w3, e3, r3⟩⟩) fun iu s3 ⟨y, H3, I3, ry, ty, M3, B3, ⟨n, k, kvs, ex, hk, hD, hno, hlen, hQ⟩, w3, e3, r3⟩ => ?_))
  subst ex
  obtain ⟨a, es, rfl, hla, hd, hn⟩ := dn_wd w3 (Rt.mono e3 r2) hD
  obtain ⟨b, rfl, hk8, hb⟩ := keyT_at r3 hk
  obtain rfl : ov = Value.ref a := rx
  obtain rfl : iu = Value.ref b := ry
  have rt := Rt.deck hno (Rt.mono e3 (Rt.mono e2 r))
  refine wpAny_bind (wpAny_standAt (wpAny_bind (wpAny_holding ?_)))
  refine dn_set (by have := rm.un; omega) I3 hd ⟨hk8, w3.rp hb⟩ (by rw [Paired.length hn]; exact hlen) rv fun s4 I4 => ?_
  obtain ⟨w4, e4⟩ := w3.setD hla hD (o := .ext (DNok a (putE es k b v))) (c := .dnk (putN kvs k t)) fun H' eH => ⟨_, eH, hn.put hk8 hb rt⟩
  have e14 := e2.trans (e3.trans e4)
  exact wpAny_release ⟨σ, _, I4, g _ _ _ _ _ hQ w4 e14 (sl.mono e14) ⟨rfl, fun _ _ => rfl⟩⟩

/-! ### {k: v}, k a tuple -/
theorem dn_dset {X : Cx} {pn : List (Addr × Obj)} {sg : L2.St} {H : Hp} {s : Shared} {a b : Addr} {es : List (NestedKey × Addr × V)} {k : NestedKey} {v : V} {A : Around} {E : Value → Shared → Prop} {r0 : Value} {Q : Unit → Shared → Prop} (hu : A.units + 12 < cLine) (iv : Inv X pn sg H s) (h : DnAt X.K H a es) (hk : KeyAt X.K H b k) (hl : es.length < sizeLine) (rv : RelV v r0) (q : ∀ s', Inv X pn sg (upd H a (.ext (DNok a (putE es k b v)))) s' → Q () s') :
    wpAny (model X.prog X.w) A (dictSet a (.ref b) r0) Q E s := by
  obtain ⟨z1, z2, z3, xs, r, d⟩ := dn_dict iv h
  have hz : xs.length ≤ sizeLine := by rw [← Paired.length r]; exact z1
  refine wpAny_dictSet_heap (hsz := hz) (show A.units + 8 < cLine by omega) (key_is iv hk) d fun h' dd' hs => q _ ?_
  have he : ∃ q, h'.get? a = some q := let ⟨q, _, _, hq, _⟩ := dd'; ⟨q, hq⟩
  exact d_write iv (by rw [h.1]; trivial) hs he (dno_ok (dn_mk (by have := putE_len es k b v; omega) z2 (r.put k b rv) dd'))
def mNOne (k v : Me) : Me := fun τ M Q => k τ { M with D := M.D ++ [.dnk []] } fun y M1 => v τ M1 fun t M2 => ∃ key, keyT y key ∧ noL t = true ∧ M2.D[M.D.length]? = some (.dnk []) ∧ Q (.mr M.D.length) { M2 with D := M2.D.set M.D.length (.dnk [(key, t)]) }
theorem me_none1 {X : Cx} {kk : Nat} {ek ev : Expr} {mk mv : Me} {pos : Pos} (rm : Room kk X.A) (hk : ME X ek mk) (hv : ME X ev mv) : ME X (.Dict [some ek] [ev] pos) (mNOne mk mv) := ⟨fun pins s σ H Q' iv ⟨τ, M, B, Q, h, w, sl, g⟩ => by
  have hp := iv.hok.fresh (Nat.le_refl s.heap.objs.size)
  obtain ⟨w2, e2⟩ := w.newD hp (o := .ext (DNok s.heap.objs.size [])) (c := .dnk []) fun H' eH => ⟨[], eH, .nil⟩
  have iv2 := iv.laid (a := s.heap.objs.size) (t' := s.toks) (fun _ _ q => Heap.get?_push_of_some _ q) (Nat.le_refl _) (dno_ok (dn_new X.w iv.big))
  refine wpAny_Dict_any rfl rfl (by simp) (show 1 ≤ 15 by decide) ?_
  have PP : PPs X pos [some ek] [ev] [(rE X.K mk, rE X.K mv)] := pps_cons hk hv pps_nil
  let P := fun (ps : List (V × V)) (H3 : Hp) => ∃ x y tx ty M3 B3, ps = [(x, y)] ∧ (∃ key, keyT tx key ∧ noL ty = true ∧ M3.D[M.D.length]? = some (.dnk []) ∧ Q (.mr M.D.length) { M3 with D := M3.D.set M.D.length (.dnk [(key, ty)]) }) ∧ Wd X.K B3 M3 H3 ∧ Ext B H B3 H3 ∧ Rt X.K B3 x tx ∧ Rt X.K B3 y ty ∧ B3.r[M.D.length]? = some s.heap.objs.size
  have hr0 : B.r.length = M.D.length := w.rlen
  refine thn (PP.run pins _ σ _ P iv2 ⟨τ, _, _, _, h, w2, sl.mono e2, fun x tx M3 B3 H3 h3 w3 e3 r3 => ⟨τ, M3, B3, _, h3, w3, (sl.mono e2).mono e3, fun y ty M4 B4 H4 h4 w4 e4 r4 => ⟨x, y, tx, ty, M4, B4, rfl, h4, w4, e2.trans (e3.trans e4), Rt.mono e4 r3, r4, ?_⟩⟩⟩) fun us s3 ⟨ps, H3, I3, rel, x, y, tx, ty, M3, B3, ex, ⟨key, hkt, hno, hD, hQ⟩, w3, e3, r3, r4, hr⟩ => ?_
  · refine get_prefix (e3.r.trans e4.r) ?_
    show (B.r ++ [s.heap.objs.size])[M.D.length]? = _
    rw [← hr0]
    exact get_snoc
  · subst ex
    cases rel with
    | @cons _ uv _ _ f g0 =>
      cases g0
      obtain ⟨u, uw⟩ := uv
      obtain ⟨ru, rv⟩ := f
      obtain ⟨a, es, ea, hla, hd, hn⟩ := dn_wd w3 (x := .ref s.heap.objs.size) (n := M.D.length) ⟨_, rfl, hr⟩ hD
      have hla0 := hla
      rw [hr] at hla
      cases hla
      cases hn
      obtain ⟨b, rfl, hk8, hb⟩ := keyT_at r3 hkt
      obtain rfl : u = Value.ref b := ru
      have rt := Rt.deck hno r4
      unfold storeAll
      rw [List.forIn_cons]
      refine wpAny_bind (wpAny_bind (dn_dset (es := []) (by have := rm.un; omega) I3 hd ⟨hk8, w3.rp hb⟩ (by decide +kernel) rv fun s4 I4 => wpAny_pure ?_))
      show wpAny _ _ (forIn [] PUnit.unit _) _ _ _
      rw [List.forIn_nil]
      obtain ⟨w4, e4⟩ := w3.setD hla0 hD (o := .ext (DNok s.heap.objs.size (putE [] key b y))) (c := .dnk (putN [] key ty)) fun H' eH => ⟨_, eH, NT.put (es := []) (kvs := []) .nil hk8 hb rt⟩
      exact wpAny_pure ⟨.ref s.heap.objs.size, _, I4, rfl, g _ _ _ _ _ hQ w4 (e3.trans e4) ⟨_, rfl, hr⟩⟩⟩
end L3

set_option Elab.async false
set_option linter.all false
set_option maxRecDepth 100000
namespace Pl
open PySem PySem.Spec L2 L3
abbrev d_round_up : FD := Sh.d_round_up
abbrev b_places_there_0 : Ms := (mRet (mLc (iEnum (aCons (mVar 0) aNil)) (gTu 2 (gsCons (gN 1) (gsCons (gN 2) gsNil))) (mTest (mOp oGt (mVar 2) (mC (.int 0)))) (mVar 1) [1, 2]))
abbrev b_places_there : Ms := b_places_there_0
def d_places_there : FD := mDef 1 3 b_places_there
abbrev d_greatest_alignment : FD := Sh.d_greatest_alignment
abbrev d_lacks : FD := Sh.d_lacks
abbrev d_unit : FD := Sh.d_unit
abbrev b_record_unit_0 : Ms := (mRet (mCall (fDef d_unit) (aCons (mLc (iSeq (mCall (fDef d_places_there) (aCons (mVar 1) aNil))) (gN 2) bYes (mOp oIx (mVar 0) (mVar 2)) [2]) aNil)))
abbrev b_record_unit : Ms := b_record_unit_0
def d_record_unit : FD := mDef 2 3 b_record_unit
abbrev b_shares_0 : Ms := (mRet (mCall fTuple (aCons (mLc (iSeq (mCall (fDef d_lacks) (aCons (mVar 0) aNil))) (gN 2) bYes (mOp oMod (mVar 2) (mVar 1)) [2]) aNil)))
abbrev b_shares_1 : Ms := (mSeq (mSet 1 (mCall (fDef d_unit) (aCons (mVar 0) aNil))) b_shares_0)
abbrev b_shares : Ms := b_shares_1
def d_shares : FD := mDef 1 3 b_shares
abbrev b_floor_whole_0 : Ms := (mRet (mCall (fDef d_round_up) (aCons (mVar 3) (aCons (mCall (fDef d_greatest_alignment) (aCons (mVar 0) (aCons (mCall (fDef d_places_there) (aCons (mVar 1) aNil)) aNil))) aNil))))
abbrev b_floor_whole_1 : Ms := (mSeq (mSet 3 (mCall fSum (aCons (mLc (iZip2 (aCons (mVar 0) (aCons (mVar 1) aNil))) (gTu 2 (gsCons (gTu 2 (gsCons (gN 4) (gsCons (gN 5) gsNil))) (gsCons (gN 6) gsNil))) bYes (mOp oMulW (mVar 6) (mCall (fDef d_round_up) (aCons (mVar 4) (aCons (mCall fMin (aCons (mVar 5) (aCons (mVar 2) aNil))) aNil)))) [6, 4, 5]) aNil))) b_floor_whole_0)
abbrev b_floor_whole_2 : Ms := (mSeq (mSet 2 (mCall (fDef d_record_unit) (aCons (mVar 0) (aCons (mVar 1) aNil)))) b_floor_whole_1)
abbrev b_floor_whole : Ms := b_floor_whole_2
def d_floor_whole : FD := mDef 2 7 b_floor_whole
abbrev b__law_pool_0 : Ms := (mSet 2 (mOp oMod (mCall fInt (aCons (mOp oAdd (mOp oMul (mVar 2) (mC (.int 69069))) (mVar 3)) aNil)) (mC (.int 4294967291))))
abbrev b__law_pool_1 : Ms := (mRet (mNewD (aCons (mLcD (iSeq (mVar 1)) (gN 3) (mTest (mOp oGt (mVar 3) (mOp oPow (mC (.int 10)) (mC (.int 15))))) (mVar 3) [3]) (aCons (mVar 2) (aCons (mC (.int 0)) aNil)))))
abbrev b__law_pool_2 : Ms := (mSeq (mFor (iSeq (mVar 1)) (gN 3) b__law_pool_0) b__law_pool_1)
abbrev b__law_pool_3 : Ms := (mSeq (mPar 1 2 (aCons (mLc (iSeq (mSl (mVar 0) oNone (oPart (mC (.int 60))))) (gN 3) bYes (mOp oAdd (mOp oMul (mC (.int 2)) (mCall fAbs (aCons (mVar 3) aNil))) (mCall fInt (aCons (mOp oLt (mVar 3) (mC (.int 0))) aNil))) [3]) (aCons (mOp oAdd (mC (.int 40961)) (mCall fLen (aCons (mVar 0) aNil))) aNil))) b__law_pool_2)
abbrev b__law_pool : Ms := b__law_pool_3
def d__law_pool : FD := mDef 1 4 b__law_pool
abbrev b__law_draw_0 : Ms := (mDrop (mMeth fPopD (mOp oIx (mVar 0) (mC (.int 0))) (aCons (mC (.int 0)) aNil)))
abbrev b__law_draw_1 : Ms := (mRet (mOp oMod (mCall fInt (aCons (mVar 2) aNil)) (mVar 1)))
abbrev b__law_draw_2 : Ms := (mSeq (mIf (mTest (mOp oLt (mVar 2) (mVar 1))) b__law_draw_0 mNext) b__law_draw_1)
abbrev b__law_draw_3 : Ms := (mSeq (mLPutD (mOp oIx (mVar 0) (mC (.int 0))) (mC (.int 0)) (mOp oDiv (mVar 2) (mVar 1))) b__law_draw_2)
abbrev b__law_draw_4 : Ms := (mSeq (mSet 2 (mOp oIx (mOp oIx (mVar 0) (mC (.int 0))) (mC (.int 0)))) b__law_draw_3)
abbrev b__law_draw_5 : Ms := (mRet (mOp oMod (mCall fInt (aCons (mOp oDiv (mVar 3) (mC (.int 128))) aNil)) (mVar 1)))
abbrev b__law_draw_6 : Ms := (mSeq (mSet 3 (mOp oMod (mCall fInt (aCons (mOp oAdd (mOp oMul (mVar 3) (mVar 3)) (mOp oIx (mVar 0) (mC (.int 1)))) aNil)) (mC (.int 4294967231)))) b__law_draw_5)
abbrev b__law_draw_7 : Ms := (mSeq (mSet 3 (mOp oMod (mCall fInt (aCons (mOp oAdd (mOp oAdd (mOp oMul (mVar 3) (mVar 3)) (mOp oMul (mC (.int 40503)) (mOp oIx (mVar 0) (mC (.int 2))))) (mC (.int 11))) aNil)) (mC (.int 4294967279)))) b__law_draw_6)
abbrev b__law_draw_8 : Ms := (mSeq (mSet 3 (mOp oMod (mCall fInt (aCons (mOp oAdd (mOp oIx (mVar 0) (mC (.int 1))) (mOp oMul (mC (.int 2654435761)) (mOp oIx (mVar 0) (mC (.int 2))))) aNil)) (mC (.int 4294967291)))) b__law_draw_7)
abbrev b__law_draw_9 : Ms := (mSeq (mLPutD (mVar 0) (mC (.int 2)) (mOp oAdd (mOp oIx (mVar 0) (mC (.int 2))) (mC (.int 1)))) b__law_draw_8)
abbrev b__law_draw_10 : Ms := (mSeq (mIf (mTest (mOp (oEq true) (mOp oIx (mVar 0) (mC (.int 0))) (mLst aNil))) b__law_draw_4 mNext) b__law_draw_9)
abbrev b__law_draw : Ms := b__law_draw_10
def d__law_draw : FD := mDef 2 4 b__law_draw
abbrev b__law_pick_0 : Ms := (mRet (mOp oIx (mVar 1) (mCall (fDef d__law_draw) (aCons (mVar 0) (aCons (mCall fLen (aCons (mVar 1) aNil)) aNil)))))
abbrev b__law_pick : Ms := b__law_pick_0
def d__law_pick : FD := mDef 2 2 b__law_pick
abbrev b__law_up_0 : Ms := (mRet (mOp oMul (mUn oNeg (mOp oDiv (mUn oNeg (mVar 0)) (mVar 1))) (mVar 1)))
abbrev b__law_up : Ms := b__law_up_0
def d__law_up : FD := mDef 2 2 b__law_up
abbrev b__law_kind_0 : Ms := (mSet 5 (mOp oSub (mOp oDiv (mOp oPow (mC (.int 10)) (mC (.int 30))) (mVar 3)) (mCall (fDef d__law_draw) (aCons (mVar 0) (aCons (mC (.int 4)) aNil)))))
abbrev b__law_kind_1 : Ms := (mRet (mTup (aCons (mOp oSub (mOp oMul (mVar 3) (mVar 5)) (mVar 4)) (aCons (mVar 3) aNil))))
abbrev b__law_kind_2 : Ms := (mSeq (mIf (bAnd (mTest (mVar 2)) (mTest (mOp (oEq false) (mCall (fDef d__law_draw) (aCons (mVar 0) (aCons (mC (.int 2)) aNil))) (mC (.int 0))))) b__law_kind_0 mNext) b__law_kind_1)
abbrev b__law_kind_3 : Ms := (mSeq (mSet 5 (mCall (fDef d__law_pick) (aCons (mVar 0) (aCons (mLst (aCons (mC (.int 1)) (aCons (mC (.int 1)) (aCons (mC (.int 2)) (aCons (mC (.int 3)) (aCons (mC (.int 4)) (aCons (mC (.int 6)) (aCons (mC (.int 8)) (aCons (mC (.int 5)) (aCons (mOp oAdd (mC (.int 1)) (mCall (fDef d__law_draw) (aCons (mVar 0) (aCons (mC (.int 40)) aNil)))) aNil)))))))))) aNil)))) b__law_kind_2)
abbrev b__law_kind_4 : Ms := (mSeq (mSet 4 (mOp oMod (mCall (fDef d__law_pick) (aCons (mVar 0) (aCons (mLst (aCons (mC (.int 0)) (aCons (mC (.int 0)) (aCons (mC (.int 1)) (aCons (mOp oSub (mVar 3) (mC (.int 1))) (aCons (mOp oDiv (mVar 3) (mC (.int 2))) (aCons (mCall (fDef d__law_draw) (aCons (mVar 0) (aCons (mVar 3) aNil))) aNil))))))) aNil))) (mVar 3))) b__law_kind_3)
abbrev b__law_kind_5 : Ms := (mSeq (mSet 3 (mCall (fDef d__law_pick) (aCons (mVar 0) (aCons (mVar 1) aNil)))) b__law_kind_4)
abbrev b__law_kind : Ms := b__law_kind_5
def d__law_kind : FD := mDef 3 6 b__law_kind
abbrev b__law_book_0 : Ms := (mLPut (mVar 4) (mC (.int 0)) (mOp oIx (mVar 4) (mUn oNeg (mC (.int 1)))))
abbrev b__law_book_1 : Ms := (mRet (mCall fTuple (aCons (mVar 4) aNil)))
abbrev b__law_book_2 : Ms := (mSeq (mIf (bAnd (mTest (mOp oGt (mVar 1) (mC (.int 1)))) (mTest (mOp (oEq false) (mCall (fDef d__law_draw) (aCons (mVar 0) (aCons (mC (.int 6)) aNil))) (mC (.int 0))))) b__law_book_0 mNext) b__law_book_1)
abbrev b__law_book_3 : Ms := (mSeq (mSet 4 (mLcL (iRange (aCons (mVar 1) aNil)) (gN 5) bYes (mCall (fDef d__law_kind) (aCons (mVar 0) (aCons (mVar 2) (aCons (mVar 3) aNil)))) [5])) b__law_book_2)
abbrev b__law_book : Ms := b__law_book_3
def d__law_book : FD := mDef 4 6 b__law_book
abbrev b__law_steps_0 : Ms := (mRet (mCall (fDef d__law_pick) (aCons (mVar 0) (aCons (mOp oAdd (mVar 1) (mLst (aCons (mLst (aCons (mC (.int 1)) (aCons (mC (.int 2)) (aCons (mC (.int 4)) (aCons (mC (.int 8)) (aCons (mC (.int 16)) (aCons (mC (.int 32)) (aCons (mC (.int 64)) aNil)))))))) (aCons (mLst (aCons (mC (.int 1)) (aCons (mC (.int 4)) (aCons (mC (.int 8)) aNil)))) aNil)))) aNil))))
abbrev b__law_steps_1 : Ms := (mSeq (mSet 1 (mLst (aCons (mLst (aCons (mC (.int 1)) (aCons (mC (.int 2)) (aCons (mC (.int 4)) (aCons (mC (.int 8)) (aCons (mC (.int 16)) (aCons (mC (.int 32)) (aCons (mC (.int 64)) aNil)))))))) (aCons (mLst (aCons (mC (.int 1)) (aCons (mC (.int 2)) (aCons (mC (.int 4)) aNil)))) (aCons (mLst (aCons (mC (.int 1)) (aCons (mC (.int 2)) (aCons (mC (.int 4)) (aCons (mC (.int 8)) aNil))))) (aCons (mLst (aCons (mC (.int 4)) (aCons (mC (.int 8)) aNil))) (aCons (mLst (aCons (mC (.int 1)) (aCons (mC (.int 64)) aNil))) (aCons (mLst (aCons (mC (.int 2)) (aCons (mC (.int 16)) (aCons (mC (.int 64)) aNil)))) (aCons (mLst (aCons (mC (.int 64)) aNil)) (aCons (mLst (aCons (mC (.int 1)) aNil)) aNil)))))))))) b__law_steps_0)
abbrev b__law_steps : Ms := b__law_steps_1
def d__law_steps : FD := mDef 1 2 b__law_steps
abbrev b__law_record_0 : Ms := (mLPut (mVar 3) (mCall (fDef d__law_draw) (aCons (mVar 0) (aCons (mVar 1) aNil))) (mC (.int 1)))
abbrev b__law_record_1 : Ms := (mRet (mCall fTuple (aCons (mVar 3) aNil)))
abbrev b__law_record_2 : Ms := (mSeq (mIf (mTest (mOp (oEq false) (mCall fSum (aCons (mVar 3) aNil)) (mC (.int 0)))) b__law_record_0 mNext) b__law_record_1)
abbrev b__law_record_3 : Ms := (mSeq (mSet 3 (mLcL (iRange (aCons (mVar 1) aNil)) (gN 4) bYes (mCall (fDef d__law_pick) (aCons (mVar 0) (aCons (mVar 2) aNil))) [4])) b__law_record_2)
abbrev b__law_record : Ms := b__law_record_3
def d__law_record : FD := mDef 3 5 b__law_record
abbrev b__law_room_0 : Ms := (mRet (mCall (fDef d__law_up) (aCons (mOp oIx (mVar 0) (mC (.int 0))) (aCons (mOp oIx (mVar 0) (mC (.int 1))) aNil))))
abbrev b__law_room : Ms := b__law_room_0
def d__law_room : FD := mDef 1 1 b__law_room
abbrev b__law_power_0 : Ms := (mRet (mOp oAnd (mVar 0) (mUn oNeg (mVar 0))))
abbrev b__law_power : Ms := b__law_power_0
def d__law_power : FD := mDef 1 1 b__law_power
abbrev b__law_there_0 : Ms := (mRet (mLc (iEnum (aCons (mVar 0) aNil)) (gTu 2 (gsCons (gN 1) (gsCons (gN 2) gsNil))) (mTest (mOp oGt (mVar 2) (mC (.int 0)))) (mVar 1) [1, 2]))
abbrev b__law_there : Ms := b__law_there_0
def d__law_there : FD := mDef 1 3 b__law_there
abbrev b__law_measure_0 : Ms := (mRet (mCall fMin (aCons (mLc (iSeq (mCall (fDef d__law_there) (aCons (mVar 1) aNil))) (gN 2) bYes (mCall (fDef d__law_power) (aCons (mCall (fDef d__law_room) (aCons (mOp oIx (mVar 0) (mVar 2)) aNil)) aNil)) [2]) aNil)))
abbrev b__law_measure : Ms := b__law_measure_0
def d__law_measure : FD := mDef 2 3 b__law_measure
abbrev b__law_top_0 : Ms := (mRet (mCall fMax (aCons (mLc (iSeq (mCall (fDef d__law_there) (aCons (mVar 1) aNil))) (gN 2) bYes (mOp oIx (mOp oIx (mVar 0) (mVar 2)) (mC (.int 1))) [2]) aNil)))
abbrev b__law_top : Ms := b__law_top_0
def d__law_top : FD := mDef 2 3 b__law_top
abbrev b__law_floor_0 : Ms := (mSet 3 (mOp oAdd (mVar 3) (mOp oMulW (mOp oIx (mVar 1) (mVar 4)) (mCall (fDef d__law_up) (aCons (mVar 5) (aCons (mCall fMin (aCons (mVar 6) (aCons (mVar 2) aNil))) aNil))))))
abbrev b__law_floor_1 : Ms := (mSeq (mAsg (mOp oIx (mVar 0) (mVar 4)) (gTu 2 (gsCons (gN 5) (gsCons (gN 6) gsNil)))) b__law_floor_0)
abbrev b__law_floor_2 : Ms := (mRet (mCall (fDef d__law_up) (aCons (mVar 3) (aCons (mCall (fDef d__law_top) (aCons (mVar 0) (aCons (mVar 1) aNil))) aNil))))
abbrev b__law_floor_3 : Ms := (mSeq (mFor (iSeq (mCall (fDef d__law_there) (aCons (mVar 1) aNil))) (gN 4) b__law_floor_1) b__law_floor_2)
abbrev b__law_floor_4 : Ms := (mSeq (mPar 2 3 (aCons (mCall (fDef d__law_measure) (aCons (mVar 0) (aCons (mVar 1) aNil))) (aCons (mC (.int 0)) aNil))) b__law_floor_3)
abbrev b__law_floor : Ms := b__law_floor_4
def d__law_floor : FD := mDef 2 7 b__law_floor
end Pl

set_option Elab.async false
set_option linter.all false
set_option maxRecDepth 100000
namespace Pl
open PySem PySem.Spec L2 L3 Sh

/-! ### the pool -/
def rd (great : List Int) (mixed turns : Int) : List Cell := [.lst (great.map T.int), .lst [.mr 0, .int mixed, .int turns]]
structure RI (D : List Cell) : Prop where
  ex : ∃ (great : List Int) (mixed turns : Int), D = rd great mixed turns ∧ great.length ≤ 64 ∧ 0 ≤ mixed ∧ mixed < 4294967291 ∧ 0 ≤ turns
@[simp] theorem a3_0 {α : Type} {x y z : α} : atI [x, y, z] 0 = some x := rfl
@[simp] theorem a3_1 {α : Type} {x y z : α} : atI [x, y, z] 1 = some y := rfl
@[simp] theorem a3_2 {α : Type} {x y z : α} : atI [x, y, z] 2 = some z := rfl
@[simp] theorem ac_0 {α : Type} {x : α} {l : List α} : atI (x :: l) 0 = some x := atI_nat (j := 0) rfl
@[simp] theorem ix3_2 : ixN 3 2 = some 2 := rfl
@[simp] theorem ixs_0 {n : Nat} : ixN (n + 1) 0 = some 0 := by
  unfold ixN
  rw [if_pos (by omega), if_pos (by omega)]
  rfl
theorem draw_tail {great : List Int} {mixed turns many : Int} {Q : T → List Cell → Prop} {t2 : Option T} (hg : great.length ≤ 64) (m0 : 0 ≤ mixed) (m1 : mixed < 4294967291) (t0 : 0 ≤ turns) (h1 : 1 ≤ many) (h2 : many < 18446744073709551616)
    (q : ∀ n D', 0 ≤ n → n < many → RI D' → Q (.int n) D') : b__law_draw_9 { nx := fun _ M => Q .non M.D, rt := fun t M => noL t = true ∧ Q t M.D } [some (.mr 1), some (.int many), t2, none] ⟨rd great mixed turns, []⟩ := by
  refine w_seq ?_
  simp [rd]
  refine w_seq ?_
  simp
  have r1 := rang (i := mixed + 2654435761 * (turns + 1)) (j := 4294967291) (by omega)
  refine ⟨by unfold CMul; omega, ?_⟩
  refine w_seq ?_
  simp
  refine ⟨by unfold CMul; omega, by unfold CMul; omega, ?_⟩
  have r2 := rang (i := (mixed + 2654435761 * (turns + 1)) % 4294967291 * ((mixed + 2654435761 * (turns + 1)) % 4294967291) + 40503 * (turns + 1) + 11) (j := 4294967279) (by omega)
  generalize ((mixed + 2654435761 * (turns + 1)) % 4294967291 * ((mixed + 2654435761 * (turns + 1)) % 4294967291) + 40503 * (turns + 1) + 11) % 4294967279 = f at r2
  refine w_seq ?_
  simp
  refine ⟨by unfold CMul; omega, ?_⟩
  refine ⟨by unfold CDv; omega, by omega, ?_⟩
  have hf := fun x : Int => rang (i := x) (j := many) (by omega)
  exact q _ _ (hf _).1 (hf _).2 ⟨great, mixed, turns + 1, rfl, hg, m0, m1, by omega⟩
theorem sp_draw {D : List Cell} {many : Int} {Q : T → List Cell → Prop} (hD : RI D) (h1 : 1 ≤ many) (h2 : many < 18446744073709551616) (q : ∀ n D', 0 ≤ n → n < many → RI D' → Q (.int n) D') : d__law_draw [.mr 1, .int many] D Q := by
  obtain ⟨great, mixed, turns, rfl, hg, m0, m1, t0⟩ := hD.ex
  refine ⟨rfl, ?_⟩
  have ht := fun (t2 : Option T) => draw_tail (t2 := t2) hg m0 m1 t0 h1 h2 q
  refine w_seq (w_if ?_)
  simp [rd, he_nil]
  cases great with
  | nil => exact .inl ⟨rfl, ht none⟩
  | cons c rest =>
    refine .inr ⟨by simp, ?_⟩
    refine w_seq ?_
    simp
    refine w_seq ?_
    simp
    refine ⟨by unfold CDv; omega, ?_⟩
    refine w_seq (w_if ?_)
    simp
    have hp := fun x : Int => rang (i := x) (j := many) (by omega)
    have hl2 : rest.length + 1 ≤ 64 := by simpa using hg
    by_cases hx : c < many
    · refine .inr ⟨hx, ?_⟩
      exact ⟨by omega, q _ _ (hp c).1 (hp c).2 ⟨rest, mixed, turns, rfl, by omega, m0, m1, t0⟩⟩
    · refine .inl ⟨by omega, ?_⟩
      exact ⟨by omega, q _ _ (hp c).1 (hp c).2 ⟨(c / many) :: rest, mixed, turns, by simp [rd], by simpa using hl2, m0, m1, t0⟩⟩
def dbl2 (n : Int) : Int := 2 * (if n < 0 then -n else n) + (if n < 0 then 1 else 0)
theorem cutk {ns : List Int} {k : Nat} : cutT ns none (some (k : Int)) = ns.take k := by
  unfold cutT
  have h1 : HT.sIx ns.length 0 none = 0 := rfl
  have h2 : HT.sIx ns.length ns.length (some (k : Int)) = min k ns.length := by
    show (if (k : Int) < 0 then ((k : Int) + (ns.length : Int)).toNat else min (k : Int).toNat ns.length) = _
    rw [if_neg (by omega)]
    simp
  rw [h1, h2]
  simp
theorem sp_pool {ns : List Int} {Q : T → List Cell → Prop} (h : ns.length ≤ 63) (q : ∀ D, RI D → Q (.mr 1) D) : d__law_pool [.scr ns] [] Q := by
  refine ⟨rfl, w_seq ?_⟩
  simp only [x_par, x_acons, x_lc, x_iseq, x_sl, x_var]
  have hc : cutT ns none (some 60) = ns.take 60 := cutk (k := 60)
  simp [wipeT, hc]
  have h0 : (ns.take 60).length ≤ sizeLine := sz64' (by rw [List.length_take]; omega)
  have hcs : (ns.take 60).length ≤ 60 := by rw [List.length_take]; omega
  rw [← List.map_take]
  refine lc_pure (e := T.d ∘ PyData.int) (fun n => .int (dbl2 n)) h0 (fun x acc R _ ha hr => ?_) ?_
  · simp
    unfold dbl2 at hr
    refine ⟨by unfold CMul; omega, ?_⟩
    by_cases hx : x < 0
    · simp [hx] at hr ⊢
      exact ⟨ha, hr⟩
    · simp [hx] at hr ⊢
      exact ⟨ha, hr⟩
  · rw [map_map']
    have hl : ((ns.take 60).map dbl2).length ≤ 60 := by rw [List.length_map]; exact hcs
    generalize (ns.take 60).map dbl2 = cs at hl
    refine w_seq (w_for ?_)
    simp
    refine for_all (fun i τ M => M = ⟨[], []⟩ ∧ ∃ st w, τ = [some (.scr ns), some (.lst (cs.map .int)), some (.int st), w] ∧ 0 ≤ st ∧ st < 4294967291) ⟨rfl, _, _, rfl, by omega, by omega⟩ ?_ ?_
    · rintro i τ M t R ht ⟨rfl, st, w, rfl, h1, h2⟩ k
      rw [List.getElem?_map] at ht
      cases hx : cs[i]? with
      | none => rw [hx] at ht; cases ht
      | some x =>
        rw [hx] at ht
        cases ht
        have hm := rang (i := st * 69069 + x) (j := 4294967291) (by omega)
        simp
        refine ⟨by unfold CMul; omega, ?_⟩
        exact k _ _ ⟨rfl, _, _, rfl, hm.1, hm.2⟩
    · rintro τ M ⟨rfl, st, w, rfl, h1, h2⟩
      dsimp only
      simp only [x_ret, x_newD, x_acons, x_anil, mLcD, x_iseq, x_var]
      simp [wipeT]
      refine lc_pf (e := T.d ∘ PyData.int) (fun n => decide (1000000000000000 < n)) (fun n => .int n) (sz64' (by omega)) (fun x acc R _ ha hr => ?_) ?_
      · simp [CPow]
        by_cases hx : 1000000000000000 < x
        · rw [if_pos (decide_eq_true hx)] at hr
          exact .inr ⟨hx, ha, hr⟩
        · rw [if_neg (by simpa using hx)] at hr
          exact .inl ⟨by omega, hr⟩
      · generalize hdp : cs.filter (fun n => decide (1000000000000000 < n)) = dp
        have hdl : dp.length ≤ 60 := by
          rw [← hdp]
          exact Nat.le_trans (List.length_filter_le _ _) hl
        simp [sizeLine_eq]
        refine q _ ⟨dp, st, 0, by simp [rd], by omega, h1, h2, by omega⟩
end Pl

set_option Elab.async false
set_option linter.all false
set_option maxRecDepth 100000
namespace Pl
open PySem PySem.Spec L2 L3 Sh

/-! ### picks, kinds, books, records of the pool -/
theorem sp_pick {D : List Cell} {xs : List PyData} {Q : T → List Cell → Prop} (hD : RI D) (h1 : xs ≠ []) (h2 : xs.length < 100000) (q : ∀ x D', x ∈ xs → RI D' → Q (.d x) D') : d__law_pick [.mr 1, .lst xs] D Q := by
  have hl : 0 < xs.length := List.length_pos_iff.mpr h1
  refine ⟨rfl, ?_⟩
  try simp
  refine sp_draw hD (by omega) (by omega) fun n D' n0 n1 hD' => ?_
  obtain ⟨k, rfl⟩ : ∃ k : Nat, n = k := ⟨n.toNat, by omega⟩
  have hk : k < xs.length := by omega
  try simp
  exact ⟨_, atI_nat (List.getElem?_eq_getElem hk), q _ _ (List.getElem_mem hk) hD'⟩
theorem rup_neg {n m : Int} (h : 0 < m) : -(-n / m) * m = rup n m := by
  have e : -n / m = -((n + m - 1) / m) := by
    have h1 := Int.emod_add_mul_ediv (n + m - 1) m
    have h2 := Int.emod_nonneg (n + m - 1) (show m ≠ 0 by omega)
    have h3 := Int.emod_lt_of_pos (n + m - 1) h
    refine ((Int.ediv_emod_unique h (a := -n) (q := -((n + m - 1) / m)) (r := m - 1 - (n + m - 1) % m)).mpr ⟨?_, by omega, by omega⟩).1
    rw [Int.mul_neg]
    omega
  rw [e]
  unfold rup
  rw [Int.neg_neg]
theorem sp_up {n m : Int} {D : List Cell} {Q : T → List Cell → Prop} (h1 : 0 < m) (h2 : m ≤ 64) (q : Q (.int (rup n m)) D) : d__law_up [.int n, .int m] D Q := by
  refine ⟨rfl, ?_⟩
  rw [← rup_neg h1] at q
  try simp
  exact ⟨by unfold CDv; omega, by unfold CMul; omega, by simpa using q⟩
theorem sp_kind {S : List Int} {gr : Bool} {D : List Cell} {Q : T → List Cell → Prop} (hD : RI D) (hs : S ≠ []) (hl : S.length ≤ 100) (hS : ∀ s ∈ S, Al s) (q : ∀ k D', GK k → RI D' → Q (.d (kd k)) D') : d__law_kind [.mr 1, .lst (S.map .int), .bl gr] D Q := by
  refine ⟨rfl, w_seq ?_⟩
  simp
  refine sp_pick hD (by simpa using hs) (by simp; omega) fun x D1 hx hD1 => ?_
  obtain ⟨s, hs, rfl⟩ := List.mem_map.mp hx
  have al := hS s hs
  have ap := al.pos
  refine w_seq ?_
  simp [sizeLine_eq]
  refine ⟨by unfold CDv; omega, ?_⟩
  refine sp_draw hD1 (by omega) (by omega) fun n D2 n0 n1 hD2 => ?_
  simp
  refine sp_pick hD2 (by simp) (by simp) fun y D3 hy hD3 => ?_
  have : ∃ v : Int, y = .int v := by
    simp at hy
    rcases hy with rfl | rfl | rfl | rfl | rfl <;> exact ⟨_, rfl⟩
  obtain ⟨v, rfl⟩ := this
  have r := rang (i := v) (j := s) (by omega)
  simp
  refine ⟨by omega, ?_⟩
  generalize v % s = sh at r
  refine w_seq ?_
  simp
  refine sp_draw hD3 (by omega) (by omega) fun n2 D4 z0 z1 hD4 => ?_
  simp [sizeLine_eq]
  refine sp_pick hD4 (by simp) (by simp) fun y D5 hy hD5 => ?_
  have : ∃ v : Int, y = .int v ∧ 1 ≤ v ∧ v ≤ 40 := by
    simp at hy
    rcases hy with rfl | rfl | rfl | rfl | rfl | rfl | rfl | rfl <;> exact ⟨_, rfl, by omega, by omega⟩
  obtain ⟨tm, rfl, t1, t2⟩ := this
  have fin : ∀ (D' : List Cell) (t : Int), RI D' → 1 ≤ t → s * t ≤ 1000000000000000000000000000000 → s ≤ s * t → CMul s t ∧ 2 ≤ sizeLine ∧ Q (T.tup [PyData.int (s * t - sh), PyData.int s]) D' := by
    intro D' t hD' h1 h2 h3
    refine ⟨by unfold CMul; omega, by rw [sizeLine_eq]; omega, ?_⟩
    exact q (s * t - sh, s) D' ⟨⟨by show 1 ≤ s * t - sh; omega, by show s * t - sh ≤ _; omega⟩, al⟩ hD'
  have small : s * tm ≤ 1000000000000000000000000000000 ∧ s ≤ s * tm := by
    unfold Al at al
    rcases al with rfl | rfl | rfl | rfl | rfl | rfl | rfl <;> omega
  refine w_seq (w_if ?_)
  simp
  cases gr with
  | false => exact .inl ⟨rfl, fin _ _ hD5 t1 small.1 small.2⟩
  | true =>
    refine .inr ⟨rfl, ?_⟩
    refine sp_draw hD5 (by omega) (by omega) fun n3 D6 y0 y1 hD6 => ?_
    simp
    by_cases hz : n3 = 0
    · refine .inr ⟨hz, ?_⟩
      refine ⟨by unfold CPow; omega, by unfold CDv; omega, ?_⟩
      refine sp_draw hD6 (by omega) (by omega) fun n4 D7 x0 x1 hD7 => ?_
      have big : 1 ≤ 1000000000000000000000000000000 / s - n4 ∧ s * (1000000000000000000000000000000 / s - n4) ≤ 1000000000000000000000000000000 ∧ s ≤ s * (1000000000000000000000000000000 / s - n4) := by
        unfold Al at al
        rcases al with rfl | rfl | rfl | rfl | rfl | rfl | rfl <;> omega
      simp
      exact fin _ _ hD7 big.1 big.2.1 big.2.2
    · exact .inl ⟨hz, fin _ _ hD6 t1 small.1 small.2⟩
theorem sp_steps {D : List Cell} {Q : T → List Cell → Prop} (hD : RI D) (q : ∀ (S : List Int) D', S ≠ [] → S.length ≤ 100 → (∀ s ∈ S, Al s) → RI D' → Q (.lst (S.map .int)) D') : d__law_steps [.mr 1] D Q := by
  refine ⟨rfl, w_seq ?_⟩
  simp [sizeLine_eq]
  refine sp_pick hD (by simp) (by simp) fun x D1 hx hD1 => ?_
  have : ∃ S : List Int, x = .list (S.map .int) ∧ S ≠ [] ∧ S.length ≤ 100 ∧ ∀ s ∈ S, Al s := by
    have al : Al 1 ∧ Al 2 ∧ Al 4 ∧ Al 8 ∧ Al 16 ∧ Al 32 ∧ Al 64 := by unfold Al; omega
    simp at hx
    rcases hx with rfl | rfl | rfl | rfl | rfl | rfl | rfl | rfl | rfl | rfl
    · exact ⟨[1, 2, 4, 8, 16, 32, 64], rfl, by simp, by simp, by simp [al]⟩
    · exact ⟨[1, 2, 4], rfl, by simp, by simp, by simp [al]⟩
    · exact ⟨[1, 2, 4, 8], rfl, by simp, by simp, by simp [al]⟩
    · exact ⟨[4, 8], rfl, by simp, by simp, by simp [al]⟩
    · exact ⟨[1, 64], rfl, by simp, by simp, by simp [al]⟩
    · exact ⟨[2, 16, 64], rfl, by simp, by simp, by simp [al]⟩
    · exact ⟨[64], rfl, by simp, by simp, by simp [al]⟩
    · exact ⟨[1], rfl, by simp, by simp, by simp [al]⟩
    · exact ⟨[1, 2, 4, 8, 16, 32, 64], rfl, by simp, by simp, by simp [al]⟩
    · exact ⟨[1, 4, 8], rfl, by simp, by simp, by simp [al]⟩
  obtain ⟨S, rfl, s1, s2, s3⟩ := this
  exact ⟨rfl, q S D1 s1 s2 s3 hD1⟩
theorem sp_book {S : List Int} {gr : Bool} {many : Int} {D : List Cell} {Q : T → List Cell → Prop} (hD : RI D) (hs : S ≠ []) (hl : S.length ≤ 100) (hS : ∀ s ∈ S, Al s) (h1 : 1 ≤ many) (h2 : many ≤ 6)
    (q : ∀ K D', GB K → (K.length : Int) = many → RI D' → Q (.d (bkD K)) D') : d__law_book [.mr 1, .int many, .lst (S.map .int), .bl gr] D Q := by
  refine ⟨rfl, w_seq ?_⟩
  simp
  unfold mLcL
  simp [wipeT]
  refine ⟨by omega, ?_⟩
  refine lc_all (fun i acc M => ∃ (K : Bk6) (D' : List Cell), M = ⟨D', []⟩ ∧ RI D' ∧ acc = K.map kd ∧ K.length = i ∧ ∀ k ∈ K, GK k) ⟨[], D, rfl, hD, rfl, rfl, by simp⟩ ?_ ?_
  · rintro i acc M t R ht ⟨K, D', rfl, hD', rfl, hk, hK⟩ k
    obtain ⟨hi, rfl⟩ := range_at ht
    simp
    refine sp_kind hD' hs hl hS fun c D1 hc hD1 => ?_
    simp [sizeLine_eq]
    refine ⟨by omega, k _ _ ⟨K ++ [c], D1, rfl, hD1, by simp, by simp [hk], ?_⟩⟩
    intro z hz
    rcases List.mem_append.mp hz with y | y
    · exact hK z y
    · rw [List.mem_singleton.mp y]
      exact hc
  · rintro acc M ⟨K, D', rfl, hD', rfl, hk, hK⟩
    rw [range_len] at hk
    have gK : GB K := ⟨by intro z; subst z; simp at hk; omega, by omega, hK⟩
    refine w_seq (w_if ?_)
    simp
    have hret : ∀ D1, RI D1 → Q (.d (bkD K)) D1 := fun D1 hD1 => q K D1 gK (by omega) hD1
    by_cases hm : many ≤ 1
    · exact .inl ⟨hm, hret _ hD'⟩
    · refine .inr ⟨by omega, ?_⟩
      refine sp_draw hD' (by omega) (by omega) fun n D1 n0 n1 hD1 => ?_
      simp
      by_cases hn : n = 0
      · refine .inr ⟨hn, ?_⟩
        obtain ⟨c, K1, rfl⟩ : ∃ c K1, K = c :: K1 := List.exists_cons_of_ne_nil gK.ne
        obtain ⟨K2, l, e⟩ : ∃ K2 l, c :: K1 = K2 ++ [l] := ⟨_, _, (List.dropLast_concat_getLast gK.ne).symm⟩
        have h3 : atI ((c :: K1).map kd) (-1) = some (kd l) := by
          rw [e, List.map_append]
          exact atI_last _ _
        refine ⟨_, h3, ?_⟩
        simp
        refine q (l :: K1) D1 ⟨by simp, by have := gK.six; simpa using this, fun k hk' => ?_⟩ (by simp at hk ⊢; omega) hD1
        rcases List.mem_cons.mp hk' with z | z
        · rw [z]
          exact hK _ (by rw [e]; simp)
        · exact hK _ (List.mem_cons_of_mem _ z)
      · exact .inl ⟨hn, hret _ hD1⟩
theorem f_sumL {ns : List Int} {D : List Cell} {Q : Kt} (q : Q (.int ns.sum) ⟨D, [some (ns.map .int)]⟩) : fSum [.lr 0] ⟨D, [some (ns.map .int)]⟩ Q := by
  have e : nowI (.lr 0) ⟨D, [some (ns.map .int)]⟩ = some ns := by
    show intsOf (ns.map .int) = some ns
    exact intsOf_map ns
  unfold fSum
  simp only [e]
  exact q
theorem sum_pos : ∀ {l : List Int}, (∀ x ∈ l, 0 ≤ x) → 0 ≤ l.sum ∧ (l.sum ≠ 0 → ∃ x ∈ l, 0 < x)
  | [], _ => by simp
  | a :: l, h => by
    have h1 := h a List.mem_cons_self
    have h2 := sum_pos fun x hx => h x (List.mem_cons_of_mem _ hx)
    rw [List.sum_cons]
    refine ⟨by omega, fun z => ?_⟩
    by_cases c : 0 < a
    · exact ⟨a, List.mem_cons_self, c⟩
    · obtain ⟨x, hx, h3⟩ := h2.2 (by omega)
      exact ⟨x, List.mem_cons_of_mem _ hx, h3⟩
theorem sp_record {W : List Int} {K : Bk6} {D : List Cell} {Q : T → List Cell → Prop} (hD : RI D) (g : GB K) (hw : W ≠ []) (hl : W.length ≤ 100) (hW : ∀ w ∈ W, 0 ≤ w ∧ w ≤ 1000000000000000000000000000000)
    (q : ∀ N D', GN K N → RI D' → Q (.d (recD N)) D') : d__law_record [.mr 1, .int (K.length : Int), .lst (W.map .int)] D Q := by
  have h6 := g.six
  have hK : 1 ≤ K.length := List.length_pos_iff.mpr g.ne
  refine ⟨rfl, w_seq ?_⟩
  simp
  unfold mLcL
  simp [wipeT]
  refine ⟨by omega, ?_⟩
  refine lc_all (fun i acc M => ∃ (N : List Int) (D' : List Cell), M = ⟨D', []⟩ ∧ RI D' ∧ acc = N.map .int ∧ N.length = i ∧ ∀ n ∈ N, 0 ≤ n ∧ n ≤ 1000000000000000000000000000000) ⟨[], D, rfl, hD, rfl, rfl, by simp⟩ ?_ ?_
  · rintro i acc M t R ht ⟨N, D', rfl, hD', rfl, hk, hN⟩ k
    obtain ⟨hi, rfl⟩ := range_at ht
    simp
    refine sp_pick hD' (by simpa using hw) (by simp; omega) fun x D1 hx hD1 => ?_
    obtain ⟨v, hv, rfl⟩ := List.mem_map.mp hx
    simp [sizeLine_eq]
    refine ⟨by omega, k _ _ ⟨N ++ [v], D1, rfl, hD1, by simp, by simp [hk], ?_⟩⟩
    intro z hz
    rcases List.mem_append.mp hz with y | y
    · exact hN z y
    · rw [List.mem_singleton.mp y]
      exact hW v hv
  · rintro acc M ⟨N, D', rfl, hD', rfl, hk, hN⟩
    rw [range_len] at hk
    have hk : N.length = K.length := by omega
    refine w_seq (w_if ?_)
    simp
    refine f_sumL ?_
    simp
    have sp := sum_pos fun x hx => (hN x hx).1
    by_cases hz : N.sum = 0
    · refine .inr ⟨hz, ?_⟩
      refine sp_draw hD' (by omega) (by omega) fun j D4 j0 j1 hD4 => ?_
      obtain ⟨k, rfl⟩ : ∃ k : Nat, j = k := ⟨j.toNat, by omega⟩
      have hk2 : k < N.length := by omega
      simp
      refine ⟨k, ?_, ?_⟩
      · unfold ixN
        rw [if_pos (by omega), if_pos (by omega)]
        simp
      · have e : (N.map PyData.int).set k (.int 1) = (N.set k 1).map .int := by rw [List.map_set]
        rw [e]
        refine q (N.set k 1) D4 ⟨by simpa using hk, fun n hn => ?_, ⟨1, List.mem_set hk2 1, by omega⟩⟩ hD4
        rcases List.mem_or_eq_of_mem_set hn with z | z
        · exact hN n z
        · rw [z]; omega
    · exact .inl ⟨hz, q N D' ⟨hk, hN, sp.2 hz⟩ hD'⟩
end Pl

set_option Elab.async false
set_option linter.all false
set_option maxRecDepth 100000
namespace Pl
open PySem PySem.Spec L2 L3 Sh

/-! ### rooms, lacks, powers, units, floors -/
theorem kd_getD {K : Bk6} {i : Nat} (h : i < K.length) : (K.map kd).getD i .none = kd (kat K i) := by
  unfold kat
  rw [List.getD_eq_getElem?_getD, List.getD_eq_getElem?_getD, List.getElem?_map, List.getElem?_eq_getElem h]
  rfl
theorem num_getD {N : List Int} {i : Nat} (h : i < N.length) : (N.map PyData.int).getD i .none = .int (num N i) := by
  rw [num_at h, List.getD_eq_getElem?_getD, List.getElem?_map, List.getElem?_eq_getElem h]
  rfl
theorem sp_room {k : Int × Int} {D : List Cell} {Q : T → List Cell → Prop} (g : GK k) (q : Q (.int (rup k.1 k.2)) D) : d_room [.d (kd k)] D Q := by
  have := g.2.pos
  refine ⟨rfl, w_seq ?_⟩
  simp [kd]
  refine sp_round_up (by omega) (by omega) ?_
  simp
  exact q
theorem sp_law_room {k : Int × Int} {D : List Cell} {Q : T → List Cell → Prop} (g : GK k) (q : Q (.int (rup k.1 k.2)) D) : d__law_room [.d (kd k)] D Q := by
  have := g.2.pos
  refine ⟨rfl, ?_⟩
  simp
  refine sp_up (by omega) (by omega) ?_
  simp
  exact q
theorem lc_there {K : Bk6} {N : List Int} {τ : En} {M : Mem} {F : List PyData → Mem → Prop} (g : GB K) (gn : GN K N) (hτ : τ.length = 3) (q : F ((thr K N).map ix) M) :
    goLc (gTu 2 (gsCons (gN 1) (gsCons (gN 2) gsNil))) (mTest (mOp oGt (mVar 2) (mC (.int 0)))) (mVar 1) τ F (enumT (N.map .int)) [] M := by
  have h6 := g.six
  have hl := gn.len
  obtain ⟨a, b, c, rfl⟩ : ∃ a b c, τ = [a, b, c] := by
    match τ, hτ with
    | [a, b, c], _ => exact ⟨a, b, c, rfl⟩
  unfold enumT
  refine lc_pf (ts := List.range (N.map PyData.int).length) (fun i => decide (0 < num N i)) (fun i => ix i) (sz64' (by simp; omega)) (fun x acc R hx ha hr => ?_) ?_
  · have hx' : x < N.length := by simpa using hx
    rw [num_getD hx']
    simp
    by_cases hz : 0 < num N x
    · rw [if_pos (decide_eq_true hz)] at hr
      exact .inr ⟨hz, ha, hr⟩
    · rw [if_neg (by simpa using hz)] at hr
      exact .inl ⟨by omega, hr⟩
  · simp
    have e : (List.range N.length).filter (fun i => decide (0 < num N i)) = thr K N := by rw [hl]; rfl
    rw [e]
    exact q
theorem sp_places {K : Bk6} {N : List Int} {D : List Cell} {Q : T → List Cell → Prop} (g : GB K) (gn : GN K N) (q : Q (.lst ((thr K N).map ix)) D) : d_places_there [.d (recD N)] D Q := by
  refine ⟨rfl, ?_⟩
  simp only [x_ret, x_lc, x_ienum, x_acons, x_anil, x_var]
  simp [recD, wipeT]
  exact lc_there g gn rfl q
theorem sp_there {K : Bk6} {N : List Int} {D : List Cell} {Q : T → List Cell → Prop} (g : GB K) (gn : GN K N) (q : Q (.lst ((thr K N).map ix)) D) : d__law_there [.d (recD N)] D Q := by
  refine ⟨rfl, ?_⟩
  simp only [x_ret, x_lc, x_ienum, x_acons, x_anil, x_var]
  simp [recD, wipeT]
  exact lc_there g gn rfl q
/-! ### powers -/
theorem sp_power {n : Int} {D : List Cell} {Q : T → List Cell → Prop} (h : 0 < n) (q : Q (.int (lowN n.toNat : Int)) D) : d_power [.int n] D Q := by
  refine ⟨rfl, ?_⟩
  rw [← and_neg h] at q
  simp
  exact q
theorem sp_law_power {n : Int} {D : List Cell} {Q : T → List Cell → Prop} (h : 0 < n) (q : Q (.int (lowN n.toNat : Int)) D) : d__law_power [.int n] D Q := by
  refine ⟨rfl, ?_⟩
  rw [← and_neg h] at q
  simp
  exact q
def mn : List Int → Int
  | [] => 0
  | [x] => x
  | x :: y :: r => min x (mn (y :: r))
theorem mn_le : ∀ {l : List Int} {x : Int}, x ∈ l → mn l ≤ x
  | [y], x, h => by
    rw [List.mem_singleton.mp h]
    exact Int.le_refl _
  | y :: z :: r, x, h => by
    unfold mn
    rcases List.mem_cons.mp h with q | q
    · rw [q]; omega
    · have := mn_le q; omega
theorem mn_mem : ∀ {l : List Int}, l ≠ [] → mn l ∈ l
  | [y], _ => by simp [mn]
  | y :: z :: r, _ => by
    unfold mn
    have := mn_mem (l := z :: r) (by simp)
    rcases Int.le_total y (mn (z :: r)) with q | q
    · rw [Int.min_eq_left q]; exact List.mem_cons_self
    · rw [Int.min_eq_right q]; exact List.mem_cons_of_mem _ this
theorem mn_uniq {l : List Int} {m : Int} (h : m ∈ l) (g : ∀ y ∈ l, m ≤ y) : m = mn l := by
  have h1 := mn_le h
  have h2 := g _ (mn_mem (l := l) (by intro z; rw [z] at h; cases h))
  omega
theorem f_min {ns : List Int} {M : Mem} {Q : Kt} (h : ns ≠ []) (q : Q (.int (mn ns)) M) : fMin [.lst (ns.map .int)] M Q := by
  have e : nowI (.lst (ns.map .int)) M = some ns := by
    show intsOf (ns.map .int) = some ns
    exact intsOf_map ns
  show (match nowI (.lst (ns.map .int)) M with
    | some ns => 0 < ns.length ∧ ∀ m, m ∈ ns → (∀ y, y ∈ ns → m ≤ y) → Q (.int m) M
    | none => False)
  rw [e]
  exact ⟨List.length_pos_iff.mpr h, fun m h1 h2 => by rw [mn_uniq h1 h2]; exact q⟩
def pwk (k : Int × Int) : Int := (lowN (rup k.1 k.2).toNat : Int)
theorem pwk_ok {k : Int × Int} (g : GK k) : 1 ≤ pwk k ∧ pwk k ≤ 1000000000000000000000000000063 := by
  have h1 := g.1
  have h2 := g.2.pos
  have h3 := rup_le (n := k.1) (m := k.2) (by omega)
  have h4 := low_pos (n := (rup k.1 k.2).toNat) (by omega)
  unfold pwk
  omega
theorem rup_pos {k : Int × Int} (g : GK k) : 0 < rup k.1 k.2 := by
  have h1 := g.1
  have h2 := g.2.pos
  have h3 := rup_le (n := k.1) (m := k.2) (by omega)
  omega
def un (Ks : List (Int × Int)) : Int := mn (Ks.map pwk)
theorem un_ok {Ks : List (Int × Int)} (g : ∀ k ∈ Ks, GK k) (ne : Ks ≠ []) : 1 ≤ un Ks ∧ un Ks ≤ 1000000000000000000000000000063 := by
  obtain ⟨k, hk, e⟩ := List.mem_map.mp (mn_mem (l := Ks.map pwk) (by simpa using ne))
  unfold un
  rw [← e]
  exact pwk_ok (g k hk)
theorem lc_unit {Ks : List (Int × Int)} {M : Mem} {F : List PyData → Mem → Prop} (g : ∀ k ∈ Ks, GK k) (h6 : Ks.length ≤ 6) {a : Option T} (q : F ((Ks.map pwk).map .int) M) :
    goLc (gN 1) bYes (mCall (fDef d_power) (aCons (mCall (fDef d_room) (aCons (mVar 1) aNil)) aNil)) [a, none] F (Ks.map (T.d ∘ kd)) [] M := by
  refine lc_pure (ts := Ks) (fun k => .int (pwk k)) (sz64' (by omega)) (fun k acc R hk ha hr => ?_) ?_
  · simp
    refine sp_room (g k hk) ?_
    simp
    refine sp_power (rup_pos (g k hk)) ?_
    exact ⟨ha, hr⟩
  · rw [List.map_map] at q
    exact q
theorem sp_unitT {Ks : List (Int × Int)} {D : List Cell} {Q : T → List Cell → Prop} (g : ∀ k ∈ Ks, GK k) (ne : Ks ≠ []) (h6 : Ks.length ≤ 6) (q : Q (.int (un Ks)) D) : Sh.d_unit [.d (.tuple (Ks.map kd))] D Q := by
  refine ⟨rfl, ?_⟩
  simp only [x_ret, x_call, x_acons, x_anil, x_lc, x_iseq, x_var]
  simp [wipeT]
  exact lc_unit g h6 (f_min (by simpa using ne) ⟨rfl, q⟩)
theorem sp_unitL {Ks : List (Int × Int)} {D : List Cell} {Q : T → List Cell → Prop} (g : ∀ k ∈ Ks, GK k) (ne : Ks ≠ []) (h6 : Ks.length ≤ 6) (q : Q (.int (un Ks)) D) : Sh.d_unit [.d (.list (Ks.map kd))] D Q := by
  refine ⟨rfl, ?_⟩
  simp only [x_ret, x_call, x_acons, x_anil, x_lc, x_iseq, x_var]
  simp [wipeT]
  exact lc_unit g h6 (f_min (by simpa using ne) ⟨rfl, q⟩)
/-- the kinds there -/
def kth (K : Bk6) (N : List Int) : List (Int × Int) := (thr K N).map (kat K)
theorem thr_len {K : Bk6} {N : List Int} (g : GB K) : (thr K N).length ≤ 6 := by
  have h1 := List.length_filter_le (fun i => decide (0 < num N i)) (List.range K.length)
  rw [List.length_range] at h1
  have := g.six
  unfold thr
  omega
theorem kth_ok {K : Bk6} {N : List Int} (g : GB K) (gn : GN K N) : (∀ k ∈ kth K N, GK k) ∧ kth K N ≠ [] ∧ (kth K N).length ≤ 6 := by
  have gr := gn.gr g
  refine ⟨fun k hk => ?_, by simpa [kth] using gr.ne, by simpa [kth] using thr_len g⟩
  obtain ⟨i, hi, rfl⟩ := List.mem_map.mp hk
  exact (kat_ok g (gr.ok i hi)).1
def lst0 (K : Bk6) (N : List Int) : Int := un (kth K N)
theorem sp_record_unit {K : Bk6} {N : List Int} {D : List Cell} {Q : T → List Cell → Prop} (g : GB K) (gn : GN K N) (q : Q (.int (lst0 K N)) D) : d_record_unit [.d (bkD K), .d (recD N)] D Q := by
  have gr := gn.gr g
  have ko := kth_ok g gn
  have h6 := thr_len (N := N) g
  refine ⟨rfl, ?_⟩
  simp
  rw [x_lc]
  simp [wipeT]
  refine sp_places g gn ?_
  simp
  refine lc_pure (ts := thr K N) (fun i => kd (kat K i)) (sz64' (by omega)) (fun i acc R hi ha hr => ?_) ?_
  · simp [bkD]
    have hz : atI (K.map kd) (i : Int) = some (kd (kat K i)) := at_book g (gr.ok i hi)
    refine ⟨_, hz, ?_⟩
    exact ⟨ha, hr⟩
  · have e : ((thr K N).map fun i => kd (kat K i)) = (kth K N).map kd := by
      unfold kth
      rw [List.map_map]
      rfl
    rw [e]
    exact sp_unitL ko.1 ko.2.1 ko.2.2 ⟨rfl, q⟩
theorem sp_measure {K : Bk6} {N : List Int} {D : List Cell} {Q : T → List Cell → Prop} (g : GB K) (gn : GN K N) (q : Q (.int (lst0 K N)) D) : d__law_measure [.d (bkD K), .d (recD N)] D Q := by
  have gr := gn.gr g
  have ko := kth_ok g gn
  have h6 := thr_len (N := N) g
  refine ⟨rfl, ?_⟩
  simp
  rw [x_lc]
  simp [wipeT]
  refine sp_there g gn ?_
  simp
  refine lc_pure (ts := thr K N) (fun i => .int (pwk (kat K i))) (sz64' (by omega)) (fun i acc R hi ha hr => ?_) ?_
  · simp [bkD]
    have hz : atI (K.map kd) (i : Int) = some (kd (kat K i)) := at_book g (gr.ok i hi)
    refine ⟨_, hz, ?_⟩
    have gk := (kat_ok g (gr.ok i hi)).1
    simp
    refine sp_law_room gk ?_
    simp
    refine sp_law_power (rup_pos gk) ?_
    exact ⟨ha, hr⟩
  · have e : ((thr K N).map fun i => PyData.int (pwk (kat K i))) = ((kth K N).map pwk).map .int := by
      unfold kth
      rw [List.map_map, List.map_map]
      rfl
    rw [e]
    exact f_min (by simpa using ko.2.1) ⟨rfl, q⟩
theorem sp_top {K : Bk6} {N : List Int} {D : List Cell} {Q : T → List Cell → Prop} (g : GB K) (gn : GN K N) (q : Q (.int (mx (als K (thr K N)))) D) : d__law_top [.d (bkD K), .d (recD N)] D Q := by
  have gr := gn.gr g
  refine ⟨rfl, ?_⟩
  simp
  rw [x_lc]
  simp [wipeT]
  refine sp_there g gn ?_
  simp
  have := lc_al (M := ⟨D, []⟩) (a := some (.d (recD N))) (F := fun acc M2 => fMax [.lst acc] M2 fun t M => noL t = true ∧ Q t M.D) g gr (f_max (als_ne gr) ⟨rfl, q⟩)
  rw [mapT]
  exact this
/-- the floor -/
def fl0 (K : Bk6) (N : List Int) (i : Nat) : Int := num N i * rup (kat K i).1 (min (kat K i).2 (lst0 K N))
def fl (K : Bk6) (N : List Int) : Int := rup ((List.range K.length).map (fl0 K N)).sum (mx (als K (thr K N)))
theorem lst_pos {K : Bk6} {N : List Int} (g : GB K) (gn : GN K N) : 1 ≤ lst0 K N ∧ lst0 K N ≤ 1000000000000000000000000000063 := un_ok (kth_ok g gn).1 (kth_ok g gn).2.1
theorem min_ok {K : Bk6} {N : List Int} (g : GB K) (gn : GN K N) {i : Nat} (h : i < K.length) : 0 < min (kat K i).2 (lst0 K N) ∧ min (kat K i).2 (lst0 K N) ≤ 64 := by
  have h1 := (kat_ok g h).1.2.pos
  have h2 := lst_pos g gn
  omega
theorem rupm_ok {K : Bk6} {N : List Int} (g : GB K) (gn : GN K N) {i : Nat} (h : i < K.length) : 1 ≤ rup (kat K i).1 (min (kat K i).2 (lst0 K N)) ∧ rup (kat K i).1 (min (kat K i).2 (lst0 K N)) ≤ 1000000000000000000000000000063 := by
  have h1 := min_ok g gn h
  have h2 := (kat_ok g h).1.1
  have h3 := rup_le (n := (kat K i).1) (m := min (kat K i).2 (lst0 K N)) h1.1
  omega
theorem fl0_ok {K : Bk6} {N : List Int} (g : GB K) (gn : GN K N) {i : Nat} (h : i < K.length) : 0 ≤ fl0 K N i ∧ fl0 K N i ≤ 1000000000000000000000000000000 * 1000000000000000000000000000063 := by
  have h1 := num_ok gn i
  have h2 := rupm_ok g gn h
  unfold fl0
  exact ⟨Int.mul_nonneg h1.1 (by omega), Int.mul_le_mul h1.2 h2.2 (by omega) (by omega)⟩
theorem sum_bd {α : Type} {c : Int} : ∀ {l : List α} {f : α → Int}, (∀ x ∈ l, 0 ≤ f x ∧ f x ≤ c) → 0 ≤ (l.map f).sum ∧ (l.map f).sum ≤ l.length * c
  | [], f, _ => by simp
  | a :: l, f, h => by
    have h1 := h a List.mem_cons_self
    have h2 := sum_bd (l := l) (f := f) fun x hx => h x (List.mem_cons_of_mem _ hx)
    rw [List.map_cons, List.sum_cons, List.length_cons]
    have : ((l.length + 1 : Nat) : Int) * c = (l.length : Int) * c + c := by rw [Int.natCast_add, Int.add_mul]; simp
    omega
theorem fls_ok {K : Bk6} {N : List Int} (g : GB K) (gn : GN K N) : 0 ≤ ((List.range K.length).map (fl0 K N)).sum ∧ ((List.range K.length).map (fl0 K N)).sum ≤ 6 * (1000000000000000000000000000000 * 1000000000000000000000000000063) := by
  have h := sum_bd (l := List.range K.length) (f := fl0 K N) fun i hi => fl0_ok g gn (List.mem_range.mp hi)
  have h6 := g.six
  rw [List.length_range] at h
  omega
theorem fl_ok {K : Bk6} {N : List Int} (g : GB K) (gn : GN K N) : 0 ≤ fl K N ∧ fl K N ≤ 6 * (1000000000000000000000000000000 * 1000000000000000000000000000063) + 63 := by
  have h := fls_ok g gn
  have a := (als_al g (gn.gr g)).pos
  have := rup_le (n := ((List.range K.length).map (fl0 K N)).sum) (m := mx (als K (thr K N))) (by omega)
  unfold fl
  omega
theorem zip_at {K : Bk6} {N : List Int} {i : Nat} (h : i < K.length) (hn : N.length = K.length) : T.wt [(K.map kd).getD i .none, (N.map PyData.int).getD i .none] = T.wt [kd (kat K i), .int (num N i)] := by
  rw [kd_getD h, num_getD (by omega)]
theorem zip_k {K : Bk6} {i : Nat} (g : GB K) (h : i < K.length) : (Option.map kd K[i]?).getD PyData.none = kd (kat K i) := by
  rw [(kat_ok g h).2]
  rfl
theorem zip_n {N : List Int} {i : Nat} (h : i < N.length) : (Option.map PyData.int N[i]?).getD PyData.none = .int (num N i) := by
  rw [num_at h, List.getElem?_eq_getElem h]
  rfl
theorem sp_galL {K : Bk6} {r : List Nat} {D : List Cell} {Q : T → List Cell → Prop} (g : GB K) (gr : GR K r) (q : Q (.int (mx (als K r))) D) : d_greatest_alignment [.d (bkD K), .lst (r.map ix)] D Q := by
  refine ⟨rfl, ?_⟩
  simp only [x_ret, x_call, x_acons, x_anil, x_lc, x_iseq, x_var]
  simp [wipeT, mapT]
  exact lc_al g gr (f_max (als_ne gr) ⟨rfl, q⟩)
theorem min_if {k l : Int} : (if l < k then l else k) = min k l := by
  split <;> omega
theorem sp_floor {K : Bk6} {N : List Int} {D : List Cell} {Q : T → List Cell → Prop} (g : GB K) (gn : GN K N) (q : Q (.int (fl K N)) D) : d_floor_whole [.d (bkD K), .d (recD N)] D Q := by
  have h6 := g.six
  have hl := gn.len
  have gr := gn.gr g
  have a := (als_al g gr).pos
  refine ⟨rfl, w_seq ?_⟩
  simp
  refine sp_record_unit g gn ?_
  refine w_seq ?_
  simp
  rw [x_lc]
  simp [bkD, recD, wipeT, zipT]
  rw [show min K.length N.length = K.length by omega]
  refine lc_pure (ts := List.range K.length) (fun i => .int (fl0 K N i)) (sz64' (by simp; omega)) (fun i acc R hi ha hr => ?_) ?_
  · have hi' : i < K.length := List.mem_range.mp hi
    have h1 := min_ok g gn hi'
    have h2 := rupm_ok g gn hi'
    have h3 := num_ok gn i
    rw [zip_k g hi', zip_n (show i < N.length by omega)]
    simp [kd, min_if]
    refine sp_round_up h1.1 h1.2 ?_
    simp
    refine ⟨by unfold CBig; omega, ha, ?_⟩
    exact hr
  · have e : ((List.range K.length).map fun i => PyData.int (fl0 K N i)) = ((List.range K.length).map (fl0 K N)).map .int := by
      rw [List.map_map]
      rfl
    rw [e]
    refine f_sum ?_
    refine sp_places g gn ?_
    simp
    refine sp_galL g gr ?_
    simp
    exact sp_round_up (by omega) (by omega) ⟨rfl, q⟩
theorem sum_filter {α : Type} {p : α → Bool} {f : α → Int} : ∀ {l : List α}, (∀ x ∈ l, p x = false → f x = 0) → ((l.filter p).map f).sum = (l.map f).sum
  | [], _ => rfl
  | a :: l, h => by
    have ih := sum_filter (l := l) fun x hx => h x (List.mem_cons_of_mem _ hx)
    cases hp : p a with
    | true => simp [hp, ih]
    | false =>
      have := h a List.mem_cons_self hp
      simp [hp, ih, this]
theorem fl_thr {K : Bk6} {N : List Int} (gn : GN K N) : ((thr K N).map (fl0 K N)).sum = ((List.range K.length).map (fl0 K N)).sum := by
  refine sum_filter fun i hi hp => ?_
  have h := num_ok gn i
  have : num N i = 0 := by
    have := of_decide_eq_false hp
    omega
  unfold fl0
  rw [this, Int.zero_mul]
theorem rec_at {N : List Int} {i : Nat} (h : i < N.length) : atI (N.map PyData.int) (i : Int) = some (.int (num N i)) := by
  refine atI_nat ?_
  rw [List.getElem?_map, List.getElem?_eq_getElem h, num_at h]
  rfl
theorem sum_take_bd {α : Type} {f : α → Int} {l : List α} (h : ∀ x ∈ l, 0 ≤ f x) (i : Nat) : 0 ≤ ((l.take i).map f).sum := by
  refine (sum_pos ?_).1
  intro x hx
  obtain ⟨y, hy, rfl⟩ := List.mem_map.mp hx
  exact h y (List.mem_of_mem_take hy)
theorem sp_law_floor {K : Bk6} {N : List Int} {D : List Cell} {Q : T → List Cell → Prop} (g : GB K) (gn : GN K N) (q : Q (.int (fl K N)) D) : d__law_floor [.d (bkD K), .d (recD N)] D Q := by
  have h6 := g.six
  have hl := gn.len
  have gr := gn.gr g
  have a := (als_al g gr).pos
  refine ⟨rfl, w_seq ?_⟩
  simp
  refine sp_measure g gn ?_
  refine w_seq (w_for ?_)
  simp
  refine sp_there g gn ?_
  simp
  rw [mapT]
  refine for_all (fun i τ M => M = ⟨D, []⟩ ∧ ∃ u v w, τ = [some (.d (bkD K)), some (.d (recD N)), some (.int (lst0 K N)), some (.int (((thr K N).take i).map (fl0 K N)).sum), u, v, w]) ⟨rfl, _, _, _, rfl⟩ ?_ ?_
  · rintro i τ M t R ht ⟨rfl, u, v, w, rfl⟩ k
    rw [show ((thr K N).map fun (i : Nat) => T.int (i : Int)) = ((thr K N).map ix).map T.d by rw [List.map_map]; rfl] at ht
    obtain ⟨j, hj, rfl, hi⟩ := row_at ht
    have jl := gr.ok j (List.mem_of_getElem? hj)
    have h1 := min_ok g gn jl
    have h2 := rupm_ok g gn jl
    have h3 := num_ok gn j
    refine w_seq ?_
    simp [bkD, recD]
    refine ⟨_, at_book g jl, ?_⟩
    simp [kd]
    refine ⟨_, rec_at (by omega), ?_⟩
    simp [min_if]
    refine sp_up h1.1 h1.2 ?_
    simp
    refine ⟨by unfold CBig; omega, ?_⟩
    rw [take_snoc hj, List.map_append, List.sum_append] at k
    exact k _ _ ⟨rfl, some (.int (j : Int)), some (.int (kat K j).1), some (.int (kat K j).2), by simp [fl0, bkD, recD]⟩
  · rintro τ M ⟨rfl, u, v, w, rfl⟩
    rw [show ((thr K N).map fun (i : Nat) => T.int (i : Int)).length = (thr K N).length by simp, List.take_length, fl_thr gn]
    dsimp only
    simp
    refine sp_top g gn ?_
    simp
    exact sp_up (by omega) (by omega) ⟨rfl, q⟩
end Pl

set_option Elab.async false
set_option linter.all false
set_option maxRecDepth 100000
namespace Pl
open PySem PySem.Spec L2 L3 Sh

/-! ### lacks, shares, what is shown -/
def Lk (K : Bk6) : List Int := (List.range K.length).map fun i => rm K i - (kat K i).1
theorem Lk_eq (K : Bk6) : (K.map fun k => PyData.int (rup k.1 k.2 - k.1)) = (Lk K).map .int := by
  refine List.ext_getElem (by simp [Lk]) fun i h1 h2 => ?_
  have h : i < K.length := by simpa using h1
  simp [Lk, rm, kat, List.getElem?_eq_getElem h]
theorem Lk_len (K : Bk6) : (Lk K).length = K.length := by simp [Lk]
theorem Lk_num {K : Bk6} {i : Nat} (h : i < K.length) : num (Lk K) i = rm K i - (kat K i).1 := by
  unfold num Lk
  rw [List.getD_eq_getElem?_getD, List.getElem?_map, List.getElem?_range h]
  rfl
theorem sp_lacks {K : Bk6} {D : List Cell} {Q : T → List Cell → Prop} (g : GB K) (q : Q (.d (recD (Lk K))) D) : Sh.d_lacks [.d (bkD K)] D Q := by
  have h6 := g.six
  refine ⟨rfl, ?_⟩
  simp only [x_ret, x_call, x_acons, x_anil, x_lc, x_iseq, x_var]
  simp [bkD, wipeT]
  refine lc_pure (ts := K) (fun k => .int (rup k.1 k.2 - k.1)) (sz64' (by omega)) (fun k acc R hk ha hr => ?_) ?_
  · simp
    refine sp_room (g.ok k hk) ?_
    simp
    exact ⟨ha, hr⟩
  · rw [Lk_eq]
    simp
    exact q
def Rm (K : Bk6) : List Int := (List.range K.length).map (rm K)
theorem Rm_eq (K : Bk6) : (K.map fun k => PyData.int (rup k.1 k.2)) = (Rm K).map .int := by
  refine List.ext_getElem (by simp [Rm]) fun i h1 h2 => ?_
  have h : i < K.length := by simpa using h1
  simp [Rm, rm, kat, List.getElem?_eq_getElem h]
theorem Rm_num {K : Bk6} {i : Nat} (h : i < K.length) : num (Rm K) i = rm K i := by
  unfold num Rm
  rw [List.getD_eq_getElem?_getD, List.getElem?_map, List.getElem?_range h]
  rfl
theorem sp_rooms2 {K : Bk6} {D : List Cell} {Q : T → List Cell → Prop} (g : GB K) (q : Q (.d (recD (Rm K))) D) : Sh.d_rooms [.d (bkD K)] D Q := by
  have h6 := g.six
  refine ⟨rfl, ?_⟩
  simp only [x_ret, x_call, x_acons, x_anil, x_lc, x_iseq, x_var]
  simp [bkD, wipeT]
  refine lc_pure (ts := K) (fun k => .int (rup k.1 k.2)) (sz64' (by omega)) (fun k acc R hk ha hr => ?_) ?_
  · simp
    refine sp_room (g.ok k hk) ?_
    exact ⟨ha, hr⟩
  · rw [Rm_eq]
    simp
    exact q
def shr (K : Bk6) : List Int := (Lk K).map fun x => x % un K
theorem sp_unit {K : Bk6} {D : List Cell} {Q : T → List Cell → Prop} (g : GB K) (q : Q (.int (un K)) D) : Sh.d_unit [.d (bkD K)] D Q := sp_unitT g.ok g.ne g.six q
theorem sp_shares {K : Bk6} {D : List Cell} {Q : T → List Cell → Prop} (g : GB K) (q : Q (.d (recD (shr K))) D) : d_shares [.d (bkD K)] D Q := by
  have h6 := g.six
  have hu := un_ok (Ks := K) g.ok g.ne
  refine ⟨rfl, w_seq ?_⟩
  simp
  refine sp_unit g ?_
  simp only [x_ret, x_call, x_acons, x_anil, x_lc, x_iseq, x_var]
  simp [wipeT]
  refine sp_lacks g ?_
  simp [recD]
  refine lc_pure (e := T.d ∘ PyData.int) (ts := Lk K) (fun x => .int (x % un K)) (sz64' (by rw [Lk_len]; omega)) (fun x acc R hx ha hr => ?_) ?_
  · simp
    exact ⟨by omega, ha, hr⟩
  · rw [map_map']
    have q' : Q (.tup ((shr K).map .int)) D := q
    simpa [shr] using q'
theorem ones_gn {K : Bk6} (g : GB K) : GN K (List.replicate K.length 1) := by
  refine ⟨by simp, fun n hn => ?_, ⟨1, ?_, by omega⟩⟩
  · rw [List.eq_of_mem_replicate hn]; omega
  · exact List.mem_replicate.mpr ⟨by have := List.length_pos_iff.mpr g.ne; omega, rfl⟩
theorem kth_ones (K : Bk6) : kth K (List.replicate K.length 1) = K := by
  unfold kth thr
  have e : (List.range K.length).filter (fun i => decide (0 < num (List.replicate K.length 1) i)) = List.range K.length := by
    refine List.filter_eq_self.mpr fun i hi => ?_
    have := List.mem_range.mp hi
    rw [num_at (by simpa using this)]
    simp
  rw [e]
  refine List.ext_getElem (by simp) fun i h1 h2 => ?_
  have h : i < K.length := by simpa using h1
  simp [kat, List.getElem?_eq_getElem h]
theorem un_pw {K : Bk6} {i : Nat} (h : i < K.length) : un K ≤ pwk (kat K i) := by
  unfold un
  refine mn_le (List.mem_map_of_mem ?_)
  unfold kat
  rw [List.getD_eq_getElem?_getD, List.getElem?_eq_getElem h]
  exact List.getElem_mem h
theorem lk_ok {K : Bk6} (g : GB K) {i : Nat} (h : i < K.length) : 0 ≤ rm K i - (kat K i).1 ∧ rm K i - (kat K i).1 < (kat K i).2 := by
  have h1 := (kat_ok g h).1
  have h2 := h1.1
  have h3 := h1.2.pos
  have := rup_le (n := (kat K i).1) (m := (kat K i).2) (by omega)
  unfold rm
  omega
theorem lk_small {K : Bk6} (g : GB K) : ∀ x ∈ Lk K, 0 ≤ x ∧ x < 64 := by
  intro x hx
  obtain ⟨i, hi, rfl⟩ := List.mem_map.mp hx
  have h := List.mem_range.mp hi
  have h1 := lk_ok g h
  have h2 := (kat_ok g h).1.2.pos
  omega
theorem shr_ok {K : Bk6} (g : GB K) : (shr K).length = K.length ∧ ∀ x ∈ shr K, 0 ≤ x ∧ x < 64 := by
  refine ⟨by simp [shr, Lk], fun x hx => ?_⟩
  obtain ⟨y, hy, rfl⟩ := List.mem_map.mp hx
  have h1 := lk_small g y hy
  have hu := un_ok (Ks := K) g.ok g.ne
  have := rang (i := y) (j := un K) (by omega)
  refine ⟨this.1, ?_⟩
  have : y % un K ≤ y := by
    rcases Int.lt_or_le y (un K) with z | z
    · rw [Int.emod_eq_of_lt h1.1 z]; omega
    · omega
  omega
theorem sw_ints {N : List Int} (h6 : N.length ≤ 6) (h : ∀ x ∈ N, x.natAbs < 10 ^ 60) : Sw 1806 1 (recD N) :=
  (sw_tup (sw_map (l := N) (f := PyData.int) fun n hn => sw_int (h n hn))).mono (by omega) (by omega)
theorem sw_rec {K : Bk6} {N : List Int} (g : GB K) (gn : GN K N) : Sw 1806 1 (recD N) :=
  sw_ints (by rw [gn.len]; exact g.six) fun x hx => by have := gn.ok x hx; omega
theorem fl_sw {K : Bk6} {N : List Int} (g : GB K) (gn : GN K N) : Sw 300 0 (.int (fl K N)) := sw_int61 (by have := fl_ok g gn; omega)
end Pl

set_option Elab.async false
set_option linter.all false
set_option maxRecDepth 100000
namespace Pn
open PySem PySem.Spec L2 L3
abbrev d_power : FD := Sh.d_power
abbrev b_fewest_0 : Ms := (mAugI (fun i j => i + j) 3 (mC (.int 1)))
abbrev b_fewest_1 : Ms := (mRet (mVar 3))
abbrev b_fewest_2 : Ms := (mSeq (mWhile (mTest (mOp (oEq true) (mOp oMod (mOp oSub (mOp oMul (mVar 3) (mVar 0)) (mVar 1)) (mVar 2)) (mC (.int 0)))) b_fewest_0) b_fewest_1)
abbrev b_fewest_3 : Ms := (mSeq (mSet 3 (mC (.int 0))) b_fewest_2)
abbrev b_fewest : Ms := b_fewest_3
def d_fewest : FD := mDef 3 4 b_fewest
abbrev d_places_there : FD := Pl.d_places_there
abbrev d_room : FD := Sh.d_room
abbrev d_rooms : FD := Sh.d_rooms
abbrev d_lacks : FD := Sh.d_lacks
abbrev d_record_unit : FD := Pl.d_record_unit
abbrev b_fillers_behind_0 : Ms := (mRet (mCall (fDef d_fewest) (aCons (mVar 3) (aCons (mVar 4) (aCons (mOp oIx (mOp oIx (mVar 0) (mVar 1)) (mC (.int 1))) aNil)))))
abbrev b_fillers_behind_1 : Ms := (mSeq (mSet 4 (mOp oMul (mOp oDivW (mOp oIx (mCall (fDef d_lacks) (aCons (mVar 0) aNil)) (mVar 1)) (mCall (fDef d_power) (aCons (mVar 3) aNil))) (mCall (fDef d_power) (aCons (mVar 3) aNil)))) b_fillers_behind_0)
abbrev b_fillers_behind_2 : Ms := (mSeq (mSet 3 (mCall (fDef d_room) (aCons (mOp oIx (mVar 0) (mVar 2)) aNil))) b_fillers_behind_1)
abbrev b_fillers_behind : Ms := b_fillers_behind_2
def d_fillers_behind : FD := mDef 3 5 b_fillers_behind
abbrev b_needed_0 : Ms := (mRet (mCall fTuple (aCons (mLc (iSeq (mVar 4)) (gN 6) bYes (mTup (aCons (mVar 6) (aCons (mCall fSum (aCons (mLc (iSeq (mVar 2)) (gN 5) bYes (mOp oMul (mOp oIx (mVar 1) (mVar 5)) (mCall (fDef d_fillers_behind) (aCons (mVar 0) (aCons (mVar 5) (aCons (mVar 6) aNil))))) [5]) aNil)) aNil))) [6]) aNil)))
abbrev b_needed_1 : Ms := (mSeq (mSet 4 (mLc (iSeq (mVar 2)) (gN 5) (mTest (mOp (oEq false) (mCall (fDef d_power) (aCons (mOp oIx (mCall (fDef d_rooms) (aCons (mVar 0) aNil)) (mVar 5)) aNil)) (mVar 3))) (mVar 5) [5])) b_needed_0)
abbrev b_needed_2 : Ms := (mSeq (mSet 3 (mCall (fDef d_record_unit) (aCons (mVar 0) (aCons (mVar 1) aNil)))) b_needed_1)
abbrev b_needed_3 : Ms := (mSeq (mSet 2 (mCall (fDef d_places_there) (aCons (mVar 1) aNil))) b_needed_2)
abbrev b_needed : Ms := b_needed_3
def d_needed : FD := mDef 2 7 b_needed
abbrev d__law_room : FD := Pl.d__law_room
abbrev d__law_power : FD := Pl.d__law_power
abbrev d__law_there : FD := Pl.d__law_there
abbrev d__law_measure : FD := Pl.d__law_measure
abbrev b__law_turns_0 : Ms := (mSet 7 (mOp oAdd (mVar 7) (mC (.int 1))))
abbrev b__law_turns_1 : Ms := (mRet (mVar 7))
abbrev b__law_turns_2 : Ms := (mSeq (mWhile (bAnd (mTest (mOp (oEq true) (mOp oMod (mCall fInt (aCons (mOp oSub (mOp oMul (mVar 7) (mCall (fDef d__law_room) (aCons (mOp oIx (mVar 0) (mVar 1)) aNil))) (mVar 6)) aNil)) (mVar 5)) (mC (.int 0)))) (mTest (mOp oLt (mVar 7) (mC (.int 64))))) b__law_turns_0) b__law_turns_1)
abbrev b__law_turns_3 : Ms := (mSeq (mPar 6 7 (aCons (mOp oMul (mVar 3) (mOp oDivW (mOp oSub (mCall (fDef d__law_room) (aCons (mOp oIx (mVar 0) (mVar 2)) aNil)) (mVar 4)) (mVar 3))) (aCons (mC (.int 0)) aNil))) b__law_turns_2)
abbrev b__law_turns_4 : Ms := (mSeq (mAsg (mOp oIx (mVar 0) (mVar 2)) (gTu 2 (gsCons (gN 4) (gsCons (gN 5) gsNil)))) b__law_turns_3)
abbrev b__law_turns : Ms := b__law_turns_4
def d__law_turns : FD := mDef 4 8 b__law_turns
abbrev b__law_wanted_0 : Ms := (mSet 5 (mOp oAdd (mVar 5) (mOp oMul (mOp oIx (mVar 1) (mVar 6)) (mCall (fDef d__law_turns) (aCons (mVar 0) (aCons (mVar 4) (aCons (mVar 6) (aCons (mVar 2) aNil))))))))
abbrev b__law_wanted_1 : Ms := (mIf (mTest (mOp oGe (mOp oSub (mCall (fDef d__law_room) (aCons (mOp oIx (mVar 0) (mVar 6)) aNil)) (mOp oIx (mOp oIx (mVar 0) (mVar 6)) (mC (.int 0)))) (mVar 2))) b__law_wanted_0 mNext)
abbrev b__law_wanted_2 : Ms := (mDrop (mMeth fApp (mVar 3) (aCons (mTup (aCons (mVar 4) (aCons (mVar 5) aNil))) aNil)))
abbrev b__law_wanted_3 : Ms := (mSeq (mFor (iSeq (mCall (fDef d__law_there) (aCons (mVar 1) aNil))) (gN 6) b__law_wanted_1) b__law_wanted_2)
abbrev b__law_wanted_4 : Ms := (mSeq (mSet 5 (mC (.int 0))) b__law_wanted_3)
abbrev b__law_wanted_5 : Ms := (mIf (mTest (mOp (oEq false) (mCall (fDef d__law_power) (aCons (mCall (fDef d__law_room) (aCons (mOp oIx (mVar 0) (mVar 4)) aNil)) aNil)) (mVar 2))) b__law_wanted_4 mNext)
abbrev b__law_wanted_6 : Ms := (mRet (mFrz (mVar 3)))
abbrev b__law_wanted_7 : Ms := (mSeq (mFor (iSeq (mCall (fDef d__law_there) (aCons (mVar 1) aNil))) (gN 4) b__law_wanted_5) b__law_wanted_6)
abbrev b__law_wanted_8 : Ms := (mSeq (mPar 2 3 (aCons (mCall (fDef d__law_measure) (aCons (mVar 0) (aCons (mVar 1) aNil))) (aCons (mNewL aNil) aNil))) b__law_wanted_7)
abbrev b__law_wanted : Ms := b__law_wanted_8
def d__law_wanted : FD := mDef 2 7 b__law_wanted
end Pn

set_option Elab.async false
set_option linter.all false
set_option maxRecDepth 100000
namespace Pl
open PySem PySem.Spec L2 L3 Sh

theorem g_kd {k : Int × Int} {i j : Nat} {τ : En} {M : Mem} {P : En → Mem → Prop} (h : P ((τ.set i (some (.int k.1))).set j (some (.int k.2))) M) : gTu 2 (gsCons (gN i) (gsCons (gN j) gsNil)) (.d (kd k)) τ M P := ⟨rfl, rfl, h⟩
/-! ### the fewest that are enough -/
theorem low_parts : ∀ {n : Nat}, 0 < n → ∃ j o : Nat, lowN n = 2 ^ j ∧ n = 2 ^ j * o ∧ o % 2 = 1 := by
  intro n
  induction n using Nat.strongRecOn with
  | ind n ih =>
    intro h
    by_cases c : n % 2 = 0
    · obtain ⟨j, o, h1, h2, h3⟩ := ih (n / 2) (by omega) (by omega)
      refine ⟨j + 1, o, ?_, ?_, h3⟩
      · rw [low_even c h, h1, Nat.pow_succ, Nat.mul_comm]
      · rw [Nat.pow_succ, Nat.mul_comm (2 ^ j) 2, Nat.mul_assoc, ← h2]
        omega
    · exact ⟨0, n, low_odd (by omega), by omega, by omega⟩
theorem solve (o : Int) (ho : o % 2 = 1) (s : Int) : ∀ k : Nat, ∃ n : Nat, n < 2 ^ k ∧ ((2 ^ k : Nat) : Int) ∣ (n : Int) * o - s
  | 0 => ⟨0, by simp, ⟨0 * o - s, by simp⟩⟩
  | k + 1 => by
    obtain ⟨n, h1, c, h2⟩ := solve o ho s k
    have e : ((2 ^ (k + 1) : Nat) : Int) = 2 * ((2 ^ k : Nat) : Int) := by rw [Nat.pow_succ]; omega
    rw [e]
    by_cases q : c % 2 = 0
    · refine ⟨n, by rw [Nat.pow_succ]; omega, ⟨c / 2, ?_⟩⟩
      rw [h2, Int.mul_comm 2, Int.mul_assoc]
      congr 1
      omega
    · refine ⟨n + 2 ^ k, by rw [Nat.pow_succ]; omega, ⟨(c + o) / 2, ?_⟩⟩
      have e2 : ((n + 2 ^ k : Nat) : Int) * o - s = ((2 ^ k : Nat) : Int) * (c + o) := by
        rw [Int.mul_add, ← h2, Int.natCast_add, Int.add_mul]
        omega
      rw [e2, Int.mul_comm 2, Int.mul_assoc]
      congr 1
      omega
def fw (s r m : Int) : Nat := ((List.range 64).find? fun (n : Nat) => decide (((n : Int) * s - r) % m = 0)).getD 0
theorem fw_ok {s r m : Int} (h : ∃ n : Nat, n < 64 ∧ ((n : Int) * s - r) % m = 0) : fw s r m < 64 ∧ ((fw s r m : Int) * s - r) % m = 0 ∧ ∀ i : Nat, i < fw s r m → ((i : Int) * s - r) % m ≠ 0 := by
  obtain ⟨n, h1, h2⟩ := h
  unfold fw
  cases hf : (List.range 64).find? fun (n : Nat) => decide (((n : Int) * s - r) % m = 0) with
  | none =>
    have := List.find?_eq_none.mp hf n (List.mem_range.mpr h1)
    exact absurd (decide_eq_true h2) this
  | some k =>
    have hk := List.mem_range.mp (List.mem_of_find?_eq_some hf)
    have hp := List.find?_some hf
    refine ⟨hk, of_decide_eq_true hp, fun i hi hc => ?_⟩
    obtain ⟨_, l1, l2, e1, e2⟩ := List.find?_eq_some_iff_append.mp hf
    have hi' : i < k := hi
    have hlen : l1.length = k := by
      have h3 : (List.range 64)[l1.length]? = some k := by rw [e1]; simp
      have h4 : l1.length < 64 := by
        have := congrArg List.length e1
        simp at this
        omega
      rw [List.getElem?_range h4] at h3
      simpa using h3
    have hm : i ∈ l1 := by
      have h3 : (List.range 64)[i]? = l1[i]? := by
        rw [e1, List.getElem?_append_left (by omega)]
      rw [List.getElem?_range (by omega)] at h3
      exact List.mem_of_getElem? h3.symm
    have := e2 i hm
    simp [hc] at this
theorem al_pow {a : Int} (h : Al a) : ∃ k : Nat, k ≤ 6 ∧ a = ((2 ^ k : Nat) : Int) := by
  unfold Al at h
  rcases h with rfl | rfl | rfl | rfl | rfl | rfl | rfl
  · exact ⟨0, by omega, rfl⟩
  · exact ⟨1, by omega, rfl⟩
  · exact ⟨2, by omega, rfl⟩
  · exact ⟨3, by omega, rfl⟩
  · exact ⟨4, by omega, rfl⟩
  · exact ⟨5, by omega, rfl⟩
  · exact ⟨6, by omega, rfl⟩
theorem fw_ex {s c m a : Int} (hs : 0 < s) (hm : m = (lowN s.toNat : Int)) (ha : Al a) : ∃ n : Nat, n < 64 ∧ ((n : Int) * s - m * c) % a = 0 := by
  obtain ⟨j, o, h1, h2, h3⟩ := low_parts (n := s.toNat) (by omega)
  obtain ⟨k, hk, rfl⟩ := al_pow ha
  have es : s = ((2 ^ j : Nat) : Int) * (o : Int) := by
    rw [← Int.natCast_mul, ← h2]
    omega
  have em : m = ((2 ^ j : Nat) : Int) := by rw [hm, h1]
  rw [es, em]
  rcases Nat.le_total k j with z | z
  · refine ⟨0, by omega, ?_⟩
    refine Int.emod_eq_zero_of_dvd ?_
    have d : ((2 ^ k : Nat) : Int) ∣ ((2 ^ j : Nat) : Int) := Int.natCast_dvd_natCast.mpr (Nat.pow_dvd_pow 2 z)
    have : (((0 : Nat) : Int) * (((2 ^ j : Nat) : Int) * (o : Int)) - ((2 ^ j : Nat) : Int) * c) = ((2 ^ j : Nat) : Int) * (-c) := by
      rw [Int.mul_neg]; simp
    rw [this]
    exact Int.dvd_trans d ⟨-c, rfl⟩
  · obtain ⟨n, hn, d⟩ := solve (o : Int) (by omega) c (k - j)
    refine ⟨n, Nat.lt_of_lt_of_le hn (Nat.le_trans (Nat.pow_le_pow_right (by omega) (show k - j ≤ 6 by omega)) (by decide)), ?_⟩
    refine Int.emod_eq_zero_of_dvd ?_
    have e : ((n : Int) * (((2 ^ j : Nat) : Int) * (o : Int)) - ((2 ^ j : Nat) : Int) * c) = ((2 ^ j : Nat) : Int) * ((n : Int) * (o : Int) - c) := by
      rw [Int.mul_sub, Int.mul_left_comm]
    rw [e]
    have e2 : ((2 ^ k : Nat) : Int) = ((2 ^ j : Nat) : Int) * ((2 ^ (k - j) : Nat) : Int) := by
      rw [← Int.natCast_mul, ← Nat.pow_add]
      congr 2
      omega
    rw [e2]
    exact Int.mul_dvd_mul (Int.dvd_refl _) d
theorem fewest_go {E : Es} {M : Mem} {s r m : Int} (hm : 0 < m) (ok : fw s r m < 64 ∧ ((fw s r m : Int) * s - r) % m = 0 ∧ ∀ i : Nat, i < fw s r m → ((i : Int) * s - r) % m ≠ 0)
    (done : E.nx [some (.int s), some (.int r), some (.int m), some (.int (fw s r m : Int))] M) : ∀ (d k : Nat), k + d = fw s r m →
    ∃ u, goWh (mTest (mOp (oEq true) (mOp oMod (mOp oSub (mOp oMul (mVar 3) (mVar 0)) (mVar 1)) (mVar 2)) (mC (.int 0)))) Pn.b_fewest_0 E u [some (.int s), some (.int r), some (.int m), some (.int (k : Int))] M := by
  intro d
  induction d with
  | zero =>
    intro k hk
    refine ⟨1, ?_⟩
    have e : k = fw s r m := by omega
    rw [e]
    unfold goWh
    simp
    refine ⟨by unfold CMul; omega, hm, ?_⟩
    exact .inl ⟨ok.2.1, done⟩
  | succ d ih =>
    intro k hk
    obtain ⟨u, hu⟩ := ih (k + 1) (by omega)
    refine ⟨u + 1, ?_⟩
    unfold goWh
    simp
    refine ⟨by unfold CMul; omega, hm, ?_⟩
    refine .inr ⟨ok.2.2 k (by omega), ?_⟩
    have e : ((k + 1 : Nat) : Int) = (k : Int) + 1 := by omega
    rw [e] at hu
    exact hu
theorem sp_fewest {s c m p : Int} {D : List Cell} {Q : T → List Cell → Prop} (hs : 0 < s) (hp : p = (lowN s.toNat : Int)) (ha : Al m) (q : Q (.int (fw s (p * c) m : Int)) D) : Pn.d_fewest [.int s, .int (p * c), .int m] D Q := by
  have ok := fw_ok (fw_ex hs hp (c := c) ha)
  refine ⟨rfl, w_seq ?_⟩
  simp
  refine w_seq ?_
  exact fewest_go (by have := ha.pos; omega) ok (by simp; exact q) (fw s (p * c) m) 0 (by omega)
end Pl

set_option Elab.async false
set_option linter.all false
set_option maxRecDepth 100000
namespace Pl
open PySem PySem.Spec L2 L3 Sh

def lk (K : Bk6) (i : Nat) : Int := rm K i - (kat K i).1
/-- fields of f behind one of p -/
def bh (K : Bk6) (m : Int) (p f : Nat) : Int := (fw (rm K f) (m * (lk K p / m)) (kat K p).2 : Int)
theorem pwk_low (K : Bk6) (i : Nat) : pwk (kat K i) = (lowN (rm K i).toNat : Int) := rfl
theorem bh_ok {K : Bk6} {m : Int} {p f : Nat} (g : GB K) (hp : p < K.length) (hf : f < K.length) (hm : m = pwk (kat K f)) : 0 ≤ bh K m p f ∧ bh K m p f < 64 := by
  have ok := fw_ok (fw_ex (s := rm K f) (c := lk K p / m) (m := m) (a := (kat K p).2) (by have := rm_ok g hf; omega) hm (kat_ok g hp).1.2)
  unfold bh
  omega
theorem rec_ix {N : List Int} {i : Nat} {M : Mem} {Q : Kt} (h : i < N.length) (q : Q (.int (num N i)) M) : oIx (.d (recD N)) (.int (i : Int)) M Q := by
  unfold recD
  simp only [x_ixt]
  exact ⟨_, rec_at h, q⟩
theorem bk_ix {K : Bk6} {i : Nat} {M : Mem} {Q : Kt} (g : GB K) (h : i < K.length) (q : Q (.d (kd (kat K i))) M) : oIx (.d (bkD K)) (.int (i : Int)) M Q := by
  unfold bkD
  simp only [x_ixt]
  exact ⟨_, at_book g h, q⟩
theorem sp_fillers {K : Bk6} {p f : Nat} {D : List Cell} {Q : T → List Cell → Prop} (g : GB K) (hp : p < K.length) (hf : f < K.length) (q : Q (.int (bh K (pwk (kat K f)) p f)) D) : Pn.d_fillers_behind [.d (bkD K), .int (p : Int), .int (f : Int)] D Q := by
  have gf := (kat_ok g hf).1
  have h1 := rm_ok g hf
  have h2 := lk_ok g hp
  have h3 := (kat_ok g hp).1.2.pos
  have h4 := pwk_ok gf
  refine ⟨rfl, w_seq ?_⟩
  simp
  refine bk_ix g hf ?_
  simp
  refine sp_room gf ?_
  refine w_seq ?_
  simp
  refine sp_lacks g ?_
  refine rec_ix (by rw [Lk_len]; exact hp) ?_
  simp
  refine sp_power (by have := rup_pos gf; exact this) ?_
  simp
  have e : ((lowN (rup (kat K f).1 (kat K f).2).toNat : Nat) : Int) = pwk (kat K f) := rfl
  rw [e, Lk_num hp]
  refine ⟨by unfold CDvW; omega, ?_⟩
  refine sp_power (by have := rup_pos gf; exact this) ?_
  simp
  rw [e]
  have hd : 0 ≤ lk K p / pwk (kat K f) ∧ lk K p / pwk (kat K f) ≤ lk K p := ⟨Int.ediv_nonneg (by unfold lk; omega) (by omega), Int.ediv_le_self _ (by unfold lk; omega)⟩
  have e3 : rm K p - (kat K p).1 = lk K p := rfl
  rw [e3]
  refine ⟨by unfold CMul lk at *; omega, ?_⟩
  refine bk_ix g hp ?_
  simp
  rw [Int.mul_comm]
  exact sp_fewest (by have := rup_pos gf; exact this) rfl (kat_ok g hp).1.2 ⟨rfl, q⟩
/-- what a filler is needed for -/
def nd (K : Bk6) (N : List Int) (f : Nat) : Int := ((thr K N).map fun p => num N p * bh K (lst0 K N) p f).sum
def fls (K : Bk6) (N : List Int) : List Nat := (thr K N).filter fun f => decide (pwk (kat K f) = lst0 K N)
def pr (K : Bk6) (N : List Int) (f : Nat) : PyData := .tuple [.int (f : Int), .int (nd K N f)]
theorem sp_needed {K : Bk6} {N : List Int} {D : List Cell} {Q : T → List Cell → Prop} (g : GB K) (gn : GN K N) (q : Q (.tup ((fls K N).map (pr K N))) D) : Pn.d_needed [.d (bkD K), .d (recD N)] D Q := by
  have h6 := g.six
  have hl := gn.len
  have gr := gn.gr g
  have t6 := thr_len (N := N) g
  refine ⟨rfl, w_seq ?_⟩
  simp
  refine sp_places g gn ?_
  refine w_seq ?_
  simp
  refine sp_record_unit g gn ?_
  refine w_seq ?_
  rw [x_set, x_lc]
  simp [wipeT]
  rw [mapT]
  refine lc_pf (ts := thr K N) (fun f => decide (pwk (kat K f) = lst0 K N)) (fun f => ix f) (sz64' (by omega)) (fun i acc R hi ha hr => ?_) ?_
  · have hi' := gr.ok i hi
    have gk := (kat_ok g hi').1
    simp
    refine sp_rooms2 g ?_
    refine rec_ix (by simp [Rm]; exact hi') ?_
    rw [Rm_num hi']
    simp
    refine sp_power (by have := rup_pos gk; exact this) ?_
    rw [← pwk_low]
    simp
    by_cases hz : pwk (kat K i) = lst0 K N
    · rw [if_pos (decide_eq_true hz)] at hr
      exact .inr ⟨hz, ha, hr⟩
    · rw [if_neg (by simpa using hz)] at hr
      exact .inl ⟨hz, hr⟩
  · have ef : (thr K N).filter (fun f => decide (pwk (kat K f) = lst0 K N)) = fls K N := rfl
    rw [ef]
    have fl6 : (fls K N).length ≤ 6 := Nat.le_trans (List.length_filter_le _ _) t6
    simp only [x_ret, x_call, x_acons, x_anil, x_lc, x_iseq, x_var]
    simp [wipeT]
    rw [mapT]
    refine lc_pure (ts := fls K N) (fun f => pr K N f) (sz64' (by omega)) (fun f acc R hf ha hr => ?_) ?_
    · obtain ⟨hf1, hf2⟩ := List.mem_filter.mp hf
      have hf' := gr.ok f hf1
      have hfp : pwk (kat K f) = lst0 K N := of_decide_eq_true hf2
      simp
      rw [x_lc]
      simp [wipeT]
      rw [mapT]
      refine lc_pure (ts := thr K N) (fun p => .int (num N p * bh K (lst0 K N) p f)) (sz64' (by omega)) (fun p acc2 R2 hp ha2 hr2 => ?_) ?_
      · have hp' := gr.ok p hp
        have hb := bh_ok (m := lst0 K N) g hp' hf' hfp.symm
        simp
        refine rec_ix (by omega) ?_
        refine sp_fillers g hp' hf' ?_
        rw [hfp]
        simp
        exact ⟨by unfold CMul; omega, ha2, hr2⟩
      · have e : ((thr K N).map fun p => PyData.int (num N p * bh K (lst0 K N) p f)) = ((thr K N).map fun p => num N p * bh K (lst0 K N) p f).map .int := by
          rw [List.map_map]
          rfl
        rw [e]
        refine f_sum ?_
        simp [sizeLine_eq]
        exact ⟨ha, hr⟩
    · simp
      exact q
theorem nd_ok {K : Bk6} {N : List Int} (g : GB K) (gn : GN K N) {f : Nat} (hf : f ∈ fls K N) : 0 ≤ nd K N f ∧ nd K N f ≤ 6 * (1000000000000000000000000000000 * 64) := by
  obtain ⟨hf1, hf2⟩ := List.mem_filter.mp hf
  have gr := gn.gr g
  have hfp : pwk (kat K f) = lst0 K N := of_decide_eq_true hf2
  have t6 := thr_len (N := N) g
  have h := sum_bd (l := thr K N) (f := fun p => num N p * bh K (lst0 K N) p f) (c := 1000000000000000000000000000000 * 64) fun p hp => by
    have hb := bh_ok (m := lst0 K N) g (gr.ok p hp) (gr.ok f hf1) hfp.symm
    have hn := num_ok gn p
    exact ⟨Int.mul_nonneg hn.1 hb.1, Int.mul_le_mul hn.2 (by omega) hb.1 (by omega)⟩
  unfold nd
  omega
/-! ### the law's own -/
theorem turns_go {K : Bk6} {a b f p : Nat} {E : Es} {M : Mem} {r m al : Int} {x y z : Option T} (g : GB K) (hf : f < K.length) (hm : 0 < al) (ok : fw (rm K f) r al < 64 ∧ ((fw (rm K f) r al : Int) * rm K f - r) % al = 0 ∧ ∀ i : Nat, i < fw (rm K f) r al → ((i : Int) * rm K f - r) % al ≠ 0)
    (done : E.nx [some (.d (bkD K)), some (.int (f : Int)), x, y, z, some (.int al), some (.int r), some (.int (fw (rm K f) r al : Int))] M) : ∀ (d k : Nat), k + d = fw (rm K f) r al →
    ∃ u, goWh (bAnd (mTest (mOp (oEq true) (mOp oMod (mCall fInt (aCons (mOp oSub (mOp oMul (mVar 7) (mCall (fDef Pl.d__law_room) (aCons (mOp oIx (mVar 0) (mVar 1)) aNil))) (mVar 6)) aNil)) (mVar 5)) (mC (.int 0)))) (mTest (mOp oLt (mVar 7) (mC (.int 64))))) Pn.b__law_turns_0 E u [some (.d (bkD K)), some (.int (f : Int)), x, y, z, some (.int al), some (.int r), some (.int (k : Int))] M := by
  have gf := (kat_ok g hf).1
  intro d
  induction d with
  | zero =>
    intro k hk
    refine ⟨1, ?_⟩
    have e : k = fw (rm K f) r al := by omega
    rw [e]
    unfold goWh
    simp
    refine bk_ix g hf ?_
    simp
    refine sp_law_room gf ?_
    simp
    refine ⟨by unfold CMul; omega, hm, ?_⟩
    exact .inl ⟨ok.2.1, done⟩
  | succ d ih =>
    intro k hk
    obtain ⟨u, hu⟩ := ih (k + 1) (by omega)
    refine ⟨u + 1, ?_⟩
    unfold goWh
    simp
    refine bk_ix g hf ?_
    simp
    refine sp_law_room gf ?_
    simp
    refine ⟨by unfold CMul; omega, hm, ?_⟩
    refine .inr ⟨ok.2.2 k (by omega), ?_⟩
    have e : ((k + 1 : Nat) : Int) = (k : Int) + 1 := by omega
    rw [e] at hu
    exact .inr ⟨by omega, hu⟩
theorem sp_turns {K : Bk6} {p f : Nat} {D : List Cell} {Q : T → List Cell → Prop} (g : GB K) (hp : p < K.length) (hf : f < K.length) (q : Q (.int (bh K (pwk (kat K f)) p f)) D) : Pn.d__law_turns [.d (bkD K), .int (f : Int), .int (p : Int), .int (pwk (kat K f))] D Q := by
  have gf := (kat_ok g hf).1
  have gp := (kat_ok g hp).1
  have h1 := rm_ok g hf
  have h2 := lk_ok g hp
  have h3 := gp.2.pos
  have h4 := pwk_ok gf
  have hd : 0 ≤ lk K p / pwk (kat K f) ∧ lk K p / pwk (kat K f) ≤ lk K p := ⟨Int.ediv_nonneg (by unfold lk; omega) (by omega), Int.ediv_le_self _ (by unfold lk; omega)⟩
  refine ⟨rfl, w_seq ?_⟩
  simp
  refine bk_ix g hp (g_kd (w_seq ?_))
  simp
  refine bk_ix g hp ?_
  simp
  refine sp_law_room gp ?_
  simp
  have e3 : rup (kat K p).1 (kat K p).2 - (kat K p).1 = lk K p := rfl
  rw [e3]
  refine ⟨by unfold CDvW; omega, by unfold CMul lk at *; omega, ?_⟩
  refine w_seq ?_
  have ok := fw_ok (fw_ex (s := rm K f) (c := lk K p / pwk (kat K f)) (m := pwk (kat K f)) (a := (kat K p).2) (by omega) rfl gp.2)
  exact turns_go (a := 0) (b := 0) (p := 0) (m := 0) g hf (by omega) ok (by simp; exact q) (fw (rm K f) (pwk (kat K f) * (lk K p / pwk (kat K f))) (kat K p).2) 0 (by omega)
end Pl

set_option Elab.async false
set_option linter.all false
set_option maxRecDepth 100000
namespace Pl
open PySem PySem.Spec L2 L3 Sh

/-! ### level books -/
structure Lv (K : Bk6) (m : Int) : Prop where
  ok : ∀ i, i < K.length → lk K i < m ∧ m ≤ pwk (kat K i)
theorem rup_near {s r c : Int} (h : 0 < c) (d : c ∣ r) (h1 : s ≤ r) (h2 : r - s < c) : rup s c = r := by
  have h3 := rup_least h h1 d
  have h4 := rup_le (n := s) (m := c) h
  have h5 : c ∣ r - rup s c := Int.dvd_sub d rup_dvd
  have h6 := Int.emod_eq_zero_of_dvd h5
  rw [Int.emod_eq_of_lt (by omega) (by omega)] at h6
  omega
theorem pw_dvd {a b x y : Nat} (ha : ∃ j, a = 2 ^ j) (hb : ∃ j, b = 2 ^ j) (h : a ≤ b) : a ∣ b := by
  obtain ⟨j, rfl⟩ := ha
  obtain ⟨k, rfl⟩ := hb
  exact Nat.pow_dvd_pow 2 ((Nat.pow_le_pow_iff_right (by omega)).mp h)
theorem low_pw {n : Nat} (h : 0 < n) : ∃ j, lowN n = 2 ^ j := by
  obtain ⟨j, o, h1, _, _⟩ := low_parts h
  exact ⟨j, h1⟩
theorem lst_low {K : Bk6} {N : List Int} (g : GB K) (gn : GN K N) : ∃ i ∈ thr K N, lst0 K N = pwk (kat K i) := by
  have ko := kth_ok g gn
  obtain ⟨k, hk, e⟩ := List.mem_map.mp (mn_mem (l := (kth K N).map pwk) (by simpa using ko.2.1))
  obtain ⟨i, hi, rfl⟩ := List.mem_map.mp hk
  exact ⟨i, hi, e.symm⟩
theorem lst_le {K : Bk6} {N : List Int} {i : Nat} (h : i ∈ thr K N) : lst0 K N ≤ pwk (kat K i) := by
  unfold lst0 un
  refine mn_le (List.mem_map_of_mem ?_)
  exact List.mem_map_of_mem h
theorem lst_dvd {K : Bk6} {N : List Int} (g : GB K) (gn : GN K N) {i : Nat} (h : i ∈ thr K N) : lst0 K N ∣ rm K i := by
  have gr := gn.gr g
  obtain ⟨j, hj, e⟩ := lst_low g gn
  have hi' := gr.ok i h
  have hj' := gr.ok j hj
  have r1 := rm_ok g hi'
  have r2 := rm_ok g hj'
  have h1 := lst_le h
  rw [e] at h1 ⊢
  rw [pwk_low] at h1 ⊢
  rw [pwk_low] at h1
  have d1 : lowN (rm K j).toNat ∣ lowN (rm K i).toNat := pw_dvd (x := 0) (y := 0) (low_pw (by omega)) (low_pw (by omega)) (by omega)
  have d2 := (low_pos (n := (rm K i).toNat) (by omega)).2.2
  have d3 := Int.natCast_dvd_natCast.mpr (Nat.dvd_trans d1 d2)
  rwa [Int.toNat_of_nonneg (by omega)] at d3
theorem rm_dvd {K : Bk6} (i : Nat) : (kat K i).2 ∣ rm K i := rup_dvd
theorem lv_lst {K : Bk6} {N : List Int} {m : Int} (g : GB K) (gn : GN K N) (l : Lv K m) : m ≤ lst0 K N := by
  obtain ⟨j, hj, e⟩ := lst_low g gn
  rw [e]
  exact (l.ok j ((gn.gr g).ok j hj)).2
theorem fl_lv {K : Bk6} {N : List Int} {m : Int} (g : GB K) (gn : GN K N) (l : Lv K m) : fl K N = due K N := by
  have gr := gn.gr g
  unfold fl due tot
  congr 2
  refine List.map_congr_left fun i hi => ?_
  have hi' := List.mem_range.mp hi
  unfold fl0
  by_cases hz : 0 < num N i
  · have ht : i ∈ thr K N := thr_mem.mpr ⟨hi', hz⟩
    congr 1
    have h1 := lk_ok g hi'
    have h2 := (l.ok i hi').1
    have h3 := lv_lst g gn l
    have h4 := min_ok g gn hi'
    refine rup_near h4.1 ?_ (by omega) ?_
    · rcases Int.le_total (kat K i).2 (lst0 K N) with q | q
      · rw [Int.min_eq_left q]
        exact rm_dvd i
      · rw [Int.min_eq_right q]
        exact lst_dvd g gn ht
    · unfold lk at h2
      omega
  · have := num_ok gn i
    have e : num N i = 0 := by omega
    rw [e, Int.zero_mul, Int.zero_mul]
theorem fw_zero (s a : Int) : fw s 0 a = 0 := by
  unfold fw
  have : (List.range 64).find? (fun (n : Nat) => decide (((n : Int) * s - 0) % a = 0)) = some 0 := by
    have e : List.range 64 = 0 :: (List.range 63).map Nat.succ := List.range_succ_eq_map
    rw [e, List.find?_cons_of_pos]
    simp
  rw [this]
  rfl
theorem bh_zero {K : Bk6} {m : Int} {p f : Nat} (h0 : 0 ≤ lk K p) (h : lk K p < m) : bh K m p f = 0 := by
  unfold bh
  rw [Int.ediv_eq_zero_of_lt h0 h, Int.mul_zero, fw_zero]
  rfl
theorem nd_lv {K : Bk6} {N : List Int} {m : Int} (g : GB K) (gn : GN K N) (l : Lv K m) (f : Nat) : nd K N f = 0 := by
  unfold nd
  have e : (thr K N).map (fun p => num N p * bh K (lst0 K N) p f) = (thr K N).map fun _ => (0 : Int) := by
    refine List.map_congr_left fun p hp => ?_
    have hp' := (gn.gr g).ok p hp
    have h1 := lk_ok g hp'
    have h2 := (l.ok p hp').1
    have h3 := lv_lst g gn l
    rw [bh_zero (by unfold lk; omega) (by omega), Int.mul_zero]
  rw [e, sum_const]
  simp
theorem shr_lv {K : Bk6} {m : Int} (g : GB K) (l : Lv K m) : shr K = Lk K := by
  unfold shr
  have e : (Lk K).map (fun x => x % un K) = (Lk K).map id := by
    refine List.map_congr_left fun x hx => ?_
    obtain ⟨i, hi, rfl⟩ := List.mem_map.mp hx
    have hi' := List.mem_range.mp hi
    have h1 := lk_ok g hi'
    have h2 := (l.ok i hi').1
    have h3 : m ≤ un K := by
      obtain ⟨k, hk, e⟩ := List.mem_map.mp (mn_mem (l := K.map pwk) (by simpa using g.ne))
      obtain ⟨j, hj, rfl⟩ := List.getElem_of_mem hk
      have := (l.ok j hj).2
      unfold un
      rw [← e]
      unfold kat at this
      rwa [List.getD_eq_getElem?_getD, List.getElem?_eq_getElem hj] at this
    unfold lk at h2
    exact Int.emod_eq_of_lt h1.1 (by omega)
  rw [e, List.map_id]
/-! ### other orders of the kinds -/
def pK (K : Bk6) (f : List Nat) : Bk6 := f.map (kat K)
def pN (N : List Int) (f : List Nat) : List Int := f.map (num N)
theorem pK_at {K : Bk6} {f : List Nat} {i : Nat} (h : i < f.length) : kat (pK K f) i = kat K f[i] := by
  unfold pK
  conv => lhs; unfold kat
  rw [List.getD_eq_getElem?_getD, List.getElem?_map, List.getElem?_eq_getElem h]
  rfl
theorem pN_at {N : List Int} {f : List Nat} {i : Nat} (h : i < f.length) : num (pN N f) i = num N f[i] := by
  unfold pN
  conv => lhs; unfold num
  rw [List.getD_eq_getElem?_getD, List.getElem?_map, List.getElem?_eq_getElem h]
  rfl
theorem map_get {α : Type} {f : List Nat} {g h : Nat → α} (e : ∀ i, (hi : i < f.length) → g i = h f[i]) : (List.range f.length).map g = f.map h := by
  refine List.ext_getElem (by simp) fun i h1 h2 => ?_
  have hi : i < f.length := by simpa using h2
  simp [e i hi]
theorem perm_sum {l r : List Int} (h : l.Perm r) : l.sum = r.sum := by
  induction h with
  | nil => rfl
  | cons x _ ih => simp [ih]
  | swap x y l => simp; omega
  | trans _ _ ih1 ih2 => exact ih1.trans ih2
section
variable {K : Bk6} {N : List Int} {f : List Nat} {m : Int} (g : GB K) (gn : GN K N) (hp : f.Perm (List.range K.length))
include hp in
theorem pf_len : f.length = K.length := by
  have := hp.length_eq
  simpa using this
include hp in
theorem pf_lt {i : Nat} (h : i < f.length) : f[i] < K.length := List.mem_range.mp (hp.mem_iff.mp (List.getElem_mem h))
include g hp in
theorem pK_gb : GB (pK K f) := by
  have hl := pf_len hp
  refine ⟨?_, by simp [pK]; have := g.six; omega, fun k hk => ?_⟩
  · intro z
    have := congrArg List.length z
    simp [pK] at this
    have h2 := List.length_pos_iff.mpr g.ne
    rw [this] at hl
    simp at hl
    omega
  · obtain ⟨i, hi, rfl⟩ := List.mem_map.mp hk
    exact (kat_ok g (List.mem_range.mp (hp.mem_iff.mp hi))).1
include gn hp in
theorem pN_gn : GN (pK K f) (pN N f) := by
  have hl := pf_len hp
  refine ⟨by simp [pK, pN], fun n hn => ?_, ?_⟩
  · obtain ⟨i, hi, rfl⟩ := List.mem_map.mp hn
    exact num_ok gn i
  · obtain ⟨n, hn, h0⟩ := gn.pos
    obtain ⟨i, hi, rfl⟩ := List.getElem_of_mem hn
    refine ⟨num N i, List.mem_map_of_mem (hp.mem_iff.mpr (List.mem_range.mpr (by rw [← gn.len]; exact hi))), ?_⟩
    rw [num_at hi]
    exact h0
include hp in
theorem pK_lv (l : Lv K m) : Lv (pK K f) m := by
  refine ⟨fun i hi => ?_⟩
  have hi' : i < f.length := by simpa [pK] using hi
  have := l.ok f[i] (pf_lt hp hi')
  unfold lk rm at this ⊢
  rw [pK_at hi']
  exact this
include g gn hp in
theorem due_perm : due (pK K f) (pN N f) = due K N := by
  have hl := pf_len hp
  have gp := pK_gb g hp
  have gp2 := pN_gn gn hp
  have e1 : tot (pK K f) (pN N f) = tot K N := by
    unfold tot
    have : (pK K f).length = f.length := by simp [pK]
    rw [this, map_get (h := fun j => num N j * rm K j) fun i hi => by unfold rm; rw [pN_at hi, pK_at hi]]
    exact perm_sum (hp.map _)
  have e2 : mx (als (pK K f) (thr (pK K f) (pN N f))) = mx (als K (thr K N)) := by
    refine mx_uniq ?_ fun y hy => ?_
    · have := mx_mem (als_ne (gp2.gr gp))
      obtain ⟨i, hi, e⟩ := List.mem_map.mp this
      obtain ⟨h1, h2⟩ := thr_mem.mp hi
      have hi' : i < f.length := by simpa [pK] using h1
      rw [← e, pK_at hi']
      refine List.mem_map_of_mem (f := fun i => (kat K i).2) (thr_mem.mpr ⟨pf_lt hp hi', ?_⟩)
      rwa [pN_at hi'] at h2
    · obtain ⟨j, hj, rfl⟩ := List.mem_map.mp hy
      obtain ⟨h1, h2⟩ := thr_mem.mp hj
      obtain ⟨i, hi, rfl⟩ := List.getElem_of_mem (hp.mem_iff.mpr (List.mem_range.mpr h1))
      have : (kat K f[i]).2 = (kat (pK K f) i).2 := by rw [pK_at hi]
      rw [this]
      refine mx_ge (List.mem_map_of_mem (f := fun i => (kat (pK K f) i).2) (thr_mem.mpr ⟨by simpa [pK] using hi, ?_⟩))
      rwa [pN_at hi]
  unfold due
  rw [e1, e2]
end
end Pl

set_option Elab.async false
set_option linter.all false
set_option maxRecDepth 100000
namespace Pl
open PySem PySem.Spec L2 L3 Sh
theorem low_two : ∀ (k : Nat) {n : Nat}, 0 < n → 2 ^ k ∣ n → 2 ^ k ≤ lowN n
  | 0, n, h, _ => (low_pos h).1
  | k + 1, n, h, d => by
    obtain ⟨c, hc⟩ := d
    have e : n = 2 * (2 ^ k * c) := by rw [hc, Nat.pow_succ, Nat.mul_comm (2 ^ k) 2, Nat.mul_assoc]
    have e2 : n / 2 = 2 ^ k * c := by omega
    rw [low_even (by omega) h, Nat.pow_succ]
    have := low_two k (n := n / 2) (by omega) ⟨c, e2⟩
    omega
/-- a power of two to 128 -/
def Bl (a : Int) : Prop := ∃ j : Nat, j ≤ 7 ∧ a = ((2 ^ j : Nat) : Int)
theorem Bl.pos {a : Int} (h : Bl a) : 1 ≤ a ∧ a ≤ 128 := by
  obtain ⟨j, hj, rfl⟩ := h
  have h1 : 1 ≤ 2 ^ j := Nat.one_le_two_pow
  have h2 : 2 ^ j ≤ 2 ^ 7 := Nat.pow_le_pow_right (by omega) hj
  omega
theorem al_bl {a : Int} (h : Al a) : Bl a := by
  obtain ⟨k, hk, rfl⟩ := al_pow h
  exact ⟨k, by omega, rfl⟩
theorem Bl.dvd {a b : Int} (h : Bl a) (g : Bl b) (q : a ≤ b) : a ∣ b := by
  obtain ⟨j, _, rfl⟩ := h
  obtain ⟨k, _, rfl⟩ := g
  exact Int.natCast_dvd_natCast.mpr (pw_dvd (x := 0) (y := 0) ⟨j, rfl⟩ ⟨k, rfl⟩ (by omega))
def LvK (k : Int × Int) (m : Int) : Prop := rup k.1 k.2 - k.1 < m ∧ m ≤ pwk k
theorem lvK {s m b t x : Int} (hs : Al s) (hm : Bl m) (hb : b = max s m) (t1 : 1 ≤ t) (hbt : b * t ≤ 1000000000000000000000000000000) (hb2 : b ≤ b * t) (x0 : 0 ≤ x) (x1 : x < min s m) : GK (b * t - x, s) ∧ LvK (b * t - x, s) m := by
  have sp := hs.pos
  have mp := hm.pos
  have bb : Bl b := by
    rcases Int.le_total s m with q | q
    · rw [hb, Int.max_eq_right q]; exact hm
    · rw [hb, Int.max_eq_left q]; exact al_bl hs
  have d1 : s ∣ b * t := Int.dvd_trans ((al_bl hs).dvd bb (by omega)) ⟨t, rfl⟩
  have e : rup (b * t - x) s = b * t := rup_near (by omega) d1 (by omega) (by omega)
  refine ⟨⟨⟨by show 1 ≤ b * t - x; omega, by show b * t - x ≤ _; omega⟩, hs⟩, ?_, ?_⟩
  · show rup (b * t - x) s - (b * t - x) < m
    omega
  · show m ≤ ((lowN (rup (b * t - x) s).toNat : Nat) : Int)
    rw [e]
    obtain ⟨j, hj, ej⟩ := bb
    have d2 : 2 ^ j ∣ (b * t).toNat := by
      refine Int.natCast_dvd_natCast.mp ?_
      rw [Int.toNat_of_nonneg (by omega)]
      exact ⟨t, by rw [ej]⟩
    have := low_two j (n := (b * t).toNat) (by omega) d2
    omega
theorem lv_of {K : Bk6} {m : Int} (h : ∀ k ∈ K, LvK k m) : Lv K m := by
  refine ⟨fun i hi => ?_⟩
  have e : kat K i = K[i] := by
    unfold kat
    rw [List.getD_eq_getElem?_getD, List.getElem?_eq_getElem hi]
    rfl
  have := h _ (List.getElem_mem hi)
  unfold lk rm
  rw [e]
  exact this
end Pl

set_option Elab.async false
set_option linter.all false
set_option maxRecDepth 100000
namespace Pl
open PySem PySem.Spec L2 L3 Sh

/-! ### the floor: no row is below it, and a row that reaches it -/
def Pw (m : Int) : Prop := ∃ j : Nat, m = ((2 ^ j : Nat) : Int)
theorem Pw.pos {m : Int} (h : Pw m) : 1 ≤ m := by
  obtain ⟨j, rfl⟩ := h
  have : 1 ≤ 2 ^ j := Nat.one_le_two_pow
  omega
theorem Pw.dvd {a b : Int} (h : Pw a) (g : Pw b) (q : a ≤ b) : a ∣ b := by
  obtain ⟨j, rfl⟩ := h
  obtain ⟨k, rfl⟩ := g
  exact Int.natCast_dvd_natCast.mpr (pw_dvd (x := 0) (y := 0) ⟨j, rfl⟩ ⟨k, rfl⟩ (by omega))
theorem al_pw {a : Int} (h : Al a) : Pw a := by
  obtain ⟨k, _, rfl⟩ := al_pow h
  exact ⟨k, rfl⟩
theorem pw_min {a b : Int} (h : Pw a) (g : Pw b) : Pw (min a b) := by
  rcases Int.le_total a b with q | q
  · rw [Int.min_eq_left q]; exact h
  · rw [Int.min_eq_right q]; exact g
theorem pwk_pw {k : Int × Int} (g : GK k) : Pw (pwk k) := by
  have := rup_pos g
  obtain ⟨j, e⟩ := low_pw (n := (rup k.1 k.2).toNat) (by omega)
  exact ⟨j, by unfold pwk; rw [e]⟩
theorem lst_pw {K : Bk6} {N : List Int} (g : GB K) (gn : GN K N) : Pw (lst0 K N) := by
  obtain ⟨i, hi, e⟩ := lst_low g gn
  rw [e]
  exact pwk_pw (kat_ok g ((gn.gr g).ok i hi)).1
def tm (K : Bk6) (m : Int) (i : Nat) : Int := rup (kat K i).1 (min (kat K i).2 m)
theorem up_step {a s m q e : Int} (ha : Al a) (pq : Pw q) (hq : q ≤ m) (hqa : q = m ∨ a ≤ q) (dR : q ∣ rup s a) : rup e q + rup s (min a m) ≤ rup (rup e a + s) q := by
  have ap := ha.pos
  have qp := pq.pos
  have h1 := (rup_le (n := e) (m := a) (by omega)).1
  have h2 := (rup_le (n := rup e a + s) (m := q) (by omega)).1
  have dX : q ∣ rup (rup e a + s) q := rup_dvd
  rcases Int.lt_or_le q a with z | z
  · have e1 : q = m := by omega
    rw [Int.min_eq_right (by omega), ← e1]
    have da : q ∣ rup e a := Int.dvd_trans (pq.dvd (al_pw ha) (by omega)) rup_dvd
    have h3 := rup_least (n := e) (m := q) (by omega) h1 da
    have h4 := rup_least (n := s) (m := q) (x := rup (rup e a + s) q - rup e a) (by omega) (by omega) (Int.dvd_sub dX da)
    omega
  · rw [Int.min_eq_left (by omega)]
    have da : a ∣ rup (rup e a + s) q := Int.dvd_trans ((al_pw ha).dvd pq z) dX
    have h4 := rup_least (n := s) (m := a) (x := rup (rup e a + s) q - rup e a) (by omega) (by omega) (Int.dvd_sub da rup_dvd)
    have h5 := rup_least (n := e) (m := q) (x := rup (rup e a + s) q - rup s a) (by omega) (by omega) (Int.dvd_sub dX dR)
    omega
theorem rend_lo {K : Bk6} (g : GB K) {m q : Int} (pq : Pw q) (hq : q ≤ m) : ∀ (r : List Nat) (e : Int), (∀ i ∈ r, i < K.length ∧ q ∣ rm K i ∧ (q = m ∨ (kat K i).2 ≤ q)) → rup e q + (r.map (tm K m)).sum ≤ rup (rend K r e) q
  | [], e, _ => by simp [rend]
  | i :: r, e, h => by
    obtain ⟨h1, h2, h3⟩ := h i List.mem_cons_self
    have ih := rend_lo g pq hq r (sfin K i e) fun j hj => h j (List.mem_cons_of_mem _ hj)
    have := up_step (e := e) (s := (kat K i).1) (kat_ok g h1).1.2 pq hq h3 h2
    rw [List.map_cons, List.sum_cons]
    show _ ≤ rup (rend K r (sfin K i e)) q
    unfold tm sfin at *
    omega
theorem sum_one (f : Nat → Int) (i : Nat) : ∀ n, ((List.range n).map fun p => if i = p then f p else 0).sum = if i < n then f i else 0
  | 0 => by simp
  | n + 1 => by
    rw [List.range_succ, List.map_append, List.sum_append, sum_one f i n]
    by_cases h : i = n
    · subst h; simp
    · by_cases h2 : i < n
      · simp [h2, h, show i < n + 1 by omega]
      · simp [h2, h, show ¬ i < n + 1 by omega]
theorem sum_add {α : Type} (l : List α) (f g : α → Int) : (l.map fun x => f x + g x).sum = (l.map f).sum + (l.map g).sum := by
  induction l with
  | nil => simp
  | cons a l ih =>
    simp only [List.map_cons, List.sum_cons, ih]
    omega
theorem sum_mul {α : Type} (c : Int) (f : α → Int) (l : List α) : (l.map fun x => f x * c).sum = (l.map f).sum * c := by
  induction l with
  | nil => simp
  | cons a l ih =>
    simp only [List.map_cons, List.sum_cons, ih, Int.add_mul]
theorem sum_count {n : Nat} (f : Nat → Int) : ∀ {r : List Nat}, (∀ i ∈ r, i < n) → ((List.range n).map fun p => ((r.count p : Nat) : Int) * f p).sum = (r.map f).sum
  | [], _ => by
    have : ∀ p ∈ List.range n, (((([] : List Nat).count p : Nat)) : Int) * f p = 0 := fun p hp => by simp
    rw [List.map_congr_left this, sum_const]
    simp
  | i :: r, h => by
    have ih := sum_count f (r := r) fun j hj => h j (List.mem_cons_of_mem _ hj)
    have : ∀ p ∈ List.range n, (((i :: r).count p : Nat) : Int) * f p = (if i = p then f p else 0) + ((r.count p : Nat) : Int) * f p := fun p hp => by
      rw [List.count_cons]
      by_cases z : i = p
      · simp [z, Int.add_mul]; omega
      · simp [z]
    rw [List.map_congr_left this, sum_add, sum_one, if_pos (h i List.mem_cons_self), ih, List.map_cons, List.sum_cons]
/-- a row has the fields of a record -/
def Ct (K : Bk6) (N : List Int) (r : List Nat) : Prop := ∀ i, i < K.length → ((r.count i : Nat) : Int) = num N i
theorem ct_thr {K : Bk6} {N : List Int} {r : List Nat} (gr : ∀ i ∈ r, i < K.length) (c : Ct K N r) (i : Nat) : i ∈ r ↔ i ∈ thr K N := by
  rw [thr_mem]
  constructor
  · intro h
    have := List.count_pos_iff.mpr h
    have := c i (gr i h)
    exact ⟨gr i h, by omega⟩
  · rintro ⟨h1, h2⟩
    have := c i h1
    exact List.count_pos_iff.mp (by omega)
theorem ct_mx {K : Bk6} {N : List Int} {r : List Nat} (ne : r ≠ []) (gr : ∀ i ∈ r, i < K.length) (c : Ct K N r) : mx (als K r) = mx (als K (thr K N)) := by
  have h : als K r ≠ [] := by simpa [als] using ne
  refine mx_uniq ?_ fun y hy => ?_
  · obtain ⟨i, hi, e⟩ := List.mem_map.mp (mx_mem h)
    have e' : (kat K i).2 = mx (als K r) := e
    rw [← e']
    exact List.mem_map_of_mem (f := fun i => (kat K i).2) ((ct_thr gr c i).mp hi)
  · obtain ⟨i, hi, rfl⟩ := List.mem_map.mp hy
    exact mx_ge (List.mem_map_of_mem (f := fun i => (kat K i).2) ((ct_thr gr c i).mpr hi))
theorem ct_sum {K : Bk6} {N : List Int} {r : List Nat} (gr : ∀ i ∈ r, i < K.length) (c : Ct K N r) : (r.map (tm K (lst0 K N))).sum = ((List.range K.length).map (fl0 K N)).sum := by
  rw [← sum_count _ gr]
  congr 1
  refine List.map_congr_left fun i hi => ?_
  rw [c i (List.mem_range.mp hi)]
  rfl
/-- no row is below the floor -/
theorem fl_lo {K : Bk6} {N : List Int} {r : List Nat} (g : GB K) (gn : GN K N) (ne : r ≠ []) (gr : ∀ i ∈ r, i < K.length) (c : Ct K N r) : fl K N ≤ whole K r := by
  have gt := gn.gr g
  have at_ := als_al g gt
  have ap := at_.pos
  have pm := lst_pw g gn
  have pq := pw_min pm (al_pw at_)
  have h := rend_lo g (m := lst0 K N) pq (Int.min_le_left _ _) r 0 fun i hi => by
    have ht := (ct_thr gr c i).mp hi
    refine ⟨gr i hi, Int.dvd_trans (pq.dvd pm (Int.min_le_left _ _)) (lst_dvd g gn ht), ?_⟩
    have : (kat K i).2 ≤ mx (als K (thr K N)) := mx_ge (List.mem_map_of_mem (f := fun i => (kat K i).2) ht : (kat K i).2 ∈ als K (thr K N))
    omega
  rw [ct_sum gr c] at h
  unfold fl whole
  rw [ct_mx ne gr c]
  have qp := pq.pos
  have d : min (lst0 K N) (mx (als K (thr K N))) ∣ mx (als K (thr K N)) := pq.dvd (al_pw at_) (Int.min_le_right _ _)
  have h2 := rup_least (n := rend K r 0) (m := min (lst0 K N) (mx (als K (thr K N)))) (x := rup (rend K r 0) (mx (als K (thr K N)))) (by omega) (rup_le (by omega)).1 (Int.dvd_trans d rup_dvd)
  have h3 := (rup_le (n := 0) (m := min (lst0 K N) (mx (als K (thr K N)))) (by omega)).1
  exact rup_least (by omega) (by omega) rup_dvd

/-! ### a row that reaches it -/
theorem tm_fill {K : Bk6} {m : Int} {f : Nat} (g : GB K) (hf : f < K.length) (hm : m = pwk (kat K f)) : (kat K f).2 ∣ m ∧ tm K m f = rm K f := by
  have gf := (kat_ok g hf).1
  have ap := gf.2.pos
  have h0 := rup_pos gf
  obtain ⟨k, hk, e⟩ := al_pow gf.2
  have d : 2 ^ k ∣ (rup (kat K f).1 (kat K f).2).toNat := by
    refine Int.natCast_dvd_natCast.mp ?_
    rw [Int.toNat_of_nonneg (by omega), ← e]
    exact rup_dvd
  have h1 := low_two k (n := (rup (kat K f).1 (kat K f).2).toNat) (by omega) d
  have h2 : (kat K f).2 ≤ m := by rw [hm]; unfold pwk; omega
  refine ⟨(al_pw gf.2).dvd (hm ▸ pwk_pw gf) h2, ?_⟩
  unfold tm rm
  rw [Int.min_eq_left h2]
theorem fill_up {K : Bk6} {f : Nat} {P : Int} (g : GB K) (hf : f < K.length) (dP : (kat K f).2 ∣ P) : ∀ (n : Nat) {e : Int}, e ≤ P → rend K (List.replicate n f) e ≤ P + (n : Int) * rm K f
  | 0, e, h => by simpa [rend] using h
  | n + 1, e, h => by
    have ap := (kat_ok g hf).1.2.pos
    have h1 := rup_least (n := e) (m := (kat K f).2) (by omega) h dP
    have h2 : sfin K f e ≤ P + rm K f := by
      have := (rup_le (n := (kat K f).1) (m := (kat K f).2) (by omega)).1
      unfold sfin rm
      omega
    have ih := fill_up (P := P + rm K f) g hf (Int.dvd_add dP (rm_dvd f)) n (e := sfin K f e) h2
    rw [List.replicate_succ]
    show rend K (List.replicate n f) (sfin K f e) ≤ _
    have : ((n + 1 : Nat) : Int) * rm K f = (n : Int) * rm K f + rm K f := by rw [Int.natCast_succ, Int.add_mul]; omega
    omega
/-- how far one field of p with its fillers leads -/
def st (K : Bk6) (m : Int) (p f : Nat) : Int := tm K m p + bh K m p f * rm K f
theorem st_dvd {K : Bk6} {m : Int} {p f : Nat} (g : GB K) (hp : p < K.length) (hf : f < K.length) (hm : m = pwk (kat K f)) (dm : m ∣ rm K p) (df : m ∣ rm K f) : m ∣ st K m p f ∧ (kat K p).2 ∣ st K m p f := by
  have gp := (kat_ok g hp).1
  have ap := gp.2.pos
  have l0 := lk_ok g hp
  have pm : Pw m := hm ▸ pwk_pw (kat_ok g hf).1
  have mp := pm.pos
  rcases Int.lt_or_le m (kat K p).2 with z | z
  · have e : tm K m p = rm K p - m * (lk K p / m) := by
      unfold tm
      rw [Int.min_eq_right (by omega)]
      have e1 := Int.mul_ediv_add_emod (lk K p) m
      have e2 := Int.emod_nonneg (lk K p) (show m ≠ 0 by omega)
      have e3 := Int.emod_lt_of_pos (lk K p) (show 0 < m by omega)
      refine rup_near (by omega) (Int.dvd_sub dm ⟨_, rfl⟩) ?_ ?_
      · unfold lk at *; omega
      · unfold lk at *; omega
    have ok := fw_ok (fw_ex (s := rm K f) (c := lk K p / m) (m := m) (a := (kat K p).2) (by have := rm_ok g hf; omega) hm gp.2)
    have d := Int.dvd_of_emod_eq_zero ok.2.1
    have e4 : st K m p f = rm K p + (bh K m p f * rm K f - m * (lk K p / m)) := by
      unfold st
      rw [e]
      omega
    refine ⟨?_, ?_⟩
    · rw [e4]
      exact Int.dvd_add dm (Int.dvd_sub (Int.dvd_trans df (Int.dvd_mul_left _ _)) ⟨_, rfl⟩)
    · rw [e4]
      exact Int.dvd_add (rm_dvd p) d
  · have e0 : bh K m p f = 0 := bh_zero (by unfold lk; omega) (by unfold lk; omega)
    have e1 : tm K m p = rm K p := by
      unfold tm rm
      rw [Int.min_eq_left z]
    unfold st
    rw [e0, e1, Int.zero_mul, Int.add_zero]
    exact ⟨dm, rm_dvd p⟩
def blk (K : Bk6) (m : Int) (p f : Nat) : List Nat := p :: List.replicate (bh K m p f).toNat f
theorem blk_up {K : Bk6} {m : Int} {p f : Nat} {P e : Int} (g : GB K) (hp : p < K.length) (hf : f < K.length) (hm : m = pwk (kat K f)) (dm : m ∣ rm K p) (h : e ≤ P) (dP : m ∣ P) (da : (kat K p).2 ∣ P) : rend K (blk K m p f) e ≤ P + st K m p f := by
  have gp := (kat_ok g hp).1
  have ap := gp.2.pos
  have pm : Pw m := hm ▸ pwk_pw (kat_ok g hf).1
  have mp := pm.pos
  have b0 := bh_ok (m := m) g hp hf hm
  have h1 := rup_least (n := e) (m := (kat K p).2) (by omega) h da
  have dt : (kat K f).2 ∣ tm K m p := by
    refine Int.dvd_trans (tm_fill g hf hm).1 ?_
    unfold tm
    rcases Int.le_total (kat K p).2 m with q | q
    · rw [Int.min_eq_left q]; exact dm
    · rw [Int.min_eq_right q]; exact rup_dvd
  have h2 : sfin K p e ≤ P + tm K m p := by
    have mpos : 0 < min (kat K p).2 m := by omega
    have := (rup_le (n := (kat K p).1) (m := min (kat K p).2 m) mpos).1
    unfold sfin tm
    omega
  have := fill_up (P := P + tm K m p) g hf (Int.dvd_add (Int.dvd_trans (tm_fill g hf hm).1 dP) dt) (bh K m p f).toNat h2
  show rend K (List.replicate (bh K m p f).toNat f) (sfin K p e) ≤ _
  rw [Int.toNat_of_nonneg b0.1] at this
  unfold st
  omega
theorem rep_up {K : Bk6} {m : Int} {p f : Nat} (g : GB K) (hp : p < K.length) (hf : f < K.length) (hm : m = pwk (kat K f)) (dm : m ∣ rm K p) (df : m ∣ rm K f) : ∀ (n : Nat) {P e : Int}, e ≤ P → m ∣ P → (kat K p).2 ∣ P → rend K (List.replicate n (blk K m p f)).flatten e ≤ P + (n : Int) * st K m p f
  | 0, P, e, h, _, _ => by simpa [rend] using h
  | n + 1, P, e, h, dP, da => by
    have d := st_dvd g hp hf hm dm df
    have h1 := blk_up g hp hf hm dm h dP da
    have ih := rep_up g hp hf hm dm df n (P := P + st K m p f) h1 (Int.dvd_add dP d.1) (Int.dvd_add da d.2)
    rw [List.replicate_succ, List.flatten_cons, rend_app]
    have : ((n + 1 : Nat) : Int) * st K m p f = (n : Int) * st K m p f + st K m p f := by rw [Int.natCast_succ, Int.add_mul]; omega
    omega
/-- pieces written out -/
def wrt (ps : List (List Nat × Int)) : List Nat := (ps.map fun p => (List.replicate p.2.toNat p.1).flatten).flatten
theorem wrt_app (a b : List (List Nat × Int)) : wrt (a ++ b) = wrt a ++ wrt b := by
  unfold wrt
  rw [List.map_append, List.flatten_append]
def fps (K : Bk6) (N : List Int) (f : Nat) (L : List Nat) : List (List Nat × Int) := L.map fun p => (blk K (lst0 K N) p f, num N p)
theorem fps_up {K : Bk6} {N : List Int} {f : Nat} (g : GB K) (gn : GN K N) (hf : f ∈ fls K N) : ∀ (L : List Nat) {P e : Int}, (∀ p ∈ L, p ∈ thr K N) → L.Pairwise (fun x y => (kat K y).2 ≤ (kat K x).2) → e ≤ P → lst0 K N ∣ P → (∀ p ∈ L, (kat K p).2 ∣ P) →
    rend K (wrt (fps K N f L)) e ≤ P + (L.map fun p => num N p * st K (lst0 K N) p f).sum ∧ lst0 K N ∣ P + (L.map fun p => num N p * st K (lst0 K N) p f).sum
  | [], P, e, _, _, h, dP, _ => by simpa [rend, fps, wrt] using ⟨h, dP⟩
  | p :: L, P, e, hL, hs, h, dP, da => by
    have gt := gn.gr g
    obtain ⟨hf1, hf2⟩ := List.mem_filter.mp hf
    have hf2 := of_decide_eq_true hf2
    have hp := hL p List.mem_cons_self
    have n0 := num_ok gn p
    have dp := lst_dvd g gn hp
    have d := st_dvd g (gt.ok p hp) (gt.ok f hf1) hf2.symm dp (lst_dvd g gn hf1)
    have h1 := rep_up g (gt.ok p hp) (gt.ok f hf1) hf2.symm dp (lst_dvd g gn hf1) (num N p).toNat h dP (da p List.mem_cons_self)
    rw [Int.toNat_of_nonneg n0.1] at h1
    obtain ⟨hs1, hs2⟩ := List.pairwise_cons.mp hs
    have dd : (kat K p).2 ∣ P + num N p * st K (lst0 K N) p f := Int.dvd_add (da p List.mem_cons_self) (Int.dvd_trans d.2 (Int.dvd_mul_left _ _))
    have ih := fps_up g gn hf L (P := P + num N p * st K (lst0 K N) p f) (fun q hq => hL q (List.mem_cons_of_mem _ hq)) hs2 h1 (Int.dvd_add dP (Int.dvd_trans d.1 (Int.dvd_mul_left _ _))) fun q hq =>
      Int.dvd_trans ((kat_al g q).1.dvd (kat_al g p).1 (hs1 q hq)) dd
    rw [List.map_cons, List.sum_cons, ← Int.add_assoc]
    refine ⟨?_, ih.2⟩
    show rend K (wrt ((blk K (lst0 K N) p f, num N p) :: fps K N f L)) e ≤ _
    show rend K ((List.replicate (num N p).toNat (blk K (lst0 K N) p f)).flatten ++ wrt (fps K N f L)) e ≤ _
    rw [rend_app]
    exact ih.1
/-- what is left of the fillers -/
def lft (K : Bk6) (N : List Int) (f : Nat) (L : List Nat) : Int := num N f - (L.map fun p => bh K (lst0 K N) p f * num N p).sum
def flp (K : Bk6) (N : List Int) (f : Nat) (L : List Nat) : List (List Nat × Int) := fps K N f L ++ if 0 < lft K N f L then [([f], lft K N f L)] else []
structure Fa (K : Bk6) (N : List Int) (f : Nat) (L : List Nat) : Prop where
  perm : L.Perm ((thr K N).filter fun p => decide (p ≠ f))
  fall : L.Pairwise fun x y => (kat K y).2 ≤ (kat K x).2
theorem bh_self {K : Bk6} {N : List Int} {f : Nat} (g : GB K) (gn : GN K N) (hf : f ∈ fls K N) : bh K (lst0 K N) f f = 0 := by
  obtain ⟨hf1, hf2⟩ := List.mem_filter.mp hf
  have hf2 := of_decide_eq_true hf2
  have l0 := lk_ok g ((gn.gr g).ok f hf1)
  have := tm_fill g ((gn.gr g).ok f hf1) hf2.symm
  have := Int.le_of_dvd (by have := lst_pos g gn; omega) this.1
  exact bh_zero (by unfold lk; omega) (by unfold lk; omega)
theorem sum_perm {l m : List Nat} (f : Nat → Int) (h : l.Perm m) : (l.map f).sum = (m.map f).sum := by
  induction h with
  | nil => rfl
  | cons x _ ih => simp [ih]
  | swap x y l => simp; omega
  | trans _ _ a b => exact a.trans b
theorem sum_less {f : Nat} (F : Nat → Int) : ∀ {l : List Nat}, l.Nodup → f ∈ l → ((l.filter fun p => decide (p ≠ f)).map F).sum + F f = (l.map F).sum
  | a :: l, nd, h => by
    obtain ⟨n1, n2⟩ := List.nodup_cons.mp nd
    rcases List.mem_cons.mp h with z | z
    · subst z
      have : (l.filter fun p => decide (p ≠ f)) = l := List.filter_eq_self.mpr fun x hx => by
        refine decide_eq_true ?_
        intro z
        exact n1 (z ▸ hx)
      rw [List.filter_cons, if_neg (by simp), this, List.map_cons, List.sum_cons]
      omega
    · have ne : a ≠ f := fun q => n1 (q ▸ z)
      rw [List.filter_cons, if_pos (by simpa using ne), List.map_cons, List.sum_cons, List.map_cons, List.sum_cons]
      have := sum_less F n2 z
      omega
theorem thr_nd (K : Bk6) (N : List Int) : (thr K N).Nodup := List.Nodup.sublist List.filter_sublist List.nodup_range
theorem Fa.sum {K : Bk6} {N : List Int} {f : Nat} {L : List Nat} (h : Fa K N f L) (hf : f ∈ fls K N) (F : Nat → Int) : (L.map F).sum + F f = ((thr K N).map F).sum := by
  rw [sum_perm F h.perm]
  exact sum_less F (thr_nd K N) (List.mem_filter.mp hf).1
theorem lft_nd {K : Bk6} {N : List Int} {f : Nat} {L : List Nat} (g : GB K) (gn : GN K N) (hf : f ∈ fls K N) (h : Fa K N f L) : lft K N f L = num N f - nd K N f := by
  have := h.sum hf fun p => num N p * bh K (lst0 K N) p f
  simp only [bh_self g gn hf, Int.mul_zero, Int.add_zero] at this
  unfold lft nd
  rw [← this]
  congr 3
  funext p
  exact Int.mul_comm _ _
theorem Fa.mem {K : Bk6} {N : List Int} {f : Nat} {L : List Nat} (h : Fa K N f L) {p : Nat} : p ∈ L ↔ p ∈ thr K N ∧ p ≠ f := by
  rw [h.perm.mem_iff, List.mem_filter]
  simp
theorem flp_up {K : Bk6} {N : List Int} {f : Nat} {L : List Nat} (g : GB K) (gn : GN K N) (hf : f ∈ fls K N) (h : Fa K N f L) (en : nd K N f ≤ num N f) : rend K (wrt (flp K N f L)) 0 ≤ ((List.range K.length).map (fl0 K N)).sum := by
  have gt := gn.gr g
  obtain ⟨hf1, hf2⟩ := List.mem_filter.mp hf
  have hf2 := of_decide_eq_true hf2
  have fl' := gt.ok f hf1
  have tf := tm_fill g fl' hf2.symm
  have h1 := fps_up g gn hf L (P := 0) (e := 0) (fun p hp => (h.mem.mp hp).1) h.fall (Int.le_refl _) (Int.dvd_zero _) fun p _ => Int.dvd_zero _
  have hl := lft_nd g gn hf h
  have e1 : (L.map fun p => num N p * st K (lst0 K N) p f).sum = (L.map (fl0 K N)).sum + (L.map fun p => bh K (lst0 K N) p f * num N p).sum * rm K f := by
    rw [← sum_mul, ← sum_add]
    congr 1
    refine List.map_congr_left fun p _ => ?_
    show _ = num N p * tm K (lst0 K N) p + _
    unfold st
    rw [Int.mul_add, ← Int.mul_assoc, Int.mul_comm (num N p) (bh K (lst0 K N) p f)]
  have e2 := h.sum hf (fl0 K N)
  rw [fl_thr gn] at e2
  have e3 : fl0 K N f = num N f * rm K f := by
    show num N f * tm K (lst0 K N) f = _
    rw [tf.2]
  have e4 : lft K N f L * rm K f = num N f * rm K f - (L.map fun p => bh K (lst0 K N) p f * num N p).sum * rm K f := by
    unfold lft
    rw [Int.sub_mul]
  have r1 := rm_ok g fl'
  unfold flp
  rw [wrt_app, rend_app]
  by_cases z : 0 < lft K N f L
  · rw [if_pos z]
    have := fill_up (P := 0 + (L.map fun p => num N p * st K (lst0 K N) p f).sum) g fl' (Int.dvd_trans tf.1 h1.2) (lft K N f L).toNat h1.1
    have e5 : wrt [([f], lft K N f L)] = List.replicate (lft K N f L).toNat f := by
      simp [wrt]
    rw [e5]
    rw [Int.toNat_of_nonneg (by omega)] at this
    omega
  · rw [if_neg z]
    have z0 : lft K N f L = 0 := by omega
    rw [z0, Int.zero_mul] at e4
    show rend K (wrt (fps K N f L)) 0 ≤ _
    have := h1.1
    omega
/-! ### the fields of pieces -/
def flds (ps : List (List Nat × Int)) (i : Nat) : Int := (ps.map fun p => p.2 * ((p.1.count i : Nat) : Int)).sum
theorem count_rep (r : List Nat) (i : Nat) : ∀ n : Nat, ((List.replicate n r).flatten.count i : Int) = (n : Int) * ((r.count i : Nat) : Int)
  | 0 => by simp
  | n + 1 => by
    rw [List.replicate_succ, List.flatten_cons, List.count_append, Int.natCast_add, count_rep r i n, Int.natCast_succ, Int.add_mul]
    omega
theorem count_wrt (i : Nat) : ∀ ps : List (List Nat × Int), (∀ p ∈ ps, 0 ≤ p.2) → (((wrt ps).count i : Nat) : Int) = flds ps i
  | [], _ => by simp [wrt, flds]
  | p :: ps, h => by
    have ih := count_wrt i ps fun q hq => h q (List.mem_cons_of_mem _ hq)
    show ((((List.replicate p.2.toNat p.1).flatten ++ wrt ps).count i : Nat) : Int) = p.2 * ((p.1.count i : Nat) : Int) + flds ps i
    rw [List.count_append, Int.natCast_add, ih, count_rep, Int.toNat_of_nonneg (h p List.mem_cons_self)]
theorem flds_app (a b : List (List Nat × Int)) (i : Nat) : flds (a ++ b) i = flds a i + flds b i := by
  unfold flds
  rw [List.map_append, List.sum_append]
theorem lft_nn {K : Bk6} {N : List Int} {f : Nat} {L : List Nat} (g : GB K) (gn : GN K N) (hf : f ∈ fls K N) (h : Fa K N f L) (en : nd K N f ≤ num N f) : 0 ≤ lft K N f L := by
  rw [lft_nd g gn hf h]
  omega
theorem flds_left {K : Bk6} {N : List Int} {f : Nat} {L : List Nat} (h : 0 ≤ lft K N f L) (i : Nat) : flds (if 0 < lft K N f L then [([f], lft K N f L)] else []) i = if f = i then lft K N f L else 0 := by
  split
  · unfold flds
    by_cases z : f = i
    · simp [z]
    · simp [z]
  · have : lft K N f L = 0 := by omega
    simp [flds, this]
theorem flds_flp {K : Bk6} {N : List Int} {f : Nat} {L : List Nat} (g : GB K) (gn : GN K N) (hf : f ∈ fls K N) (h : Fa K N f L) (en : nd K N f ≤ num N f) {i : Nat} (hi : i < K.length) : flds (flp K N f L) i = num N i := by
  have ln := lft_nn g gn hf h en
  unfold flp
  rw [flds_app, flds_left ln]
  have bl : ∀ p, ((blk K (lst0 K N) p f).count i : Int) = (if p = i then 1 else 0) + (if f = i then ((bh K (lst0 K N) p f).toNat : Int) else 0) := by
    intro p
    unfold blk
    rw [List.count_cons, List.count_replicate]
    by_cases z : f = i
    · by_cases y : p = i
      · simp [z, y]; omega
      · simp [z, y]
    · by_cases y : p = i
      · simp [z, y]
      · simp [z, y]
  by_cases z : f = i
  · subst z
    rw [if_pos rfl]
    have e : flds (fps K N f L) f = (L.map fun p => bh K (lst0 K N) p f * num N p).sum := by
      unfold flds fps
      rw [List.map_map]
      congr 1
      refine List.map_congr_left fun p hp => ?_
      have hp2 := h.mem.mp hp
      have b0 := bh_ok (m := lst0 K N) g ((gn.gr g).ok p hp2.1) hi (of_decide_eq_true (List.mem_filter.mp hf).2).symm
      show num N p * (((blk K (lst0 K N) p f).count f : Nat) : Int) = _
      rw [bl, if_neg hp2.2, if_pos rfl, Int.toNat_of_nonneg b0.1, Int.zero_add, Int.mul_comm]
    rw [e]
    unfold lft
    omega
  · rw [if_neg z, Int.add_zero]
    have e : flds (fps K N f L) i = (L.map fun p => if i = p then num N p else 0).sum := by
      unfold flds fps
      rw [List.map_map]
      congr 1
      refine List.map_congr_left fun p hp => ?_
      show num N p * (((blk K (lst0 K N) p f).count i : Nat) : Int) = _
      rw [bl, if_neg z, Int.add_zero]
      by_cases y : p = i
      · subst y; simp
      · rw [if_neg y, if_neg (fun q => y q.symm), Int.mul_zero]
    rw [e]
    have h2 := h.sum hf fun p => if i = p then num N p else 0
    simp only [if_neg (fun q : i = f => z q.symm), Int.add_zero] at h2
    rw [h2]
    unfold thr
    rw [sum_filter, sum_one, if_pos hi]
    intro x hx hp
    have hp := of_decide_eq_false hp
    have := num_ok gn x
    split
    · omega
    · rfl
theorem flp_ok {K : Bk6} {N : List Int} {f : Nat} {L : List Nat} (g : GB K) (gn : GN K N) (hf : f ∈ fls K N) (h : Fa K N f L) (en : nd K N f ≤ num N f) : ∀ p ∈ flp K N f L, 1 ≤ p.2 ∧ p.2 ≤ 1000000000000000000000000000000 ∧ p.1 ≠ [] ∧ p.1.length ≤ 65 ∧ ∀ i ∈ p.1, i ∈ thr K N := by
  intro p hp
  have hf1 := (List.mem_filter.mp hf).1
  rcases List.mem_append.mp hp with z | z
  · obtain ⟨q, hq, rfl⟩ := List.mem_map.mp z
    have hq2 := (h.mem.mp hq).1
    have b0 := bh_ok (m := lst0 K N) g ((gn.gr g).ok q hq2) ((gn.gr g).ok f hf1) (of_decide_eq_true (List.mem_filter.mp hf).2).symm
    have n0 := num_ok gn q
    have n1 := (thr_mem.mp hq2).2
    refine ⟨by show 1 ≤ num N q; omega, n0.2, by simp [blk], by simp [blk]; omega, fun i hi => ?_⟩
    rcases List.mem_cons.mp hi with y | y
    · rw [y]; exact hq2
    · rw [List.eq_of_mem_replicate y]; exact hf1
  · split at z
    · rename_i hl
      rw [List.mem_singleton.mp z]
      have n0 := num_ok gn f
      have s0 : 0 ≤ nd K N f := by
        unfold nd
        refine (sum_pos ?_).1
        intro x hx
        obtain ⟨y, hy, rfl⟩ := List.mem_map.mp hx
        have b0 := bh_ok (m := lst0 K N) g ((gn.gr g).ok y hy) ((gn.gr g).ok f hf1) (of_decide_eq_true (List.mem_filter.mp hf).2).symm
        exact Int.mul_nonneg (num_ok gn y).1 b0.1
      have e := lft_nd g gn hf h
      refine ⟨by show 1 ≤ lft K N f L; omega, by show lft K N f L ≤ _; omega, by simp, by simp, fun i hi => ?_⟩
      rw [List.mem_singleton.mp hi]
      exact hf1
    · cases z
theorem wrt_mem {ps : List (List Nat × Int)} {i : Nat} (h : i ∈ wrt ps) : ∃ p ∈ ps, i ∈ p.1 := by
  unfold wrt at h
  obtain ⟨l, hl, hi⟩ := List.mem_flatten.mp h
  obtain ⟨p, hp, rfl⟩ := List.mem_map.mp hl
  obtain ⟨r, hr, hi⟩ := List.mem_flatten.mp hi
  rw [List.eq_of_mem_replicate hr] at hi
  exact ⟨p, hp, hi⟩
theorem flp_ct {K : Bk6} {N : List Int} {f : Nat} {L : List Nat} (g : GB K) (gn : GN K N) (hf : f ∈ fls K N) (h : Fa K N f L) (en : nd K N f ≤ num N f) : Ct K N (wrt (flp K N f L)) := fun i hi => by
  rw [count_wrt i _ fun p hp => by have := (flp_ok g gn hf h en p hp).1; omega]
  exact flds_flp g gn hf h en hi
theorem ct_ne {K : Bk6} {N r : _} (gn : GN K N) (c : Ct K N r) : r ≠ [] := by
  rintro rfl
  obtain ⟨n, hn, pos⟩ := gn.pos
  obtain ⟨i, hi, rfl⟩ := List.getElem_of_mem hn
  have := c i (by have := gn.len; omega)
  rw [num_at hi] at this
  simp at this
  omega
/-- the pieces reach the floor -/
theorem flp_whole {K : Bk6} {N : List Int} {f : Nat} {L : List Nat} (g : GB K) (gn : GN K N) (hf : f ∈ fls K N) (h : Fa K N f L) (en : nd K N f ≤ num N f) : whole K (wrt (flp K N f L)) = fl K N := by
  have c := flp_ct g gn hf h en
  have gr : ∀ i ∈ wrt (flp K N f L), i < K.length := fun i hi => by
    obtain ⟨p, hp, hi⟩ := wrt_mem hi
    exact (gn.gr g).ok i ((flp_ok g gn hf h en p hp).2.2.2.2 i hi)
  have ne := ct_ne gn c
  refine Int.le_antisymm ?_ (fl_lo g gn ne gr c)
  unfold whole fl
  rw [ct_mx ne gr c]
  have := (als_al g (gn.gr g)).pos
  exact rup_mono (by omega) (flp_up g gn hf h en)
/-- some order of the kinds but one, by falling alignments -/
theorem fa_ex (K : Bk6) (N : List Int) (f : Nat) : ∃ L, Fa K N f L := by
  refine ⟨((thr K N).filter fun p => decide (p ≠ f)).mergeSort fun x y => decide ((kat K y).2 ≤ (kat K x).2), List.mergeSort_perm _ _, ?_⟩
  have := List.pairwise_mergeSort (le := fun x y => decide ((kat K y).2 ≤ (kat K x).2)) (fun a b c h1 h2 => by simp at *; omega) (fun a b => by simp; omega) ((thr K N).filter fun p => decide (p ≠ f))
  exact this.imp fun h => of_decide_eq_true h
theorem row_ex {K : Bk6} {N : List Int} {f : Nat} (g : GB K) (gn : GN K N) (hf : f ∈ fls K N) (en : nd K N f ≤ num N f) : ∃ r, (∀ i ∈ r, i < K.length) ∧ Ct K N r ∧ whole K r = fl K N := by
  obtain ⟨L, h⟩ := fa_ex K N f
  refine ⟨wrt (flp K N f L), fun i hi => ?_, flp_ct g gn hf h en, flp_whole g gn hf h en⟩
  obtain ⟨p, hp, hi⟩ := wrt_mem hi
  exact (gn.gr g).ok i ((flp_ok g gn hf h en p hp).2.2.2.2 i hi)
end Pl

set_option Elab.async false
set_option linter.all false
set_option maxRecDepth 100000
namespace Pz
open PySem PySem.Spec L2 L3
abbrev d__law_draw : FD := Pl.d__law_draw
abbrev b__law_few_0 : Ms := (mLPut (mVar 3) (mVar 5) (mOp oAdd (mOp oIx (mVar 3) (mVar 5)) (mC (.int 1))))
abbrev b__law_few_1 : Ms := (mSeq (mSet 5 (mCall (fDef d__law_draw) (aCons (mVar 0) (aCons (mVar 1) aNil)))) b__law_few_0)
abbrev b__law_few_2 : Ms := (mRet (mCall fTuple (aCons (mVar 3) aNil)))
abbrev b__law_few_3 : Ms := (mSeq (mFor (iRange (aCons (mOp oAdd (mC (.int 1)) (mCall (fDef d__law_draw) (aCons (mVar 0) (aCons (mVar 2) aNil)))) aNil)) (gN 4) b__law_few_1) b__law_few_2)
abbrev b__law_few_4 : Ms := (mSeq (mSet 3 (mOp oMulL (mLst (aCons (mC (.int 0)) aNil)) (mVar 1))) b__law_few_3)
abbrev b__law_few : Ms := b__law_few_4
def d__law_few : FD := mDef 3 6 b__law_few
abbrev d__law_up : FD := Pl.d__law_up
abbrev b__law_end_0 : Ms := (mSet 2 (mOp oAdd (mCall (fDef d__law_up) (aCons (mVar 2) (aCons (mOp oIx (mOp oIx (mVar 0) (mVar 3)) (mC (.int 1))) aNil))) (mOp oIx (mOp oIx (mVar 0) (mVar 3)) (mC (.int 0)))))
abbrev b__law_end_1 : Ms := (mRet (mVar 2))
abbrev b__law_end_2 : Ms := (mSeq (mFor (iSeq (mVar 1)) (gN 3) b__law_end_0) b__law_end_1)
abbrev b__law_end : Ms := b__law_end_2
def d__law_end : FD := mDef 3 4 b__law_end
abbrev b__law_size_0 : Ms := (mRet (mCall (fDef d__law_up) (aCons (mCall (fDef d__law_end) (aCons (mVar 0) (aCons (mVar 1) (aCons (mC (.int 0)) aNil)))) (aCons (mCall fMax (aCons (mLc (iSeq (mVar 1)) (gN 2) bYes (mOp oIx (mOp oIx (mVar 0) (mVar 2)) (mC (.int 1))) [2]) aNil)) aNil))))
abbrev b__law_size : Ms := b__law_size_0
def d__law_size : FD := mDef 2 3 b__law_size
abbrev b__law_is_enough_0 : Ms := (mRet (mOp (oEq true) (mLc (iSeq (mVar 1)) (gTu 2 (gsCons (gN 2) (gsCons (gN 3) gsNil))) (mTest (mOp oGe (mOp oIx (mVar 0) (mVar 2)) (mVar 3))) (mC (.int 1)) [2, 3]) (mLst aNil)))
abbrev b__law_is_enough : Ms := b__law_is_enough_0
def d__law_is_enough : FD := mDef 2 4 b__law_is_enough
end Pz

set_option Elab.async false
set_option linter.all false
set_option maxRecDepth 100000
namespace Pl
open PySem PySem.Spec L2 L3 Sh

/-! ### what is needed, whether it is there; rows laid by the law -/
theorem bh0 {K : Bk6} {m : Int} {p f : Nat} (h0 : 0 ≤ lk K p) (h : lk K p < m) : bh K m p f = 0 := by
  unfold bh
  rw [Int.ediv_eq_zero_of_lt h0 h, Int.mul_zero]
  unfold fw
  have : (List.range 64).find? (fun (n : Nat) => decide (((n : Int) * rm K f - 0) % (kat K p).2 = 0)) = some 0 := by
    have e : List.range 64 = 0 :: (List.range 63).map Nat.succ := List.range_succ_eq_map
    rw [e, List.find?_cons_of_pos]
    simp
  rw [this]
  rfl
theorem sp_wanted {K : Bk6} {N : List Int} {D : List Cell} {Q : T → List Cell → Prop} (g : GB K) (gn : GN K N) (q : Q (.lst ((fls K N).map (pr K N))) D) : Pn.d__law_wanted [.d (bkD K), .d (recD N)] D Q := by
  have h6 := g.six
  have hl := gn.len
  have gr := gn.gr g
  have t6 := thr_len (N := N) g
  have eT : ((thr K N).map fun (i : Nat) => T.int (i : Int)) = ((thr K N).map ix).map T.d := by rw [List.map_map]; rfl
  have eL : (List.map (fun (i : Nat) => T.int (i : Int)) (thr K N)).length = (thr K N).length := by simp
  refine ⟨rfl, w_seq ?_⟩
  simp
  refine sp_measure g gn ?_
  refine w_seq (w_for ?_)
  simp
  refine sp_there g gn ?_
  simp
  rw [mapT]
  refine for_all (fun i τ M => ∃ u v w, M = ⟨D, [some (((thr K N).take i).filter (fun f => decide (pwk (kat K f) = lst0 K N)) |>.map (pr K N))]⟩ ∧ τ = [some (.d (bkD K)), some (.d (recD N)), some (.int (lst0 K N)), some (.lr 0), u, v, w]) ⟨_, _, _, rfl, rfl⟩ ?_ ?_
  · rintro i τ M t R ht ⟨u, v, w, rfl, rfl⟩ k
    rw [eT] at ht
    obtain ⟨f, hf, rfl, hi⟩ := row_at ht
    have fl := gr.ok f (List.mem_of_getElem? hf)
    have gf := (kat_ok g fl).1
    rw [take_snoc hf, List.filter_append, List.map_append] at k
    refine w_if ?_
    simp
    refine bk_ix g fl ?_
    simp
    refine sp_law_room gf ?_
    simp
    refine sp_law_power (by have := rup_pos gf; exact this) ?_
    have e : ((lowN (rup (kat K f).1 (kat K f).2).toNat : Nat) : Int) = pwk (kat K f) := rfl
    rw [e]
    simp
    by_cases hz : pwk (kat K f) = lst0 K N
    · refine .inr ⟨hz, w_seq ?_⟩
      simp
      refine w_seq (w_for ?_)
      simp
      refine sp_there g gn ?_
      simp
      rw [mapT]
      refine for_all (fun i2 τ M => ∃ w, M = ⟨D, [some (((thr K N).take i).filter (fun f => decide (pwk (kat K f) = lst0 K N)) |>.map (pr K N))]⟩ ∧ τ = [some (.d (bkD K)), some (.d (recD N)), some (.int (lst0 K N)), some (.lr 0), some (.int (f : Int)), some (.int (((thr K N).take i2).map fun p => num N p * bh K (lst0 K N) p f).sum), w]) ⟨_, rfl, rfl⟩ ?_ ?_
      · rintro i2 τ M t R2 ht2 ⟨w, rfl, rfl⟩ k2
        rw [eT] at ht2
        obtain ⟨p, hp, rfl, hi2⟩ := row_at ht2
        have pl := gr.ok p (List.mem_of_getElem? hp)
        have gp := (kat_ok g pl).1
        have hb := bh_ok (m := lst0 K N) g pl fl hz.symm
        rw [take_snoc hp, List.map_append, List.sum_append] at k2
        refine w_if ?_
        simp
        refine bk_ix g pl ?_
        simp
        refine sp_law_room gp ?_
        refine bk_ix g pl ?_
        simp
        have e3 : rup (kat K p).1 (kat K p).2 - (kat K p).1 = lk K p := rfl
        rw [e3]
        have h0 := lk_ok g pl
        by_cases hq : lst0 K N ≤ lk K p
        · refine .inr ⟨hq, ?_⟩
          refine rec_ix (by omega) ?_
          simp
          have st := fun Q q => sp_turns (K := K) (p := p) (f := f) (D := D) (Q := Q) g pl fl q
          rw [hz] at st
          refine st _ ?_
          simp
          refine ⟨by unfold CMul; omega, ?_⟩
          exact k2 _ _ ⟨some (.int (p : Int)), rfl, by simp⟩
        · refine .inl ⟨by omega, ?_⟩
          have e0 : bh K (lst0 K N) p f = 0 := bh0 (by unfold lk; omega) (by omega)
          exact k2 _ _ ⟨some (.int (p : Int)), rfl, by simp [e0]⟩
      · rintro τ M ⟨w, rfl, rfl⟩
        rw [eL, List.take_length]
        dsimp only
        simp [sizeLine_eq]
        have hlen := List.length_filter_le (fun f => decide (pwk (kat K f) = lst0 K N)) ((thr K N).take i)
        rw [List.length_take] at hlen
        refine ⟨by omega, ?_⟩
        refine k _ _ ⟨_, _, _, ?_, rfl⟩
        simp [hz, pr, nd]
    · refine .inl ⟨hz, ?_⟩
      refine k _ _ ⟨_, _, _, ?_, rfl⟩
      simp [hz]
  · rintro τ M ⟨u, v, w, rfl, rfl⟩
    rw [eL, List.take_length]
    dsimp only
    simp
    exact q

def enB (K : Bk6) (N : List Int) : Bool := (fls K N).any fun f => decide (nd K N f ≤ num N f)
theorem enB_ex {K : Bk6} {N : List Int} (h : enB K N = true) : ∃ f ∈ fls K N, nd K N f ≤ num N f := by
  obtain ⟨f, hf, h⟩ := List.any_eq_true.mp h
  exact ⟨f, hf, of_decide_eq_true h⟩
theorem mapI (l : List Int) : List.map (T.d ∘ PyData.int) l = (l.map PyData.int).map T.d := by rw [List.map_map]
theorem sp_enough {K : Bk6} {N : List Int} {D : List Cell} {Q : T → List Cell → Prop} (g : GB K) (gn : GN K N) (q : Q (.bl (enB K N)) D) : Pz.d__law_is_enough [.d (recD N), .lst ((fls K N).map (pr K N))] D Q := by
  have gt := gn.gr g
  have h6 := thr_len (N := N) g
  have fl6 : (fls K N).length ≤ 6 := Nat.le_trans (List.length_filter_le _ _) h6
  refine ⟨rfl, ?_⟩
  show Pz.b__law_is_enough_0 _ [some (.d (recD N)), some (.lst ((fls K N).map (pr K N))), none, none] _
  simp only [x_ret]
  refine (?_ : mLc _ _ _ _ _ _ _ _)
  rw [x_lc, x_iseq]
  refine ⟨_, rfl, ?_⟩
  show goLc _ _ _ [some (.d (recD N)), some (.lst ((fls K N).map (pr K N))), none, none] _ (((fls K N).map (pr K N)).map T.d) _ _
  rw [List.map_map]
  refine lc_pf (ts := fls K N) (fun f => decide (nd K N f ≤ num N f)) (fun _ => .int 1) (sz64' (by omega)) (fun f acc R hf ha hr => ?_) ?_
  · have f1 := gt.ok f (List.mem_filter.mp hf).1
    have hl := gn.len
    show gTu 2 (gsCons (gN 2) (gsCons (gN 3) gsNil)) (T.tup [.int (f : Int), .int (nd K N f)]) _ _ _
    rw [x_gtu]
    refine ⟨rfl, ?_⟩
    rw [x_gsc, x_gn, x_gsc, x_gn, x_gsn]
    refine ⟨rfl, ?_⟩
    rw [x_test]
    refine ⟨.d (recD N), rfl, .int (f : Int), rfl, rec_ix (by omega) ?_⟩
    refine ⟨.int (nd K N f), rfl, ?_⟩
    refine (?_ : oGe (.d (.int (num N f))) (.d (.int (nd K N f))) _ _)
    rw [x_ge]
    refine ⟨_, rfl, ?_⟩
    cases hb : decide (nd K N f ≤ num N f) with
    | true =>
      rw [hb] at hr
      exact ⟨ha, hr⟩
    | false =>
      rw [hb] at hr
      exact hr
  · refine (?_ : mLst aNil _ _ _)
    rw [x_lst]
    refine ⟨Nat.zero_le _, ?_⟩
    have e1 : ∀ l : List Nat, l.map (fun _ => PyData.int 1) = (l.map fun _ => (1 : Int)).map .int := fun l => by rw [List.map_map]; rfl
    rw [e1, x_eq (a := .list (List.map PyData.int _)) (b := .list []) rfl rfl (shaped_ints _) (shaped_ints []) (fun _ z => nomatch z), eqv_nil]
    refine ⟨rfl, ?_⟩
    have e2 : (!(List.map PyData.int (List.map (fun (_ : Nat) => (1 : Int)) ((fls K N).filter fun f => decide (nd K N f ≤ num N f)))).isEmpty) = enB K N := by
      unfold enB
      generalize fls K N = l
      induction l with
      | nil => rfl
      | cons a l ih =>
        rw [List.any_cons, List.filter_cons]
        cases decide (nd K N a ≤ num N a) with
        | true => simp
        | false => simpa using ih
    rw [if_pos rfl, e2]
    exact q
theorem sp_end {K : Bk6} {r : List Nat} {e : Int} {D : List Cell} {Q : T → List Cell → Prop} (g : GB K) (gr : ∀ i ∈ r, i < K.length) (q : Q (.int (rend K r e)) D) : Pz.d__law_end [.d (bkD K), .d (rowD r), .int e] D Q := by
  refine ⟨rfl, w_seq (w_for ?_)⟩
  show mVar 1 [some (.d (bkD K)), some (.d (rowD r)), some (.int e), none] _ _
  refine ⟨_, rfl, ?_⟩
  show goFor _ _ _ ((r.map ix).map T.d) _ _
  refine for_all (fun i τ M => M = ⟨D, []⟩ ∧ ∃ p, τ = [some (.d (bkD K)), some (.d (rowD r)), some (.int (rend K (r.take i) e)), p]) ⟨rfl, _, rfl⟩ ?_ ?_
  · rintro i τ M t R ht ⟨rfl, p, rfl⟩ k
    obtain ⟨j, hj, rfl, hi⟩ := row_at ht
    have jl := gr j (List.mem_of_getElem? hj)
    have a := (kat_ok g jl).1.2.pos
    rw [take_snoc hj, rend_snoc] at k
    rw [x_gn]
    show mSet 2 _ _ [some (.d (bkD K)), some (.d (rowD r)), some (.int (rend K (r.take i) e)), some (.int (j : Int))] _
    rw [x_set]
    refine ⟨_, rfl, .d (bkD K), rfl, .int (j : Int), rfl, bk_ix g jl ?_⟩
    refine ⟨_, at_1, ?_⟩
    refine ⟨by simp, sp_up (by omega) (by omega) ?_⟩
    refine ⟨.d (bkD K), rfl, .int (j : Int), rfl, bk_ix g jl ?_⟩
    refine ⟨_, at_0, ?_⟩
    exact k _ _ ⟨rfl, _, rfl⟩
  · rintro τ M ⟨rfl, p, rfl⟩
    rw [show ((r.map ix).map T.d).length = r.length by simp, List.take_length]
    exact ⟨_, rfl, rfl, q⟩
theorem sp_size {K : Bk6} {r : List Nat} {D : List Cell} {Q : T → List Cell → Prop} (g : GB K) (gr : GR K r) (q : Q (.int (whole K r)) D) : Pz.d__law_size [.d (bkD K), .d (rowD r)] D Q := by
  have ha := (als_al g gr).pos
  refine ⟨rfl, ?_⟩
  show Pz.b__law_size_0 _ [some (.d (bkD K)), some (.d (rowD r)), none] _
  simp only [x_ret, x_call, x_acons]
  refine ⟨.d (bkD K), rfl, .d (rowD r), rfl, (by simp), sp_end g gr.ok ?_⟩
  dsimp only
  rw [x_lc]
  refine ⟨_, rfl, ?_⟩
  show goLc _ _ _ [some (.d (bkD K)), some (.d (rowD r)), none] _ ((r.map ix).map T.d) _ _
  rw [List.map_map, mapT]
  refine lc_al g gr ?_
  simp only [x_anil]
  refine f_max (als_ne gr) ?_
  exact ⟨by simp, sp_up (by omega) (by omega) ⟨rfl, q⟩⟩

/-! ### a record of few fields -/
theorem sum_set : ∀ {N : List Int} {i : Nat} (h : i < N.length), (N.set i (N[i] + 1)).sum = N.sum + 1
  | a :: N, 0, _ => by simp; omega
  | a :: N, i + 1, h => by
    have := sum_set (N := N) (i := i) (by simpa using h)
    simp only [List.set_cons_succ, List.sum_cons, List.getElem_cons_succ]
    omega
theorem set_nn {N : List Int} {i : Nat} (h : i < N.length) (hn : ∀ n ∈ N, 0 ≤ n) : ∀ n ∈ N.set i (N[i] + 1), 0 ≤ n := by
  intro n hm
  rcases List.mem_or_eq_of_mem_set hm with z | z
  · exact hn n z
  · have := hn _ (List.getElem_mem h)
    omega
theorem mem_le_sum : ∀ {N : List Int}, (∀ n ∈ N, 0 ≤ n) → ∀ n ∈ N, n ≤ N.sum
  | a :: N, h, n, hm => by
    have h1 := h a List.mem_cons_self
    have h2 := (sum_pos fun x hx => h x (List.mem_cons_of_mem _ hx)).1
    rw [List.sum_cons]
    rcases List.mem_cons.mp hm with z | z
    · omega
    · have := mem_le_sum (fun x hx => h x (List.mem_cons_of_mem _ hx)) n z
      omega
theorem pos_ex : ∀ {N : List Int}, (∀ n ∈ N, 0 ≤ n) → 0 < N.sum → ∃ n ∈ N, 0 < n
  | [], _, h => by simp at h
  | a :: N, h, hs => by
    by_cases z : 0 < a
    · exact ⟨a, List.mem_cons_self, z⟩
    · rw [List.sum_cons] at hs
      obtain ⟨n, hn, hp⟩ := pos_ex (N := N) (fun x hx => h x (List.mem_cons_of_mem _ hx)) (by omega)
      exact ⟨n, List.mem_cons_of_mem _ hn, hp⟩
theorem ixN_nat {n i : Nat} (h : i < n) : ixN n (i : Int) = some i := by
  unfold ixN
  simp
  omega
theorem sp_few {K : Bk6} {most : Int} {D : List Cell} {Q : T → List Cell → Prop} (hD : RI D) (g : GB K) (h1 : 1 ≤ most) (h2 : most ≤ 64) (q : ∀ N D', GN K N → 1 ≤ N.sum → N.sum ≤ most → RI D' → Q (.d (recD N)) D') : Pz.d__law_few [.mr 1, .int (K.length : Int), .int most] D Q := by
  have h6 := g.six
  have hK : 1 ≤ K.length := List.length_pos_iff.mpr g.ne
  refine ⟨rfl, w_seq ?_⟩
  show mSet 3 (mOp oMulL (mLst (aCons (mC (.int 0)) aNil)) (mVar 1)) _ [some (.mr 1), some (.int (K.length : Int)), some (.int most), none, none, none] _
  rw [x_set]
  refine ⟨sz64' (by decide), _, rfl, ?_⟩
  dsimp only
  rw [x_mulL]
  refine ⟨⟨by omega, by omega, sz64' (by simp; omega)⟩, ?_⟩
  have e0 : (List.replicate (K.length : Int).toNat [PyData.int 0]).flatten = (List.replicate K.length (0 : Int)).map .int := by
    rw [Int.toNat_natCast]
    generalize K.length = n
    induction n with
    | zero => rfl
    | succ n ih => rw [List.replicate_succ, List.flatten_cons, ih]; rfl
  rw [e0]
  refine w_seq (w_for ?_)
  show iRange _ [some (.mr 1), some (.int (K.length : Int)), some (.int most), some (.lr 0), none, none] ⟨D, [some ((List.replicate K.length (0 : Int)).map .int)]⟩ _
  simp only [x_irange, x_acons, x_anil]
  refine ⟨.mr 1, rfl, .int most, rfl, (by simp), sp_draw hD (by omega) (by omega) fun d D1 d0 d1 hD1 => ?_⟩
  refine ⟨by omega, ?_⟩
  refine for_all (fun i τ M => ∃ (N : List Int) (D' : List Cell) (u v : Option T), M = ⟨D', [some (N.map .int)]⟩ ∧ RI D' ∧ (N.length = K.length ∧ (∀ n ∈ N, 0 ≤ n) ∧ N.sum = (i : Int)) ∧ τ = [some (.mr 1), some (.int (K.length : Int)), some (.int most), some (.lr 0), u, v])
    ⟨_, D1, _, _, rfl, hD1, ⟨by simp, fun n hn => by rw [List.eq_of_mem_replicate hn]; omega, by simp⟩, rfl⟩ ?_ ?_
  · rintro i τ M t R ht ⟨N, D', u, v, rfl, hD', ⟨n1, n2, n3⟩, rfl⟩ k
    obtain ⟨hi, rfl⟩ := range_at ht
    rw [x_gn]
    refine w_seq ?_
    show mSet 5 _ _ [some (.mr 1), some (.int (K.length : Int)), some (.int most), some (.lr 0), some (.int (i : Int)), v] _
    rw [x_set]
    refine ⟨.mr 1, rfl, _, rfl, (by simp), sp_draw hD' (by omega) (by omega) fun s D2 s0 s1 hD2 => ?_⟩
    obtain ⟨j, rfl⟩ : ∃ j : Nat, s = (j : Int) := ⟨s.toNat, by omega⟩
    have jl : j < N.length := by omega
    show Pz.b__law_few_0 _ [some (.mr 1), some (.int (K.length : Int)), some (.int most), some (.lr 0), some (.int (i : Int)), some (.int (j : Int))] ⟨D2, [some (N.map .int)]⟩
    refine (?_ : mLPut (mVar 3) (mVar 5) (mOp oAdd (mOp oIx (mVar 3) (mVar 5)) (mC (.int 1))) _ [some (.mr 1), some (.int (K.length : Int)), some (.int most), some (.lr 0), some (.int (i : Int)), some (.int (j : Int))] ⟨D2, [some (N.map .int)]⟩)
    rw [x_lput]
    have ea : atI (N.map PyData.int) (j : Int) = some (.int N[j]) := by rw [rec_at jl, num_at jl]
    refine ⟨.lr 0, rfl, .int (j : Int), rfl, _, ea, ?_⟩
    refine ⟨.lr 0, rfl, .int (j : Int), rfl, ?_⟩
    refine ⟨j, ixN_nat (by simpa using jl), ?_⟩
    have es : (N.map PyData.int).set j (.int (N[j] + 1)) = (N.set j (N[j] + 1)).map .int := by rw [List.map_set]
    rw [es]
    refine k _ _ ⟨_, D2, _, _, rfl, hD2, ⟨by simpa using n1, set_nn jl n2, ?_⟩, rfl⟩
    rw [sum_set jl, n3]
    omega
  · rintro τ M ⟨N, D', u, v, rfl, hD', ⟨n1, n2, n3⟩, rfl⟩
    rw [range_len] at n3
    have n4 : N.sum = 1 + d := by omega
    have gn : GN K N := ⟨n1, fun n hn => ⟨n2 n hn, by have := mem_le_sum n2 n hn; omega⟩, pos_ex n2 (by omega)⟩
    refine ⟨.lr 0, rfl, ?_⟩
    simp only [x_anil]
    exact ⟨rfl, q N D' gn (by omega) (by omega) hD'⟩
end Pl

set_option Elab.async false
set_option linter.all false
set_option maxRecDepth 100000
namespace Px
open PySem PySem.Spec L2 L3
abbrev d__law_up : FD := Pl.d__law_up
abbrev d__law_end : FD := Pz.d__law_end
abbrev d_places_there : FD := Pl.d_places_there
abbrev b_falling_places_0 : Ms := (mRet (mLc (iSeq (mVar 2)) (gTu 2 (gsCons (gN 4) (gsCons (gN 3) gsNil))) bYes (mVar 3) [4, 3]))
abbrev b_falling_places_1 : Ms := (mSeq (mSet 2 (mCall fSrtP (aCons (mLc (iSeq (mCall (fDef d_places_there) (aCons (mVar 1) aNil))) (gN 3) bYes (mTup (aCons (mUn oNeg (mOp oIx (mOp oIx (mVar 0) (mVar 3)) (mC (.int 1)))) (aCons (mVar 3) aNil))) [3]) aNil))) b_falling_places_0)
abbrev b_falling_places : Ms := b_falling_places_1
def d_falling_places : FD := mDef 2 5 b_falling_places
abbrev b__law_is_from_0 : Ms := (mRet (mAnd (mIsi "int" (mVar 0)) (mAnd (mNot (mIsi "bool" (mVar 0))) (mChain oLe oLe (mVar 1) (mVar 0) (mVar 2)))))
abbrev b__law_is_from : Ms := b__law_is_from_0
def d__law_is_from : FD := mDef 3 3 b__law_is_from
abbrev b__law_are_pieces_0 : Ms := (mRet (mC (.bool false)))
abbrev b__law_are_pieces_1 : Ms := (mRet (mC (.bool false)))
abbrev b__law_are_pieces_2 : Ms := (mRet (mC (.bool false)))
abbrev b__law_are_pieces_3 : Ms := (mRet (mC (.bool false)))
abbrev b__law_are_pieces_4 : Ms := (mIf (mTest (mOp (oEq true) (mLc (iSeq (mOp oIx (mVar 2) (mC (.int 0)))) (gN 3) (bNot (mTest (mCall (fDef d__law_is_from) (aCons (mVar 3) (aCons (mC (.int 0)) (aCons (mOp oSub (mCall fLen (aCons (mVar 0) aNil)) (mC (.int 1))) aNil)))))) (mC (.int 1)) [3]) (mLst aNil))) b__law_are_pieces_3 mNext)
abbrev b__law_are_pieces_5 : Ms := (mSeq (mIf (bOr (bNot (mTest (mChain oLe oLe (mC (.int 1)) (mCall fLen (aCons (mOp oIx (mVar 2) (mC (.int 0))) aNil)) (mC (.int 100))))) (bNot (mTest (mCall (fDef d__law_is_from) (aCons (mOp oIx (mVar 2) (mC (.int 1))) (aCons (mC (.int 1)) (aCons (mOp oPow (mC (.int 10)) (mC (.int 30))) aNil))))))) b__law_are_pieces_2 mNext) b__law_are_pieces_4)
abbrev b__law_are_pieces_6 : Ms := (mSeq (mIf (bOr (bNot (mTest (mIsi "tuple" (mVar 2)))) (bOr (mTest (mOp (oEq true) (mCall fLen (aCons (mVar 2) aNil)) (mC (.int 2)))) (bNot (mTest (mIsi "tuple" (mOp oIx (mVar 2) (mC (.int 0)))))))) b__law_are_pieces_1 mNext) b__law_are_pieces_5)
abbrev b__law_are_pieces_7 : Ms := (mRet (mC (.bool true)))
abbrev b__law_are_pieces_8 : Ms := (mSeq (mFor (iSeq (mVar 1)) (gN 2) b__law_are_pieces_6) b__law_are_pieces_7)
abbrev b__law_are_pieces_9 : Ms := (mSeq (mIf (bOr (bNot (mTest (mIsi "tuple" (mVar 1)))) (bNot (mTest (mChain oLe oLe (mC (.int 1)) (mCall fLen (aCons (mVar 1) aNil)) (mC (.int 20)))))) b__law_are_pieces_0 mNext) b__law_are_pieces_8)
abbrev b__law_are_pieces : Ms := b__law_are_pieces_9
def d__law_are_pieces : FD := mDef 2 4 b__law_are_pieces
abbrev b__law_fields_0 : Ms := (mLPut (mVar 2) (mVar 5) (mOp oAdd (mOp oIx (mVar 2) (mVar 5)) (mVar 4)))
abbrev b__law_fields_1 : Ms := (mFor (iSeq (mVar 3)) (gN 5) b__law_fields_0)
abbrev b__law_fields_2 : Ms := (mRet (mCall fTuple (aCons (mVar 2) aNil)))
abbrev b__law_fields_3 : Ms := (mSeq (mFor (iSeq (mVar 1)) (gTu 2 (gsCons (gN 3) (gsCons (gN 4) gsNil))) b__law_fields_1) b__law_fields_2)
abbrev b__law_fields_4 : Ms := (mSeq (mSet 2 (mOp oMulL (mLst (aCons (mC (.int 0)) aNil)) (mCall fLen (aCons (mVar 0) aNil)))) b__law_fields_3)
abbrev b__law_fields : Ms := b__law_fields_4
def d__law_fields : FD := mDef 2 6 b__law_fields
abbrev b__law_long_0 : Ms := (mPar3 2 8 7 (aCons (mOp oAdd (mVar 2) (mOp oMulW (mVar 11) (mOp oSub (mVar 2) (mOp oIx (mOp oDGet (mVar 7) (mVar 9)) (mC (.int 1)))))) (aCons (mOp oAdd (mVar 8) (mOp oMulW (mVar 11) (mVar 10))) (aCons mDNew aNil))))
abbrev b__law_long_1 : Ms := (mSeq (mSet 11 (mOp oDivW (mOp oSub (mVar 5) (mVar 8)) (mVar 10))) b__law_long_0)
abbrev b__law_long_2 : Ms := (mSeq (mSet 10 (mOp oSub (mVar 8) (mOp oIx (mOp oDGet (mVar 7) (mVar 9)) (mC (.int 0))))) b__law_long_1)
abbrev b__law_long_3 : Ms := (mPar 2 8 (aCons (mCall (fDef d__law_end) (aCons (mVar 0) (aCons (mVar 4) (aCons (mVar 2) aNil)))) (aCons (mOp oAdd (mVar 8) (mC (.int 1))) aNil)))
abbrev b__law_long_4 : Ms := (mSeq (mDPut (mVar 7) (mVar 9) (mTup (aCons (mVar 8) (aCons (mVar 2) aNil)))) b__law_long_3)
abbrev b__law_long_5 : Ms := (mIf (bAnd (mTest (mOp (oDIn false) (mVar 9) (mVar 7))) (mTest (mOp oGe (mOp oSub (mVar 5) (mVar 8)) (mOp oSub (mVar 8) (mOp oIx (mOp oDGet (mVar 7) (mVar 9)) (mC (.int 0))))))) b__law_long_2 b__law_long_4)
abbrev b__law_long_6 : Ms := (mSeq (mSet 9 (mOp oMod (mCall fInt (aCons (mVar 2) aNil)) (mC (.int 64)))) b__law_long_5)
abbrev b__law_long_7 : Ms := (mWhile (mTest (mOp oLt (mVar 8) (mVar 5))) b__law_long_6)
abbrev b__law_long_8 : Ms := (mSeq (mPar 7 8 (aCons mDNew (aCons (mC (.int 0)) aNil))) b__law_long_7)
abbrev b__law_long_9 : Ms := (mSeq (mSet 3 (mCall fMax (aCons (mOp oAdd (mLst (aCons (mVar 3) aNil)) (mLc (iSeq (mVar 4)) (gN 6) bYes (mOp oIx (mOp oIx (mVar 0) (mVar 6)) (mC (.int 1))) [6])) aNil))) b__law_long_8)
abbrev b__law_long_10 : Ms := (mRet (mCall (fDef d__law_up) (aCons (mVar 2) (aCons (mVar 3) aNil))))
abbrev b__law_long_11 : Ms := (mSeq (mFor (iSeq (mVar 1)) (gTu 2 (gsCons (gN 4) (gsCons (gN 5) gsNil))) b__law_long_9) b__law_long_10)
abbrev b__law_long_12 : Ms := (mSeq (mAsg (mTup (aCons (mC (.int 0)) (aCons (mC (.int 1)) aNil))) (gTu 2 (gsCons (gN 2) (gsCons (gN 3) gsNil)))) b__law_long_11)
abbrev b__law_long : Ms := b__law_long_12
def d__law_long : FD := mDefT 2 12 b__law_long
end Px

set_option Elab.async false
set_option linter.all false
set_option maxRecDepth 100000
namespace Pl
open PySem PySem.Spec L2 L3 Sh

theorem w_an {R : List T → Mem → Prop} {τ : En} {M : Mem} (h : R [] M) : aNil τ M R := h
theorem w_c {x : PyData} {τ : En} {M : Mem} {Q : Kt} (h : Q (.d x) M) : mC x τ M Q := h
theorem w_le {a b : Int} {M : Mem} {Q : Kt} (h : Q (.bl (decide (a ≤ b))) M) : oLe (.d (.int a)) (.d (.int b)) M Q := by
  rw [x_le]
  exact h
theorem w_leT {a b : Int} {M : Mem} {Q : Kt} (z : a ≤ b) (h : Q (.bl true) M) : oLe (.d (.int a)) (.d (.int b)) M Q := by
  rw [x_le, decide_eq_true z]
  exact h
theorem w_eqI {n : Bool} {a b : Int} {M : Mem} {Q : Kt} (h : Q (.bl (if n then !decide (a = b) else decide (a = b))) M) : oEq n (.d (.int a)) (.d (.int b)) M Q := by
  rw [x_eqi]
  exact h
theorem w_sub {a b : Int} {M : Mem} {Q : Kt} (h : Q (.int (a - b)) M) : oSub (.d (.int a)) (.d (.int b)) M Q := by
  rw [x_sub]
  exact h
/-! ### the kinds there, by falling alignments -/
def rkp (K : Bk6) (p : Nat) : Int × Int := (-(kat K p).2, (p : Int))
def leR (K : Bk6) (x y : Nat) : Bool := !SrtO.lexB (rkp K y) (rkp K x)
def fal (K : Bk6) (N : List Int) : List Nat := (thr K N).mergeSort (leR K)
theorem leR_iff {K : Bk6} {x y : Nat} : leR K x y = true ↔ ((kat K y).2 < (kat K x).2 ∨ ((kat K y).2 = (kat K x).2 ∧ x ≤ y)) := by
  unfold leR SrtO.lexB rkp
  simp only
  by_cases h : -(kat K y).2 = -(kat K x).2
  · rw [if_pos h]
    simp
    omega
  · rw [if_neg h]
    simp
    omega
theorem lex_anti {a b : Int × Int} (h : SrtO.lexB b a = false) (g : SrtO.lexB a b = false) : a = b := by
  obtain ⟨a1, a2⟩ := a
  obtain ⟨b1, b2⟩ := b
  unfold SrtO.lexB at h g
  simp only at h g
  by_cases e : b1 = a1
  · subst e
    rw [if_pos rfl] at h g
    simp at h g
    rw [show a2 = b2 by omega]
  · rw [if_neg e] at h
    rw [if_neg fun z => e z.symm] at g
    simp at h g
    omega
theorem fal_perm (K : Bk6) (N : List Int) : (fal K N).Perm (thr K N) := List.mergeSort_perm _ _
theorem fal_srt (K : Bk6) (N : List Int) : (fal K N).Pairwise fun x y => leR K x y = true :=
  List.pairwise_mergeSort (le := leR K) (fun a b c h1 h2 => by rw [leR_iff] at *; omega) (fun a b => by
    cases h : leR K a b with
    | true => rfl
    | false =>
      have h1 : ¬ leR K a b = true := by rw [h]; exact Bool.false_ne_true
      have h2 : leR K b a = true := by rw [leR_iff] at *; omega
      rw [h2]
      rfl) (thr K N)
theorem fal_fall (K : Bk6) (N : List Int) : (fal K N).Pairwise fun x y => (kat K y).2 ≤ (kat K x).2 :=
  (fal_srt K N).imp fun h => by rw [leR_iff] at h; omega
theorem fal_uniq {K : Bk6} {N : List Int} {out : List (Int × Int)} (h : out.Perm ((thr K N).map (rkp K))) (s : out.Pairwise fun x y => SrtO.lexB y x = false) : out = (fal K N).map (rkp K) := by
  refine List.Perm.eq_of_pairwise (le := fun x y => SrtO.lexB y x = false) (fun a b _ _ h1 h2 => lex_anti h1 h2) s ?_ (h.trans ((fal_perm K N).map _).symm)
  rw [List.pairwise_map]
  refine (fal_srt K N).imp fun h => ?_
  unfold leR at h
  simpa using h
theorem prs_at {ps : List (Int × Int)} {i : Nat} {t : T} (h : ((ps.map prI).map T.d)[i]? = some t) : ∃ p, ps[i]? = some p ∧ t = .tup [.int p.1, .int p.2] := by
  rw [List.getElem?_map, List.getElem?_map] at h
  cases q : ps[i]? with
  | none => rw [q] at h; cases h
  | some p =>
    rw [q] at h
    cases h
    exact ⟨p, rfl, rfl⟩
theorem tw_dd {i j : Nat} {x y : PyData} {τ : En} {M : Mem} {P : En → Mem → Prop} (h : P ((τ.set i (some (.d x))).set j (some (.d y))) M) : gTu 2 (gsCons (gN i) (gsCons (gN j) gsNil)) (T.tup [x, y]) τ M P := ⟨rfl, rfl, h⟩
theorem sp_falling {K : Bk6} {N : List Int} {D : List Cell} {Q : T → List Cell → Prop} (g : GB K) (gn : GN K N) (q : Q (.lst ((fal K N).map ix)) D) : Px.d_falling_places [.d (bkD K), .d (recD N)] D Q := by
  have h6 := thr_len (N := N) g
  have gt := gn.gr g
  refine ⟨rfl, ?_⟩
  show Px.b_falling_places_1 _ [some (.d (bkD K)), some (.d (recD N)), none, none, none] _
  refine w_seq ?_
  rw [x_set, x_call, x_acons, x_lc, x_iseq]
  refine ⟨.d (recD N), rfl, (by simp), sp_places g gn ?_⟩
  show goLc _ _ _ [some (.d (bkD K)), some (.d (recD N)), none, none, none] _ (((thr K N).map ix).map T.d) _ _
  rw [List.map_map]
  refine lc_pure (ts := thr K N) (fun p => prI (rkp K p)) (sz64' (by omega)) (fun p acc R hp ha hr => ?_) ?_
  · refine ⟨.d (bkD K), rfl, .int (p : Int), rfl, bk_ix g (gt.ok p hp) ?_⟩
    refine ⟨_, at_1, ?_⟩
    refine ⟨.int (p : Int), rfl, sz64' (show 2 ≤ 100000 by decide), ?_⟩
    exact ⟨ha, hr⟩
  · have e1 : (thr K N).map (fun p => prI (rkp K p)) = ((thr K N).map (rkp K)).map prI := by rw [List.map_map]; rfl
    rw [e1]
    refine ⟨(thr K N).map (rkp K), rfl, fun out hp hs => ?_⟩
    rw [fal_uniq hp hs]
    show Px.b_falling_places_0 _ [some (.d (bkD K)), some (.d (recD N)), some (.lst (((fal K N).map (rkp K)).map prI)), none, none] _
    refine (?_ : mLc _ _ _ _ _ _ _ _)
    rw [x_lc, x_iseq]
    refine ⟨_, rfl, ?_⟩
    show goLc _ _ _ [some (.d (bkD K)), some (.d (recD N)), some (.lst (((fal K N).map (rkp K)).map prI)), none, none] _ ((((fal K N).map (rkp K)).map prI).map T.d) _ _
    rw [List.map_map, List.map_map]
    refine lc_pure (ts := fal K N) ix (sz64' (by rw [(fal_perm K N).length_eq]; omega)) (fun p acc R hp ha hr => ?_) ?_
    · refine tw_dd (x := .int (-(kat K p).2)) (y := .int (p : Int)) ?_
      exact ⟨_, rfl, ha, hr⟩
    · exact ⟨rfl, q⟩

/-! ### pieces as data -/
def pcE (p : List Nat × Int) : PyData := .tuple [rowD p.1, .int p.2]
def psE (ps : List (List Nat × Int)) : PyData := .tuple (ps.map pcE)
theorem pse_at {ps : List (List Nat × Int)} {i : Nat} {t : T} (h : ((ps.map pcE).map T.d)[i]? = some t) : ∃ p, ps[i]? = some p ∧ t = .tup [rowD p.1, .int p.2] := by
  rw [List.getElem?_map, List.getElem?_map] at h
  cases q : ps[i]? with
  | none => rw [q] at h; cases h
  | some p =>
    rw [q] at h
    cases h
    exact ⟨p, rfl, rfl⟩
theorem w_lenP {p : List Nat × Int} {M : Mem} {Q : Kt} (q : Q (.int 2) M) : fLen [.d (pcE p)] M Q := by
  unfold pcE
  rw [x_lent]
  exact q
structure Gp (K : Bk6) (ps : List (List Nat × Int)) : Prop where
  ne : ps ≠ []
  len : ps.length ≤ 20
  ok : ∀ p ∈ ps, GR K p.1 ∧ 1 ≤ p.2 ∧ p.2 ≤ 1000000000000000000000000000000
theorem w_lenK {K : Bk6} {M : Mem} {Q : Kt} (q : Q (.int (K.length : Int)) M) : fLen [.d (bkD K)] M Q := by
  unfold bkD
  rw [x_lent, List.length_map]
  exact q
theorem w_lenR {r : List Nat} {M : Mem} {Q : Kt} (q : Q (.int (r.length : Int)) M) : fLen [.d (rowD r)] M Q := by
  unfold rowD
  rw [x_lent, List.length_map]
  exact q
theorem sp_from {v a b : Int} {D : List Cell} {Q : T → List Cell → Prop} (h1 : a ≤ v) (h2 : v ≤ b) (q : Q (.bl true) D) : Px.d__law_is_from [.int v, .int a, .int b] D Q := by
  refine ⟨rfl, ?_⟩
  refine (?_ : mAnd _ _ _ _ _)
  rw [x_mand, x_isi]
  refine ⟨.int v, rfl, "int", true, rfl, rfl, ?_⟩
  refine (?_ : mAnd _ _ _ _ _)
  rw [x_mand, x_mnot, x_isi]
  refine ⟨.int v, rfl, "int", false, rfl, rfl, ?_⟩
  refine (?_ : mChain _ _ _ _ _ _ _ _)
  rw [x_chain]
  refine ⟨.int a, rfl, .int v, rfl, w_leT h1 ?_⟩
  exact ⟨.int b, rfl, w_leT h2 ⟨rfl, q⟩⟩
theorem w_neNil {M : Mem} {Q : Kt} (q : Q (.bl false) M) : oEq true (.d (.list [])) (.d (.list [])) M Q := by
  rw [x_eq (a := .list []) (b := .list []) rfl rfl (shaped_ints []) (shaped_ints []) (fun _ z => nomatch z), eqv_nil]
  exact q
theorem filter_none {α : Type} (l : List α) : l.filter (fun _ => false) = [] := by
  induction l with
  | nil => rfl
  | cons a l ih => rw [List.filter_cons, if_neg Bool.false_ne_true, ih]
theorem ap_4 {E : Es} {K : Bk6} {p : List Nat × Int} {D : List Cell} {a u : Option T} (g : GB K) (gr : GR K p.1) (q : E.nx [some (.d (bkD K)), a, some (.d (pcE p)), u] ⟨D, []⟩) :
    Px.b__law_are_pieces_4 E [some (.d (bkD K)), a, some (.d (pcE p)), u] ⟨D, []⟩ := by
  have hd := gr.hd
  refine w_if ?_
  rw [x_test]
  show mLc _ _ _ _ _ _ _ _
  rw [x_lc, x_iseq]
  refine ⟨.d (pcE p), rfl, _, at_0, ?_⟩
  show goLc _ _ _ [some (.d (bkD K)), a, some (.d (pcE p)), none] _ ((p.1.map ix).map T.d) _ _
  rw [List.map_map]
  refine lc_pf (ts := p.1) (fun _ => false) (fun _ => .int 1) (sz64' (by omega)) (fun i acc R hi ha hr => ?_) ?_
  · have il := gr.ok i hi
    rw [x_gn, x_bnot, x_test]
    refine ⟨.int (i : Int), rfl, ?_⟩
    refine w_c ⟨.d (bkD K), rfl, w_an (w_lenK (w_c (w_sub (w_an ⟨(by simp), sp_from (by omega) (by omega) ?_⟩))))⟩
    refine ⟨true, rfl, ?_⟩
    rw [if_neg (by simp)]
    exact hr
  · rw [filter_none]
    refine ⟨Nat.zero_le _, w_neNil ⟨false, rfl, ?_⟩⟩
    exact q
theorem ap_6 {E : Es} {K : Bk6} {p : List Nat × Int} {D : List Cell} {a u : Option T} (g : GB K) (gr : GR K p.1) (h1 : 1 ≤ p.2) (h2 : p.2 ≤ 1000000000000000000000000000000) (q : E.nx [some (.d (bkD K)), a, some (.d (pcE p)), u] ⟨D, []⟩) :
    Px.b__law_are_pieces_6 E [some (.d (bkD K)), a, some (.d (pcE p)), u] ⟨D, []⟩ := by
  have hd := gr.hd
  have ne := List.length_pos_iff.mpr gr.ne
  refine w_seq (w_if ?_)
  rw [x_bor, x_bnot, x_test, x_isi]
  refine ⟨.d (pcE p), rfl, "tuple", true, rfl, rfl, true, rfl, ?_⟩
  rw [if_neg (by simp), x_bor, x_test]
  refine ⟨.d (pcE p), rfl, w_an (w_lenP (w_c (w_eqI ⟨false, rfl, ?_⟩)))⟩
  rw [if_neg (by simp), x_bnot, x_test, x_isi]
  refine ⟨.d (pcE p), rfl, _, at_0, "tuple", true, rfl, rfl, true, rfl, ?_⟩
  rw [if_neg (by simp)]
  show Px.b__law_are_pieces_5 _ [some (.d (bkD K)), a, some (.d (pcE p)), u] _
  refine w_seq (w_if ?_)
  rw [x_bor, x_bnot, x_test, x_chain]
  refine w_c ⟨.d (pcE p), rfl, _, at_0, w_an (w_lenR (w_leT (by omega) (w_c (w_leT (by omega) ⟨true, rfl, ?_⟩))))⟩
  rw [if_neg (by simp), x_bnot, x_test]
  refine ⟨.d (pcE p), rfl, _, at_1, ?_⟩
  refine ⟨by unfold CPow; simp, (by simp), sp_from h1 (by simpa using h2) ?_⟩
  refine ⟨true, rfl, ?_⟩
  rw [if_neg (by simp)]
  exact ap_4 g gr q
theorem sp_are_pieces {K : Bk6} {ps : List (List Nat × Int)} {D : List Cell} {Q : T → List Cell → Prop} (g : GB K) (gp : Gp K ps) (q : Q (.bl true) D) : Px.d__law_are_pieces [.d (bkD K), .d (psE ps)] D Q := by
  have hl := gp.len
  have ne := List.length_pos_iff.mpr gp.ne
  refine ⟨rfl, ?_⟩
  show Px.b__law_are_pieces_9 _ [some (.d (bkD K)), some (.d (psE ps)), none, none] _
  refine w_seq (w_if ?_)
  rw [x_bor, x_bnot, x_test, x_isi]
  refine ⟨.d (psE ps), rfl, "tuple", true, rfl, rfl, true, rfl, ?_⟩
  rw [if_neg (by simp), x_bnot, x_test, x_chain]
  have wl : ∀ {M : Mem} {Q : Kt}, Q (.int (ps.length : Int)) M → fLen [.d (psE ps)] M Q := fun q => by
    unfold psE
    rw [x_lent, List.length_map]
    exact q
  refine w_c ⟨.d (psE ps), rfl, w_an (wl (w_leT (by omega) (w_c (w_leT (by omega) ⟨true, rfl, ?_⟩))))⟩
  rw [if_neg (by simp)]
  show Px.b__law_are_pieces_8 _ [some (.d (bkD K)), some (.d (psE ps)), none, none] _
  refine w_seq (w_for ?_)
  rw [x_iseq]
  refine ⟨_, rfl, ?_⟩
  show goFor _ _ _ ((ps.map pcE).map T.d) _ _
  refine for_all (fun i τ M => M = ⟨D, []⟩ ∧ ∃ u v, τ = [some (.d (bkD K)), some (.d (psE ps)), u, v]) ⟨rfl, _, _, rfl⟩ ?_ ?_
  · rintro i τ M t R ht ⟨rfl, u, v, rfl⟩ k
    obtain ⟨p, hp, rfl⟩ := pse_at ht
    have h := gp.ok p (List.mem_of_getElem? hp)
    rw [x_gn]
    exact ap_6 g h.1 h.2.1 h.2.2 (k _ _ ⟨rfl, _, _, rfl⟩)
  · rintro τ M ⟨rfl, u, v, rfl⟩
    exact ⟨rfl, q⟩
end Pl

set_option Elab.async false
set_option linter.all false
set_option maxRecDepth 100000
namespace Pl
open PySem PySem.Spec L2 L3 Sh

/-! ### the fields of pieces, told by the law -/
def fdl (K : Bk6) (ps : List (List Nat × Int)) : List Int := (List.range K.length).map (flds ps)
theorem num_setI {N : List Int} {p q : Nat} {x : Int} (h : p < N.length) : num (N.set p x) q = if p = q then x else num N q := by
  unfold num
  rw [List.getD_eq_getElem?_getD, List.getElem?_set]
  by_cases z : p = q
  · subst z
    rw [if_pos rfl, if_pos h, if_pos rfl]
    rfl
  · rw [if_neg z, if_neg z, List.getD_eq_getElem?_getD]
theorem flds_snoc (ps : List (List Nat × Int)) (p : List Nat × Int) (i : Nat) : flds (ps ++ [p]) i = flds ps i + p.2 * ((p.1.count i : Nat) : Int) := by
  rw [flds_app]
  simp [flds]
theorem fields_1 {E : Es} {K : Bk6} {D : List Cell} {r : List Nat} {t : Int} {N : List Int} {a v : Option T} (hN : N.length = K.length) (gr : ∀ i ∈ r, i < K.length)
    (q : ∀ v N', N'.length = K.length → (∀ p, p < K.length → num N' p = num N p + t * ((r.count p : Nat) : Int)) → E.nx [some (.d (bkD K)), a, some (.lr 0), some (.d (rowD r)), some (.int t), v] ⟨D, [some (N'.map .int)]⟩) :
    Px.b__law_fields_1 E [some (.d (bkD K)), a, some (.lr 0), some (.d (rowD r)), some (.int t), v] ⟨D, [some (N.map .int)]⟩ := by
  refine w_for ?_
  rw [x_iseq]
  refine ⟨_, rfl, ?_⟩
  show goFor _ _ _ ((r.map ix).map T.d) _ _
  refine for_all (fun i τ M => ∃ v N', M = ⟨D, [some (N'.map .int)]⟩ ∧ (N'.length = K.length ∧ ∀ p, p < K.length → num N' p = num N p + t * (((r.take i).count p : Nat) : Int)) ∧ τ = [some (.d (bkD K)), a, some (.lr 0), some (.d (rowD r)), some (.int t), v]) ⟨v, N, rfl, ⟨hN, fun p _ => by simp⟩, rfl⟩ ?_ ?_
  · rintro i τ M x R ht ⟨v, N', rfl, ⟨h1, h2⟩, rfl⟩ k
    obtain ⟨j, hj, rfl, hi⟩ := row_at ht
    have jl := gr j (List.mem_of_getElem? hj)
    have jn : j < N'.length := by omega
    rw [x_gn]
    refine (?_ : mLPut (mVar 2) (mVar 5) (mOp oAdd (mOp oIx (mVar 2) (mVar 5)) (mVar 4)) _ [some (.d (bkD K)), a, some (.lr 0), some (.d (rowD r)), some (.int t), some (.int (j : Int))] ⟨D, [some (N'.map .int)]⟩)
    rw [x_lput]
    refine ⟨.lr 0, rfl, .int (j : Int), rfl, _, rec_at jn, .int t, rfl, ?_⟩
    refine ⟨.lr 0, rfl, .int (j : Int), rfl, ?_⟩
    refine ⟨j, ixN_nat (by simpa using jn), ?_⟩
    have es : (N'.map PyData.int).set j (.int (num N' j + t)) = (N'.set j (num N' j + t)).map .int := by rw [List.map_set]
    refine k _ _ ⟨_, N'.set j (num N' j + t), ?_, ⟨by simpa using h1, fun p hp => ?_⟩, rfl⟩
    · rw [← es]
      rfl
    · rw [num_setI jn, take_snoc hj, List.count_append, List.count_singleton]
      by_cases z : j = p
      · subst z
        have := h2 j hp
        rw [if_pos rfl, this]
        simp [Int.mul_add]
        omega
      · rw [if_neg z, h2 p hp]
        simp [z]
  · rintro τ M ⟨v, N', rfl, ⟨h1, h2⟩, rfl⟩
    rw [show ((r.map ix).map T.d).length = r.length by simp, List.take_length] at h2
    exact q v N' h1 h2
theorem sp_fields {K : Bk6} {ps : List (List Nat × Int)} {D : List Cell} {Q : T → List Cell → Prop} (g : GB K) (gp : Gp K ps) (q : Q (.d (recD (fdl K ps))) D) : Px.d__law_fields [.d (bkD K), .d (psE ps)] D Q := by
  have h6 := g.six
  refine ⟨rfl, ?_⟩
  show Px.b__law_fields_4 _ [some (.d (bkD K)), some (.d (psE ps)), none, none, none, none] _
  refine w_seq ?_
  rw [x_set]
  refine ⟨sz64' (show 1 ≤ 100000 by decide), .d (bkD K), rfl, w_an (w_lenK ?_)⟩
  rw [x_mulL]
  refine ⟨⟨by omega, by omega, sz64' (by simp; omega)⟩, ?_⟩
  have e0 : (List.replicate (K.length : Int).toNat [PyData.int 0]).flatten = (List.replicate K.length (0 : Int)).map .int := by
    rw [Int.toNat_natCast]
    generalize K.length = n
    induction n with
    | zero => rfl
    | succ n ih => rw [List.replicate_succ, List.flatten_cons, ih]; rfl
  rw [e0]
  show Px.b__law_fields_3 _ [some (.d (bkD K)), some (.d (psE ps)), some (.lr 0), none, none, none] ⟨D, [some ((List.replicate K.length (0 : Int)).map .int)]⟩
  refine w_seq (w_for ?_)
  rw [x_iseq]
  refine ⟨_, rfl, ?_⟩
  show goFor _ _ _ ((ps.map pcE).map T.d) _ _
  refine for_all (fun i τ M => ∃ u v w N, M = ⟨D, [some (N.map .int)]⟩ ∧ (N.length = K.length ∧ ∀ p, p < K.length → num N p = flds (ps.take i) p) ∧ τ = [some (.d (bkD K)), some (.d (psE ps)), some (.lr 0), u, v, w]) ⟨_, _, _, _, rfl, ⟨by simp, fun p hp => ?_⟩, rfl⟩ ?_ ?_
  · rw [num_at (by simpa using hp)]
    simp [flds]
  · rintro i τ M x R ht ⟨u, v, w, N, rfl, ⟨h1, h2⟩, rfl⟩ k
    obtain ⟨p, hp, rfl⟩ := pse_at ht
    have gp1 := gp.ok p (List.mem_of_getElem? hp)
    refine tw_dd ?_
    refine fields_1 (r := p.1) (t := p.2) h1 gp1.1.ok fun v N' h3 h4 => k _ _ ⟨_, _, _, N', rfl, ⟨h3, fun j hj => ?_⟩, rfl⟩
    rw [take_snoc hp, flds_snoc, h4 j hj, h2 j hj]
  · rintro τ M ⟨u, v, w, N, rfl, ⟨h1, h2⟩, rfl⟩
    rw [show ((ps.map pcE).map T.d).length = ps.length by simp, List.take_length] at h2
    have e : N = fdl K ps := by
      refine List.ext_getElem (by simp [fdl, h1]) fun i h3 h4 => ?_
      rw [← num_at h3, h2 i (by omega)]
      simp [fdl]
    subst e
    exact ⟨.lr 0, rfl, w_an ⟨rfl, q⟩⟩
end Pl

set_option Elab.async false
set_option linter.all false
set_option maxRecDepth 100000
namespace Pl
open PySem PySem.Spec L2 L3 Sh

/-! ### a row done many times, told by the law: it goes on at once at a rest that it had -/
theorem ifT {p q : Prop} {b : Bool} (h : b = true) (x : p) : if b = true then p else q := by
  rw [if_pos h]
  exact x
theorem ifF {p q : Prop} {b : Bool} (h : ¬ b = true) (x : q) : if b = true then p else q := by
  rw [if_neg h]
  exact x
theorem w_mod {a b : Int} {M : Mem} {Q : Kt} (z : 0 < b) (h : Q (.int (a % b)) M) : oMod (.d (.int a)) (.d (.int b)) M Q := by
  rw [x_mod]
  exact ⟨z, h⟩
theorem w_int {a : Int} {M : Mem} {Q : Kt} (h : Q (.int a) M) : fInt [.d (.int a)] M Q := by
  rw [x_int]
  exact h
theorem w_dget {i : Nat} {j : Int} {kvs : List (Key × T)} {t : T} {M : Mem} {Q : Kt} (h : M.D[i]? = some (.dct kvs)) (e : lookT kvs (.inl j) = some t) (q : Q t M) : oDGet (.mr i) (.d (.int j)) M Q := by
  show (match M.D[i]? with
    | some (.dct kvs) => ∃ t, lookT kvs (.inl j) = some t ∧ Q t M
    | _ => False)
  rw [h]
  exact ⟨t, e, q⟩
theorem w_din {i : Nat} {j : Int} {kvs : List (Key × T)} {M : Mem} {Q : Kt} (h : M.D[i]? = some (.dct kvs)) (q : Q (.bl (lookT kvs (.inl j)).isSome) M) : oDIn false (.d (.int j)) (.mr i) M Q := by
  rw [x_din, h]
  exact q
theorem w_ge {a b : Int} {M : Mem} {Q : Kt} (h : Q (.bl (decide (b ≤ a))) M) : oGe (.d (.int a)) (.d (.int b)) M Q := by
  rw [x_ge]
  exact h
theorem w_lt {a b : Int} {M : Mem} {Q : Kt} (h : Q (.bl (decide (a < b))) M) : oLt (.d (.int a)) (.d (.int b)) M Q := by
  rw [x_lt]
  exact h
theorem w_add {a b : Int} {M : Mem} {Q : Kt} (h : Q (.int (a + b)) M) : oAdd (.d (.int a)) (.d (.int b)) M Q := h
theorem w_mulW {a b : Int} {M : Mem} {Q : Kt} (z : CBig a b) (h : Q (.int (a * b)) M) : oMulW (.d (.int a)) (.d (.int b)) M Q := by
  rw [x_mulW]
  exact ⟨z, h⟩
theorem w_divW {a b : Int} {M : Mem} {Q : Kt} (z : CDvW a b) (h : Q (.int (a / b)) M) : oDivW (.d (.int a)) (.d (.int b)) M Q := by
  rw [x_divW]
  exact ⟨z, h⟩
theorem w_dput {d k v : Me} {E : Es} {τ : En} {M : Mem} (h : v τ M fun t M1 => d τ M1 fun x M2 => k τ M2 fun y M3 => match x, keyOf y with
  | .mr i, some kk => (match M3.D[i]? with
    | some (.dct kvs) => noL t = true ∧ kvs.length < sizeLine ∧ E.nx τ { M3 with D := M3.D.set i (.dct (putT kvs kk t)) }
    | _ => False)
  | _, _ => False) : mDPut d k v E τ M := h
theorem take_setI {α : Type} (l : List α) (i n : Nat) (x : α) (h : n ≤ i) : (l.set i x).take n = l.take n := by
  refine List.ext_getElem? fun j => ?_
  rw [List.getElem?_take, List.getElem?_take]
  split
  · rw [List.getElem?_set_ne (by omega)]
  · rfl
/-- an entry of the dict: how many were done, where it ended -/
def Pd (K : Bk6) (r : List Nat) (done e : Int) (j : Int) (t : T) : Prop := ∃ d x : Int, t = .tup [.int d, .int x] ∧ 0 ≤ d ∧ d < done ∧ 0 ≤ x ∧ x ≤ e ∧ j = x % 64 ∧ Rn K r (done - d).toNat x = e
section
variable {K : Bk6} {r : List Nat} {E : Es} {D : List Cell} {ps top : Option T} {n e0 : Int}
abbrev Lg (K : Bk6) (r : List Nat) (ps top : Option T) (n e done : Int) (i : Nat) (pl rest ro of_ : Option T) : En := [some (.d (bkD K)), ps, some (.int e), top, some (.d (rowD r)), some (.int n), pl, some (.mr i), some (.int done), rest, ro, of_]
abbrev wtst : Mb := mTest (mOp oLt (mVar 8) (mVar 5))
theorem long_4 {done e : Int} {i : Nat} {kvs : List (Key × T)} {C : List Cell} {pl ro of_ : Option T} (g : GB K) (gr : GR K r) (hi : C[i]? = some (.dct kvs)) (hk : kvs.length ≤ 64)
    (q : E.nx (Lg K r ps top n (rend K r e) (done + 1) i pl (some (.int (e % 64))) ro of_) ⟨C.set i (.dct (putT kvs (.inl (e % 64)) (.tup [.int done, .int e]))), []⟩) :
    Px.b__law_long_4 E (Lg K r ps top n e done i pl (some (.int (e % 64))) ro of_) ⟨C, []⟩ := by
  refine w_seq (w_dput ?_)
  refine ⟨.int done, rfl, .int e, rfl, w_an ?_⟩
  refine ⟨sz64' (show 2 ≤ 100000 by decide), .mr i, rfl, .int (e % 64), rfl, ?_⟩
  show (match C[i]? with
    | some (.dct kvs) => noL (T.tup [.int done, .int e]) = true ∧ kvs.length < sizeLine ∧ Px.b__law_long_3 E (Lg K r ps top n e done i pl (some (.int (e % 64))) ro of_) ⟨C.set i (.dct (putT kvs (.inl (e % 64)) (.tup [.int done, .int e]))), []⟩
    | _ => False)
  rw [hi]
  refine ⟨rfl, sz64 (by omega), ?_⟩
  refine (?_ : mPar 2 8 _ _ _ _)
  rw [x_par]
  refine ⟨.d (bkD K), rfl, .d (rowD r), rfl, .int e, rfl, (by simp), sp_end g gr.ok ?_⟩
  refine ⟨.int done, rfl, w_c (w_add (w_an ?_))⟩
  exact q
theorem long_2 {done e d x : Int} {i : Nat} {kvs : List (Key × T)} {C : List Cell} {pl ro of_ : Option T} (hi : C[i]? = some (.dct kvs)) (hl : lookT kvs (.inl (e % 64)) = some (.tup [.int d, .int x]))
    (b1 : 0 < done - d) (b2 : done - d ≤ 1000000000000000000000000000000) (b3 : 0 ≤ n - done) (b4 : n - done ≤ 1000000000000000000000000000000) (b5 : 0 ≤ e - x) (b6 : e - x < 10 ^ 80)
    (q : E.nx (Lg K r ps top n (e + (n - done) / (done - d) * (e - x)) (done + (n - done) / (done - d) * (done - d)) C.length pl (some (.int (e % 64))) (some (.int (done - d))) (some (.int ((n - done) / (done - d))))) ⟨C ++ [.dct []], []⟩) :
    Px.b__law_long_2 E (Lg K r ps top n e done i pl (some (.int (e % 64))) ro of_) ⟨C, []⟩ := by
  have q0 : 0 ≤ (n - done) / (done - d) := Int.ediv_nonneg b3 (by omega)
  have q1 : (n - done) / (done - d) ≤ n - done := Int.ediv_le_self _ b3
  refine w_seq ?_
  rw [x_set]
  refine ⟨.int done, rfl, .mr i, rfl, .int (e % 64), rfl, w_dget hi hl ?_⟩
  refine w_c ⟨.int d, rfl, w_sub ?_⟩
  show Px.b__law_long_1 _ (Lg K r ps top n e done i pl (some (.int (e % 64))) (some (.int (done - d))) of_) ⟨C, []⟩
  refine w_seq ?_
  rw [x_set]
  refine ⟨.int n, rfl, .int done, rfl, w_sub ⟨.int (done - d), rfl, w_divW ⟨b1, by omega⟩ ?_⟩⟩
  show Px.b__law_long_0 _ (Lg K r ps top n e done i pl (some (.int (e % 64))) (some (.int (done - d))) (some (.int ((n - done) / (done - d))))) ⟨C, []⟩
  refine (?_ : mPar3 2 8 7 _ _ _ _)
  rw [x_par3]
  refine ⟨.int e, rfl, .int ((n - done) / (done - d)), rfl, .int e, rfl, .mr i, rfl, .int (e % 64), rfl, w_dget hi hl ?_⟩
  refine w_c ⟨.int x, rfl, w_sub (w_mulW (by unfold CBig; omega) (w_add ?_))⟩
  refine ⟨.int done, rfl, .int ((n - done) / (done - d)), rfl, .int (done - d), rfl, w_mulW (by unfold CBig; omega) (w_add ?_)⟩
  exact q
/-- the loop -/
theorem long_go (g : GB K) (gr : GR K r) (n1 : n ≤ 1000000000000000000000000000000) (e1 : 0 ≤ e0) (e2 : e0 ≤ 20 * (1000000000000000000000000000000 * 100000000000000000000000000006400))
    (q : ∀ i pl rest ro of_ C, C.take D.length = D → E.nx (Lg K r ps top n (Rn K r n.toNat e0) n i pl rest ro of_) ⟨C, []⟩) :
    ∀ (m : Nat) (done e : Int) (i : Nat) (kvs : List (Key × T)) (pl rest ro of_ : Option T) (C : List Cell), (2 * (n - done)).toNat + (if kvs = [] then 0 else 1) = m → 0 ≤ done → done ≤ n →
      0 ≤ e → e ≤ e0 + done * 100000000000000000000000000006400 → Rn K r (n - done).toNat e = Rn K r n.toNat e0 →
      C[i]? = some (.dct kvs) → D.length ≤ i → C.take D.length = D → Kn (Pd K r done e) kvs →
      ∃ u, goWh wtst Px.b__law_long_6 E u (Lg K r ps top n e done i pl rest ro of_) ⟨C, []⟩ := by
  intro m
  induction m using Nat.strongRecOn with
  | _ m ih =>
    intro done e i kvs pl rest ro of_ C hm d0 d1 he0 he1 hR hi hDi hC hk
    have hkl := hk.len
    by_cases hz : done < n
    · have a64 : ∀ j ∈ r, (kat K j).2 ∣ 64 := fun j _ => by
        have := (kat_al g j).1.pos
        exact (kat_al g j).1.dvd (.inr (.inr (.inr (.inr (.inr (.inr rfl)))))) (by omega)
      have r0 := rang (i := e) (j := 64) (by omega)
      have stepD := Rn_le g gr.ok gr.hd
      -- an ordinary turn
      have ord : ∀ pl rest ro of_, ∃ u, goWh wtst Px.b__law_long_6 E u (Lg K r ps top n (rend K r e) (done + 1) i pl rest ro of_) ⟨C.set i (.dct (putT kvs (.inl (e % 64)) (.tup [.int done, .int e]))), []⟩ := by
        intro pl rest ro of_
        have h1 := stepD 1 he0
        rw [Rn_succ, Rn_zero] at h1
        have hs : ∀ d : Int, d < done + 1 → (done + 1 - d).toNat = (done - d).toNat + 1 := fun d hd => by omega
        refine ih _ ?_ (done + 1) (rend K r e) i (putT kvs (.inl (e % 64)) (.tup [.int done, .int e])) pl rest ro of_ _ rfl (by omega) (by omega) (by omega) ?_ ?_ ?_ hDi ?_ ?_
        · split <;> omega
        · rw [Int.add_mul]; omega
        · rw [← hR, show (n - done).toNat = (n - (done + 1)).toNat + 1 by omega, Rn_succ]
        · rw [List.getElem?_set_self]
          rcases Nat.lt_or_ge i C.length with z | z
          · exact z
          · rw [List.getElem?_eq_none z] at hi; cases hi
        · rw [take_setI _ _ _ _ hDi]
          exact hC
        · refine Kn.put (hk.imp fun j t h => ?_) r0.1 r0.2 ?_
          · obtain ⟨d, x, rfl, a1, a2, a3, a4, a5, a6⟩ := h
            refine ⟨d, x, rfl, a1, by omega, a3, by omega, a5, ?_⟩
            rw [hs d (by omega), Rn_add, a6, Rn_succ, Rn_zero]
          · refine ⟨done, e, rfl, d0, by omega, he0, by omega, rfl, ?_⟩
            rw [hs done (by omega), show (done - done).toNat = 0 by omega, Rn_succ, Rn_zero]
      cases hl : lookT kvs (.inl (e % 64)) with
      | none =>
        obtain ⟨u, hu⟩ := ord pl (some (.int (e % 64))) ro of_
        refine ⟨u + 1, ?_⟩
        unfold goWh
        refine ⟨.int done, rfl, .int n, rfl, w_lt ⟨_, rfl, ?_⟩⟩
        refine ifT (decide_eq_true hz) ?_
        refine w_seq ?_
        rw [x_set]
        refine ⟨.int e, rfl, w_an (w_int (w_c (w_mod (by omega) ?_)))⟩
        show Px.b__law_long_5 _ (Lg K r ps top n e done i pl (some (.int (e % 64))) ro of_) ⟨C, []⟩
        refine w_if ?_
        rw [x_band, x_test]
        refine ⟨.int (e % 64), rfl, .mr i, rfl, w_din hi ⟨_, rfl, ?_⟩⟩
        rw [hl]
        refine ifF (by simp) (ifF (by simp) ?_)
        exact long_4 g gr hi hkl hu
      | some t =>
        obtain ⟨d, x, rfl, a1, a2, a3, a4, a5, a6⟩ := hk.look hl
        by_cases hc : done - d ≤ n - done
        · -- it goes on at once
          obtain ⟨t, ht⟩ : ∃ t : Nat, done - d = (t : Int) := ⟨(done - d).toNat, by omega⟩
          have q0 : 1 ≤ (n - done) / (done - d) := by
            rw [Int.le_ediv_iff_mul_le (by omega)]
            omega
          obtain ⟨k, hk2⟩ : ∃ k : Nat, (n - done) / (done - d) = (k : Int) := ⟨((n - done) / (done - d)).toNat, by omega⟩
          have q1 : (n - done) / (done - d) * (done - d) ≤ n - done := Int.ediv_mul_le _ (by omega)
          have q2 : 1 * (done - d) ≤ (n - done) / (done - d) * (done - d) := Int.mul_le_mul_of_nonneg_right q0 (by omega)
          have dv : ∀ j ∈ r, (kat K j).2 ∣ e - x := fun j hj => Int.dvd_trans (a64 j hj) (Int.dvd_of_emod_eq_zero (by omega))
          rw [show (done - d).toNat = t by omega] at a6
          have cy := Rn_cyc g dv a6 k
          have hkt : ((k * t : Nat) : Int) = (n - done) / (done - d) * (done - d) := by rw [Int.natCast_mul, hk2, ht]
          have hle := stepD (k * t) he0
          rw [cy, hkt] at hle
          rw [← hk2] at cy hle
          have key : ∃ u, goWh wtst Px.b__law_long_6 E u (Lg K r ps top n (e + (n - done) / (done - d) * (e - x)) (done + (n - done) / (done - d) * (done - d)) C.length pl (some (.int (e % 64))) (some (.int (done - d))) (some (.int ((n - done) / (done - d))))) ⟨C ++ [.dct []], []⟩ := by
            refine ih _ ?_ _ _ _ [] pl _ _ _ _ rfl (by omega) (by omega) (by omega) ?_ ?_ ?_ ?_ ?_ Kn.nil
            · rw [if_pos rfl]
              have : (if kvs = [] then 0 else 1) = 1 := by
                rw [if_neg]
                intro z
                rw [z] at hl
                cases hl
              omega
            · rw [Int.add_mul]; omega
            · rw [← hR, ← cy, ← Rn_add]
              congr 1
              omega
            · simp
            · have := congrArg List.length hC
              rw [List.length_take] at this
              omega
            · rw [List.take_append_of_le_length, hC]
              have := congrArg List.length hC
              rw [List.length_take] at this
              omega
          obtain ⟨u, hu⟩ := key
          refine ⟨u + 1, ?_⟩
          unfold goWh
          refine ⟨.int done, rfl, .int n, rfl, w_lt ⟨_, rfl, ?_⟩⟩
          refine ifT (decide_eq_true hz) ?_
          refine w_seq ?_
          rw [x_set]
          refine ⟨.int e, rfl, w_an (w_int (w_c (w_mod (by omega) ?_)))⟩
          show Px.b__law_long_5 _ (Lg K r ps top n e done i pl (some (.int (e % 64))) ro of_) ⟨C, []⟩
          refine w_if ?_
          rw [x_band, x_test]
          refine ⟨.int (e % 64), rfl, .mr i, rfl, w_din hi ⟨_, rfl, ?_⟩⟩
          rw [hl]
          refine ifT rfl ?_
          refine ⟨.int n, rfl, .int done, rfl, w_sub ⟨.int done, rfl, .mr i, rfl, .int (e % 64), rfl, w_dget hi hl (w_c ⟨.int d, rfl, w_sub (w_ge ⟨_, rfl, ?_⟩)⟩)⟩⟩
          refine ifT (decide_eq_true hc) ?_
          exact long_2 hi hl (by omega) (by omega) (by omega) (by omega) (by omega) (by omega) hu
        · obtain ⟨u, hu⟩ := ord pl (some (.int (e % 64))) ro of_
          refine ⟨u + 1, ?_⟩
          unfold goWh
          refine ⟨.int done, rfl, .int n, rfl, w_lt ⟨_, rfl, ?_⟩⟩
          refine ifT (decide_eq_true hz) ?_
          refine w_seq ?_
          rw [x_set]
          refine ⟨.int e, rfl, w_an (w_int (w_c (w_mod (by omega) ?_)))⟩
          show Px.b__law_long_5 _ (Lg K r ps top n e done i pl (some (.int (e % 64))) ro of_) ⟨C, []⟩
          refine w_if ?_
          rw [x_band, x_test]
          refine ⟨.int (e % 64), rfl, .mr i, rfl, w_din hi ⟨_, rfl, ?_⟩⟩
          rw [hl]
          refine ifT rfl ?_
          refine ⟨.int n, rfl, .int done, rfl, w_sub ⟨.int done, rfl, .mr i, rfl, .int (e % 64), rfl, w_dget hi hl (w_c ⟨.int d, rfl, w_sub (w_ge ⟨_, rfl, ?_⟩)⟩)⟩⟩
          refine ifF (by simpa using hc) ?_
          exact long_4 g gr hi hkl hu
    · have e : done = n := by omega
      subst e
      refine ⟨1, ?_⟩
      unfold goWh
      refine ⟨.int done, rfl, .int done, rfl, w_lt ⟨_, rfl, ?_⟩⟩
      refine ifF (by simp) ?_
      rw [show (done - done).toNat = 0 by omega, Rn_zero] at hR
      rw [hR]
      exact q _ _ _ _ _ _ hC
end
/-! ### the whole of pieces, told by the law -/
def tops (K : Bk6) (ps : List (List Nat × Int)) : List Int := 1 :: ps.flatMap fun p => als K p.1
theorem mx_cat {l m : List Int} (ne : l ≠ []) : mx (mx l :: m) = mx (l ++ m) := by
  refine mx_uniq ?_ fun y hy => ?_
  · rcases List.mem_cons.mp (mx_mem (l := mx l :: m) (by simp)) with z | z
    · rw [z]
      exact List.mem_append_left _ (mx_mem ne)
    · exact List.mem_append_right _ z
  · rcases List.mem_append.mp hy with z | z
    · have := mx_ge z
      have := mx_ge (l := mx l :: m) List.mem_cons_self
      omega
    · exact mx_ge (List.mem_cons_of_mem _ z)
theorem tops_snoc (K : Bk6) (ps : List (List Nat × Int)) (p : List Nat × Int) : tops K (ps ++ [p]) = tops K ps ++ als K p.1 := by
  unfold tops
  rw [List.flatMap_append]
  simp
theorem mem_wrt {ps : List (List Nat × Int)} {p : List Nat × Int} {i : Nat} (hp : p ∈ ps) (h1 : 1 ≤ p.2) (hi : i ∈ p.1) : i ∈ wrt ps := by
  unfold wrt
  refine List.mem_flatten.mpr ⟨_, List.mem_map_of_mem hp, List.mem_flatten.mpr ⟨p.1, List.mem_replicate.mpr ⟨by omega, rfl⟩, hi⟩⟩
theorem tops_mx {K : Bk6} {ps : List (List Nat × Int)} (g : GB K) (gp : Gp K ps) : mx (tops K ps) = mx (als K (wrt ps)) := by
  have sub : ∀ y ∈ als K (wrt ps), y ∈ tops K ps := fun y hy => by
    obtain ⟨i, hi, rfl⟩ := List.mem_map.mp hy
    obtain ⟨p, hp, hi⟩ := wrt_mem hi
    exact List.mem_cons_of_mem _ (List.mem_flatMap.mpr ⟨p, hp, List.mem_map_of_mem (f := fun i => (kat K i).2) hi⟩)
  obtain ⟨p0, hp0⟩ := List.exists_mem_of_ne_nil ps gp.ne
  obtain ⟨i0, hi0⟩ := List.exists_mem_of_ne_nil p0.1 (gp.ok p0 hp0).1.ne
  have m0 := mem_wrt hp0 (gp.ok p0 hp0).2.1 hi0
  have ne : als K (wrt ps) ≠ [] := by
    intro z
    rw [List.map_eq_nil_iff.mp z] at m0
    cases m0
  refine (mx_uniq (sub _ (mx_mem ne)) fun y hy => ?_).symm
  rcases List.mem_cons.mp hy with z | z
  · have h1 := mx_ge (List.mem_map_of_mem (f := fun i => (kat K i).2) m0)
    have h2 : (kat K i0).2 ≤ mx (als K (wrt ps)) := h1
    have := (kat_al g i0).1.pos
    omega
  · obtain ⟨p, hp, hz⟩ := List.mem_flatMap.mp z
    obtain ⟨i, hi, rfl⟩ := List.mem_map.mp hz
    exact mx_ge (List.mem_map_of_mem (f := fun i => (kat K i).2) (mem_wrt hp (gp.ok p hp).2.1 hi))
theorem wrt_snoc (ps : List (List Nat × Int)) (p : List Nat × Int) : wrt (ps ++ [p]) = wrt ps ++ (List.replicate p.2.toNat p.1).flatten := by
  rw [wrt_app]
  simp [wrt]
theorem wrt_le {K : Bk6} (g : GB K) : ∀ (ps : List (List Nat × Int)), (∀ p ∈ ps, GR K p.1 ∧ 1 ≤ p.2 ∧ p.2 ≤ 1000000000000000000000000000000) → ∀ e : Int, 0 ≤ e → e ≤ rend K (wrt ps) e ∧ rend K (wrt ps) e ≤ e + (ps.length : Int) * (1000000000000000000000000000000 * 100000000000000000000000000006400)
  | [], _, e, _ => by simp [wrt, rend]
  | p :: ps, h, e, h0 => by
    have hp := h p List.mem_cons_self
    have h1 := Rn_le g hp.1.ok hp.1.hd p.2.toNat h0
    have h2 := wrt_le g ps (fun x hx => h x (List.mem_cons_of_mem _ hx)) (Rn K p.1 p.2.toNat e) (by omega)
    have e1 : wrt (p :: ps) = (List.replicate p.2.toNat p.1).flatten ++ wrt ps := rfl
    rw [e1, rend_app]
    have e2 : rend K (List.replicate p.2.toNat p.1).flatten e = Rn K p.1 p.2.toNat e := rfl
    rw [e2, List.length_cons]
    have : ((ps.length + 1 : Nat) : Int) * (1000000000000000000000000000000 * 100000000000000000000000000006400) = (ps.length : Int) * (1000000000000000000000000000000 * 100000000000000000000000000006400) + 1000000000000000000000000000000 * 100000000000000000000000000006400 := by rw [Int.natCast_succ, Int.add_mul]; omega
    omega
theorem long_8 {E : Es} {K : Bk6} {r : List Nat} {D C : List Cell} {n e : Int} {a top pl t7 t8 rest ro of_ : Option T} (g : GB K) (gr : GR K r) (n0 : 1 ≤ n) (n1 : n ≤ 1000000000000000000000000000000) (e1 : 0 ≤ e) (e2 : e ≤ 20 * (1000000000000000000000000000000 * 100000000000000000000000000006400)) (hC : C.take D.length = D)
    (q : ∀ pl t7 t8 rest ro of_ C, C.take D.length = D → E.nx [some (.d (bkD K)), a, some (.int (Rn K r n.toNat e)), top, some (.d (rowD r)), some (.int n), pl, t7, t8, rest, ro, of_] ⟨C, []⟩) :
    Px.b__law_long_8 E [some (.d (bkD K)), a, some (.int e), top, some (.d (rowD r)), some (.int n), pl, t7, t8, rest, ro, of_] ⟨C, []⟩ := by
  refine w_seq ?_
  rw [x_par]
  show mWhile wtst Px.b__law_long_6 E (Lg K r a top n e 0 C.length pl rest ro of_) ⟨C ++ [.dct []], []⟩
  have hl : D.length ≤ C.length := by
    have := congrArg List.length hC
    rw [List.length_take] at this
    omega
  refine long_go (D := D) (e0 := e) g gr n1 e1 e2 (fun i pl rest ro of_ C hC => q _ _ _ _ _ _ _ hC) _ 0 e C.length [] pl rest ro of_ (C ++ [.dct []]) rfl (by omega) (by omega) e1 (by omega) (by rw [Int.sub_zero]) (by simp) hl ?_ Kn.nil
  rw [List.take_append_of_le_length hl]
  exact hC
theorem long_9 {E : Es} {K : Bk6} {r : List Nat} {D C : List Cell} {n e : Int} {l : List Int} {a pl t7 t8 rest ro of_ : Option T} (g : GB K) (gr : GR K r) (n0 : 1 ≤ n) (n1 : n ≤ 1000000000000000000000000000000) (e1 : 0 ≤ e) (e2 : e ≤ 20 * (1000000000000000000000000000000 * 100000000000000000000000000006400)) (hC : C.take D.length = D) (ne : l ≠ [])
    (q : ∀ pl t7 t8 rest ro of_ C, C.take D.length = D → E.nx [some (.d (bkD K)), a, some (.int (Rn K r n.toNat e)), some (.int (mx (l ++ als K r))), some (.d (rowD r)), some (.int n), pl, t7, t8, rest, ro, of_] ⟨C, []⟩) :
    Px.b__law_long_9 E [some (.d (bkD K)), a, some (.int e), some (.int (mx l)), some (.d (rowD r)), some (.int n), pl, t7, t8, rest, ro, of_] ⟨C, []⟩ := by
  refine w_seq ?_
  rw [x_set]
  refine ⟨.int (mx l), rfl, sz64' (show 1 ≤ 100000 by decide), ?_⟩
  dsimp only
  rw [x_lc, x_iseq]
  refine ⟨_, rfl, ?_⟩
  show goLc _ _ _ [some (.d (bkD K)), a, some (.int e), some (.int (mx l)), some (.d (rowD r)), some (.int n), none, t7, t8, rest, ro, of_] _ ((r.map ix).map T.d) _ _
  rw [List.map_map]
  refine lc_pure (ts := r) (fun i => .int (kat K i).2) (sz64' (by have := gr.hd; omega)) (fun i acc R hi ha hr => ?_) ?_
  · refine ⟨.d (bkD K), rfl, .int (i : Int), rfl, bk_ix g (gr.ok i hi) ?_⟩
    exact ⟨_, at_1, ha, hr⟩
  · have e1' : r.map (fun i => PyData.int (kat K i).2) = (als K r).map .int := by unfold als; rw [List.map_map]; rfl
    rw [e1']
    refine ⟨sz64' (by simp [als]; have := gr.hd; omega), w_an ?_⟩
    refine f_max (ns := mx l :: als K r) (by simp) ?_
    rw [mx_cat ne]
    exact long_8 (D := D) g gr n0 n1 e1 e2 hC q
theorem sp_long {K : Bk6} {ps : List (List Nat × Int)} {D : List Cell} {Q : T → List Cell → Prop} (g : GB K) (gp : Gp K ps) (q : Q (.int (whole K (wrt ps))) D) : Px.d__law_long [.d (bkD K), .d (psE ps)] D Q := by
  have hl := gp.len
  have top0 : ∀ qs : List (List Nat × Int), (∀ p ∈ qs, GR K p.1) → 0 < mx (tops K qs) ∧ mx (tops K qs) ≤ 64 := fun qs h => by
    rcases List.mem_cons.mp (mx_mem (l := tops K qs) (by simp [tops])) with z | z
    · rw [z]; omega
    · obtain ⟨p, hp, hz⟩ := List.mem_flatMap.mp z
      obtain ⟨i, hi, e⟩ := List.mem_map.mp hz
      have := (kat_al g i).1.pos
      rw [← e]
      omega
  refine ⟨rfl, ?_⟩
  show Px.b__law_long_12 _ [some (.d (bkD K)), some (.d (psE ps)), none, none, none, none, none, none, none, none, none, none] _
  refine w_seq ?_
  rw [x_asg, x_tup]
  refine ⟨sz64' (show 2 ≤ 100000 by decide), tw_dd ?_⟩
  show Px.b__law_long_11 _ [some (.d (bkD K)), some (.d (psE ps)), some (.int 0), some (.int 1), none, none, none, none, none, none, none, none] _
  refine w_seq (w_for ?_)
  rw [x_iseq]
  refine ⟨_, rfl, ?_⟩
  show goFor _ _ _ ((ps.map pcE).map T.d) _ _
  refine for_all (fun i τ M => ∃ C u v w x y z a b, M = ⟨C, []⟩ ∧ C.take D.length = D ∧ τ = [some (.d (bkD K)), some (.d (psE ps)), some (.int (rend K (wrt (ps.take i)) 0)), some (.int (mx (tops K (ps.take i)))), u, v, w, x, y, z, a, b]) ⟨D, _, _, _, _, _, _, _, _, rfl, List.take_length, rfl⟩ ?_ ?_
  · rintro i τ M t R ht ⟨C, u, v, w, x, y, z, a, b, rfl, hC, rfl⟩ k
    obtain ⟨p, hp, rfl⟩ := pse_at ht
    have gp1 := gp.ok p (List.mem_of_getElem? hp)
    have hi : i < ps.length := by
      rcases Nat.lt_or_ge i ps.length with z | z
      · exact z
      · rw [List.getElem?_eq_none z] at hp; cases hp
    refine tw_dd ?_
    have hw := wrt_le g (ps.take i) (fun x hx => gp.ok x (List.mem_of_mem_take hx)) 0 (Int.le_refl _)
    have hlt : ((ps.take i).length : Int) ≤ 19 := by rw [List.length_take]; omega
    rw [take_snoc hp, wrt_snoc, rend_app, tops_snoc] at k
    refine long_9 (D := D) (l := tops K (ps.take i)) g gp1.1 gp1.2.1 gp1.2.2 hw.1 (by omega) hC (by simp [tops]) fun pl t7 t8 rest ro of_ C hC => ?_
    exact k _ _ ⟨C, _, _, _, _, _, _, _, _, rfl, hC, rfl⟩
  · rintro τ M ⟨C, u, v, w, x, y, z, a, b, rfl, hC, rfl⟩
    rw [show ((ps.map pcE).map T.d).length = ps.length by simp, List.take_length]
    have t0 := top0 ps fun p hp => (gp.ok p hp).1
    refine ⟨_, rfl, _, rfl, (by simp), sp_up t0.1 t0.2 ?_⟩
    rw [tops_mx g gp]
    exact ⟨⟨_, rfl⟩, hC, q⟩
end Pl

set_option Elab.async false
set_option linter.all false
set_option maxRecDepth 100000
namespace Pq
open PySem PySem.Spec L2 L3
abbrev d_fillers_behind : FD := Pn.d_fillers_behind
abbrev d_needed : FD := Pn.d_needed
abbrev b_filler_with_enough_0 : Ms := (mRet (mVar 2))
abbrev b_filler_with_enough_1 : Ms := (mIf (mTest (mOp oGe (mOp oIx (mVar 1) (mVar 2)) (mVar 3))) b_filler_with_enough_0 mNext)
abbrev b_filler_with_enough_2 (Wt : Wxs) : Ms := (mRaise0 "Few" Wt)
abbrev b_filler_with_enough_3 (Wt : Wxs) : Ms := (mSeq (mFor (iSeq (mCall (fDef d_needed) (aCons (mVar 0) (aCons (mVar 1) aNil)))) (gTu 2 (gsCons (gN 2) (gsCons (gN 3) gsNil))) b_filler_with_enough_1) (b_filler_with_enough_2 Wt))
abbrev b_filler_with_enough : MsX := fun Wt => (b_filler_with_enough_3 Wt)
def d_filler_with_enough : FX := mDefX 2 4 b_filler_with_enough
abbrev d_falling_places : FD := Px.d_falling_places
abbrev b_floor_pieces_0 : Ms := (mAugI (fun i j => i - j) 4 (mOp oMulW (mVar 6) (mOp oIx (mVar 1) (mVar 5))))
abbrev b_floor_pieces_1 : Ms := (mSeq (mDrop (mMeth fApp (mVar 3) (aCons (mTup (aCons (mOp oAdd (mTup (aCons (mVar 5) aNil)) (mOp oRepZ (mTup (aCons (mVar 2) aNil)) (mVar 6))) (aCons (mOp oIx (mVar 1) (mVar 5)) aNil))) aNil))) b_floor_pieces_0)
abbrev b_floor_pieces_2 : Ms := (mSeq (mSet 6 (mCall (fDef d_fillers_behind) (aCons (mVar 0) (aCons (mVar 5) (aCons (mVar 2) aNil))))) b_floor_pieces_1)
abbrev b_floor_pieces_3 : Ms := (mIf (mTest (mOp (oEq true) (mVar 5) (mVar 2))) b_floor_pieces_2 mNext)
abbrev b_floor_pieces_4 : Ms := (mDrop (mMeth fApp (mVar 3) (aCons (mTup (aCons (mTup (aCons (mVar 2) aNil)) (aCons (mVar 4) aNil))) aNil)))
abbrev b_floor_pieces_5 : Ms := (mRet (mCall fTuple (aCons (mVar 3) aNil)))
abbrev b_floor_pieces_6 : Ms := (mSeq (mIf (mTest (mOp oGt (mVar 4) (mC (.int 0)))) b_floor_pieces_4 mNext) b_floor_pieces_5)
abbrev b_floor_pieces_7 : Ms := (mSeq (mFor (iSeq (mCall (fDef d_falling_places) (aCons (mVar 0) (aCons (mVar 1) aNil)))) (gN 5) b_floor_pieces_3) b_floor_pieces_6)
abbrev b_floor_pieces_8 : Ms := (mSeq (mSet 4 (mOp oIx (mVar 1) (mVar 2))) b_floor_pieces_7)
abbrev b_floor_pieces_9 : Ms := (mSeq (mSet 3 (mNewL aNil)) b_floor_pieces_8)
abbrev b_floor_pieces_10 (Wt : Wxs) : Ms := (mSeq (atW Wt fun W0 => mSet 2 (mCall (fDefX d_filler_with_enough W0) (aCons (mVar 0) (aCons (mVar 1) aNil)))) b_floor_pieces_9)
abbrev b_floor_pieces : MsX := fun Wt => (b_floor_pieces_10 Wt)
def d_floor_pieces : FX := mDefX 2 7 b_floor_pieces
end Pq

set_option Elab.async false
set_option linter.all false
set_option maxRecDepth 100000
set_option maxHeartbeats 1000000
/-! the filler and the pieces, where there may be too few -/
namespace Pq
open PySem PySem.Spec L2 L3 Sh Pl
theorem for_some {α β : Type} {g : Mg} {b : Ms} {E : Es} {e : α → T} {M : Mem} (p : α → Option β) (val : β → T) (J : En → Prop) : ∀ {ts : List α} {τ : En}, J τ →
    (∀ (x : α) (τ : En) (R : En → Mem → Prop), x ∈ ts → J τ → (p x = none → ∀ τ', J τ' → R τ' M) → (∀ v, p x = some v → E.rt (val v) M) → g (e x) τ M fun τ1 M1 => b { E with nx := R, ct := R, bk := E.nx } τ1 M1) →
    (∀ v, ts.findSome? p = some v → E.rt (val v) M) → (ts.findSome? p = none → ∀ τ', J τ' → E.nx τ' M) → goFor g b E (ts.map e) τ M
  | [], τ, h0, _, _, miss => miss rfl τ h0
  | x :: ts, τ, h0, step, hit, miss => by
    rw [List.map_cons, x_forc]
    refine step x τ _ List.mem_cons_self h0 (fun hn τ' hJ => ?_) fun v hv => hit v (by rw [List.findSome?_cons, hv])
    refine for_some p val J hJ (fun y τ R hy => step y τ R (List.mem_cons_of_mem _ hy)) (fun v hv => hit v (by rw [List.findSome?_cons, hn]; exact hv)) fun hv => miss (by rw [List.findSome?_cons, hn]; exact hv)
/-! ### the filler, the pieces -/
def hitF (K : Bk6) (N : List Int) (f : Nat) : Option Nat := if nd K N f ≤ num N f then some f else none
def fsel (K : Bk6) (N : List Int) : Option Nat := (fls K N).findSome? (hitF K N)
theorem fsel_ok {K : Bk6} {N : List Int} {f : Nat} (h : fsel K N = some f) : f ∈ fls K N ∧ nd K N f ≤ num N f := by
  obtain ⟨x, hx, e⟩ := List.exists_of_findSome?_eq_some h
  unfold hitF at e
  split at e
  · cases e
    exact ⟨hx, by assumption⟩
  · cases e
theorem fsel_ex {K : Bk6} {N : List Int} (h : enB K N = true) : ∃ f, fsel K N = some f := by
  obtain ⟨f, hf, hn⟩ := enB_ex h
  cases hs : fsel K N with
  | some x => exact ⟨x, rfl⟩
  | none =>
    have := List.findSome?_eq_none_iff.mp hs f hf
    unfold hitF at this
    rw [if_pos hn] at this
    cases this
theorem sp_filler {K : Bk6} {N : List Int} {D : List Cell} {Q : T → List Cell → Prop} {W : Exn → List Cell → Prop} (g : GB K) (gn : GN K N) (q : ∀ f, fsel K N = some f → Q (.int (f : Int)) D) (qx : fsel K N = none → W { cls := "Few" } D) : d_filler_with_enough [.d (bkD K), .d (recD N)] D Q W := by
  have gt := gn.gr g
  have hl := gn.len
  refine ⟨rfl, ?_⟩
  show b_filler_with_enough_3 _ _ [some (.d (bkD K)), some (.d (recD N)), none, none] _
  refine w_seq (w_for ?_)
  rw [x_iseq]
  refine ⟨.d (bkD K), rfl, .d (recD N), rfl, w_an ⟨(by simp), sp_needed g gn ?_⟩⟩
  show goFor _ _ _ (((fls K N).map (pr K N)).map T.d) _ _
  rw [List.map_map]
  refine for_some (e := T.d ∘ pr K N) (hitF K N) (fun v => .int (v : Int)) (fun τ => ∃ u v, τ = [some (.d (bkD K)), some (.d (recD N)), u, v]) ⟨_, _, rfl⟩ ?_ ?_ ?_
  · rintro f τ R hf ⟨u, v, rfl⟩ k1 k2
    have fl' := gt.ok f (List.mem_filter.mp hf).1
    refine tw_dd (x := .int (f : Int)) (y := .int (nd K N f)) ?_
    refine w_if ?_
    rw [x_test]
    refine ⟨.d (recD N), rfl, .int (f : Int), rfl, rec_ix (by omega) ⟨.int (nd K N f), rfl, w_ge ⟨_, rfl, ?_⟩⟩⟩
    by_cases z : nd K N f ≤ num N f
    · refine ifT (decide_eq_true z) ?_
      exact ⟨_, rfl, k2 f (by unfold hitF; rw [if_pos z])⟩
    · refine ifF (by simpa using z) ?_
      exact k1 (by unfold hitF; rw [if_neg z]) _ ⟨_, _, rfl⟩
  · intro v hv
    exact ⟨rfl, q v hv⟩
  · rintro hv τ' ⟨u, v, rfl⟩
    exact qx hv
def Lof (K : Bk6) (N : List Int) (f : Nat) : List Nat := (fal K N).filter fun p => decide (p ≠ f)
theorem lof_fa (K : Bk6) (N : List Int) (f : Nat) : Fa K N f (Lof K N f) :=
  ⟨(fal_perm K N).filter _, (fal_fall K N).filter _⟩
theorem rep_row (r : List Nat) (n : Nat) : (List.replicate n (r.map ix)).flatten = ((List.replicate n r).flatten).map ix := by
  rw [List.map_flatten, List.map_replicate]
theorem rep_one {α : Type} (x : α) : ∀ n : Nat, (List.replicate n [x]).flatten = List.replicate n x
  | 0 => rfl
  | n + 1 => by rw [List.replicate_succ, List.flatten_cons, rep_one x n]; rfl
theorem w_gt {a b : Int} {M : Mem} {Q : Kt} (h : Q (.bl (decide (b < a))) M) : oGt (.d (.int a)) (.d (.int b)) M Q := by
  rw [x_gt]
  exact h
theorem w_appL {i : Nat} {z : PyData} {ds : List PyData} {D : List Cell} {L : List (Option (List PyData))} {Q : Kt} (h : L[i]? = some (some ds)) (hl : ds.length < sizeLine) (q : Q .non ⟨D, L.set i (some (ds ++ [z]))⟩) : fApp (.lr i) [.d z] ⟨D, L⟩ Q := by
  rw [x_appL]
  show (match L[i]? with
    | some (some ds) => ds.length < sizeLine ∧ Q .non ⟨D, L.set i (some (ds ++ [z]))⟩
    | _ => False)
  rw [h]
  exact ⟨hl, q⟩
theorem get_end {α : Type} (L : List α) (x : α) : (L ++ [x])[L.length]? = some x := by simp
def pre (K : Bk6) (N : List Int) (f i : Nat) : List Nat := ((fal K N).take i).filter fun p => decide (p ≠ f)
theorem fp_3 {E : Es} {K : Bk6} {N : List Int} {f p i : Nat} {D : List Cell} {v : Option T} (g : GB K) (gn : GN K N) (hf : f ∈ fls K N) (hp : (fal K N)[i]? = some p)
    (q : ∀ v, E.nx [some (.d (bkD K)), some (.d (recD N)), some (.int (f : Int)), some (.lr 0), some (.int (lft K N f (pre K N f (i + 1)))), some (.int (p : Int)), v] ⟨D, [some ((fps K N f (pre K N f (i + 1))).map pcE)]⟩) :
    b_floor_pieces_3 E [some (.d (bkD K)), some (.d (recD N)), some (.int (f : Int)), some (.lr 0), some (.int (lft K N f (pre K N f i))), some (.int (p : Int)), v] ⟨D, [some ((fps K N f (pre K N f i)).map pcE)]⟩ := by
  have gt := gn.gr g
  have hl := gn.len
  have hpt := (fal_perm K N).mem_iff.mp (List.mem_of_getElem? hp)
  have pl := gt.ok p hpt
  obtain ⟨hf1, hf2⟩ := List.mem_filter.mp hf
  have hf2 := of_decide_eq_true hf2
  have fl' := gt.ok f hf1
  have b0 := bh_ok (m := lst0 K N) g pl fl' hf2.symm
  have n0 := num_ok gn p
  have hlen : (pre K N f i).length ≤ 6 := by
    have h1 := List.length_filter_le (fun p => decide (p ≠ f)) ((fal K N).take i)
    have h2 := thr_len (N := N) g
    have h3 := (fal_perm K N).length_eq
    rw [List.length_take] at h1
    unfold pre
    omega
  have hpre : pre K N f (i + 1) = pre K N f i ++ if p ≠ f then [p] else [] := by
    unfold pre
    rw [take_snoc hp, List.filter_append, List.filter_cons]
    by_cases z : p = f
    · simp [z]
    · simp [z]
  refine w_if ?_
  rw [x_test]
  refine ⟨.int (p : Int), rfl, .int (f : Int), rfl, w_eqI ⟨_, rfl, ?_⟩⟩
  by_cases z : p = f
  · refine ifF (by simp [z]) ?_
    rw [hpre, if_neg (by simpa using z), List.append_nil] at q
    exact q v
  · have zi : ¬ (p : Int) = (f : Int) := by omega
    refine ifT (by simp [zi]) ?_
    rw [hpre, if_pos z] at q
    show b_floor_pieces_2 _ [some (.d (bkD K)), some (.d (recD N)), some (.int (f : Int)), some (.lr 0), some (.int (lft K N f (pre K N f i))), some (.int (p : Int)), v] _
    refine w_seq ?_
    rw [x_set]
    have st := fun Q q => sp_fillers (K := K) (p := p) (f := f) (D := D) (Q := Q) g pl fl' q
    rw [hf2] at st
    refine ⟨.d (bkD K), rfl, .int (p : Int), rfl, .int (f : Int), rfl, w_an ⟨(by simp), st _ ?_⟩⟩
    show b_floor_pieces_1 _ [some (.d (bkD K)), some (.d (recD N)), some (.int (f : Int)), some (.lr 0), some (.int (lft K N f (pre K N f i))), some (.int (p : Int)), some (.int (bh K (lst0 K N) p f))] ⟨D, [some ((fps K N f (pre K N f i)).map pcE)]⟩
    refine w_seq ?_
    rw [x_drop, x_meth]
    refine ⟨.lr 0, rfl, ⟨_, rfl⟩, ?_⟩
    refine ⟨.int (p : Int), rfl, sz64' (show 1 ≤ 100000 by decide), .int (f : Int), rfl, sz64' (show 1 ≤ 100000 by decide), .int (bh K (lst0 K N) p f), rfl, ?_⟩
    refine (?_ : oRepZ (.d (.tuple [ix f])) (.d (.int (bh K (lst0 K N) p f))) _ _)
    rw [x_repZ]
    refine ⟨⟨by simp, b0.1, by omega, by simp⟩, ?_⟩
    have e3 : (List.replicate (bh K (lst0 K N) p f).toNat [ix f]).flatten = (List.replicate (bh K (lst0 K N) p f).toNat f).map ix := by
      rw [rep_one, List.map_replicate]
    rw [e3]
    refine ⟨sz64' (by simp; omega), .d (recD N), rfl, .int (p : Int), rfl, rec_ix (by omega) (w_an ⟨sz64' (show 2 ≤ 100000 by decide), w_an ?_⟩)⟩
    have e4 : lft K N f (pre K N f i ++ [p]) = lft K N f (pre K N f i) - bh K (lst0 K N) p f * num N p := by
      unfold lft
      rw [List.map_append, List.sum_append]
      simp
      omega
    have e5 : (fps K N f (pre K N f i ++ [p])).map pcE = (fps K N f (pre K N f i)).map pcE ++ [pcE (blk K (lst0 K N) p f, num N p)] := by
      unfold fps
      rw [List.map_append, List.map_append]
      rfl
    rw [e4, e5] at q
    refine w_appL (ds := (fps K N f (pre K N f i)).map pcE) rfl (sz64 (by simp [fps]; omega)) ?_
    show b_floor_pieces_0 E [some (.d (bkD K)), some (.d (recD N)), some (.int (f : Int)), some (.lr 0), some (.int (lft K N f (pre K N f i))), some (.int (p : Int)), some (.int (bh K (lst0 K N) p f))] _
    refine (?_ : mAugI _ _ _ _ _ _)
    rw [x_augI]
    refine ⟨_, rfl, .int (bh K (lst0 K N) p f), rfl, .d (recD N), rfl, .int (p : Int), rfl, rec_ix (by omega) (w_mulW (by unfold CBig; omega) ?_)⟩
    exact q _
theorem sp_floor_pieces {K : Bk6} {N : List Int} {D : List Cell} {Q : T → List Cell → Prop} {W : Exn → List Cell → Prop} (g : GB K) (gn : GN K N) (q : ∀ f, fsel K N = some f → Q (.d (psE (flp K N f (Lof K N f)))) D) (qx : fsel K N = none → W { cls := "Few" } D) : d_floor_pieces [.d (bkD K), .d (recD N)] D Q W := by
  have hl := gn.len
  refine ⟨rfl, ?_⟩
  show b_floor_pieces_10 _ _ [some (.d (bkD K)), some (.d (recD N)), none, none, none, none, none] _
  refine w_seq ?_
  show mSet _ _ _ _ _
  rw [x_set]
  refine ⟨.d (bkD K), rfl, .d (recD N), rfl, w_an ⟨(by simp), sp_filler g gn (fun f hf => ?_) qx⟩⟩
  have q := q f hf
  have ho := fsel_ok hf
  have fl' := (gn.gr g).ok f (List.mem_filter.mp ho.1).1
  show b_floor_pieces_9 _ [some (.d (bkD K)), some (.d (recD N)), some (.int (f : Int)), none, none, none, none] ⟨D, []⟩
  refine w_seq ?_
  rw [x_set, x_newL]
  refine w_an ⟨Nat.zero_le _, ?_⟩
  show b_floor_pieces_8 _ [some (.d (bkD K)), some (.d (recD N)), some (.int (f : Int)), some (.lr 0), none, none, none] ⟨D, [some []]⟩
  refine w_seq ?_
  rw [x_set]
  refine ⟨.d (recD N), rfl, .int (f : Int), rfl, rec_ix (by omega) ?_⟩
  have e0 : num N f = lft K N f (pre K N f 0) := by
    unfold lft pre
    simp
  rw [e0]
  show b_floor_pieces_7 _ [some (.d (bkD K)), some (.d (recD N)), some (.int (f : Int)), some (.lr 0), some (.int (lft K N f (pre K N f 0))), none, none] ⟨D, [some ((fps K N f (pre K N f 0)).map pcE)]⟩
  refine w_seq (w_for ?_)
  rw [x_iseq]
  refine ⟨.d (bkD K), rfl, .d (recD N), rfl, w_an ⟨(by simp), sp_falling g gn ?_⟩⟩
  show goFor _ _ _ (((fal K N).map ix).map T.d) _ _
  refine for_all (fun i τ M => ∃ u v, M = ⟨D, [some ((fps K N f (pre K N f i)).map pcE)]⟩ ∧ τ = [some (.d (bkD K)), some (.d (recD N)), some (.int (f : Int)), some (.lr 0), some (.int (lft K N f (pre K N f i))), u, v]) ⟨_, _, rfl, rfl⟩ ?_ ?_
  · rintro i τ M t R ht ⟨u, v, rfl, rfl⟩ k
    obtain ⟨p, hp, rfl, hi⟩ := row_at ht
    rw [x_gn]
    exact fp_3 g gn ho.1 hp fun v => k _ _ ⟨_, _, rfl, rfl⟩
  · rintro τ M ⟨u, v, rfl, rfl⟩
    rw [show (((fal K N).map ix).map T.d).length = (fal K N).length by simp]
    have ep : pre K N f (fal K N).length = Lof K N f := by
      unfold pre Lof
      rw [List.take_length]
    rw [ep]
    have hlen : (Lof K N f).length ≤ 6 := by
      have h1 := List.length_filter_le (fun p => decide (p ≠ f)) (fal K N)
      have h2 := thr_len (N := N) g
      have h3 := (fal_perm K N).length_eq
      unfold Lof
      omega
    show b_floor_pieces_6 _ [some (.d (bkD K)), some (.d (recD N)), some (.int (f : Int)), some (.lr 0), some (.int (lft K N f (Lof K N f))), u, v] ⟨D, [some ((fps K N f (Lof K N f)).map pcE)]⟩
    refine w_seq (w_if ?_)
    rw [x_test]
    refine ⟨.int _, rfl, w_c (w_gt ⟨_, rfl, ?_⟩)⟩
    by_cases z : 0 < lft K N f (Lof K N f)
    · refine ifT (decide_eq_true z) ?_
      show b_floor_pieces_4 _ [some (.d (bkD K)), some (.d (recD N)), some (.int (f : Int)), some (.lr 0), some (.int (lft K N f (Lof K N f))), u, v] _
      refine (?_ : mDrop _ _ _ _)
      rw [x_drop, x_meth]
      refine ⟨.lr 0, rfl, ⟨_, rfl⟩, ?_⟩
      refine ⟨.int (f : Int), rfl, sz64' (show 1 ≤ 100000 by decide), .int _, rfl, w_an ⟨sz64' (show 2 ≤ 100000 by decide), w_an ?_⟩⟩
      refine w_appL (ds := (fps K N f (Lof K N f)).map pcE) rfl (sz64 (by simp [fps]; omega)) ?_
      have e5 : (fps K N f (Lof K N f)).map pcE ++ [pcE ([f], lft K N f (Lof K N f))] = (flp K N f (Lof K N f)).map pcE := by
        unfold flp
        rw [if_pos z, List.map_append]
        rfl
      refine ⟨.lr 0, rfl, w_an ?_⟩
      show fTuple [.lr 0] ⟨D, [some ((fps K N f (Lof K N f)).map pcE ++ [pcE ([f], lft K N f (Lof K N f))])]⟩ _
      rw [e5]
      exact ⟨rfl, q⟩
    · refine ifF (by simpa using z) ?_
      have e5 : (fps K N f (Lof K N f)).map pcE = (flp K N f (Lof K N f)).map pcE := by
        unfold flp
        rw [if_neg z, List.append_nil]
      refine ⟨.lr 0, rfl, w_an ?_⟩
      show fTuple [.lr 0] ⟨D, [some ((fps K N f (Lof K N f)).map pcE)]⟩ _
      rw [e5]
      exact ⟨rfl, q⟩
theorem lay_all : ∀ {l : List PyData}, (∀ x ∈ l, PyData.canLay0 x = true ∧ PyData.depth x ≤ 5) → PyData.canLayAll0 l = true ∧ PyData.depthAll l ≤ 5
  | [], _ => by simp [PyData.canLayAll0, PyData.depthAll]
  | x :: l, h => by
    obtain ⟨h1, h2⟩ := h x List.mem_cons_self
    obtain ⟨h3, h4⟩ := lay_all (l := l) fun y hy => h y (List.mem_cons_of_mem _ hy)
    refine ⟨by simp [PyData.canLayAll0, h1, h3], ?_⟩
    simp only [PyData.depthAll]
    omega
theorem sh_tuple {l : List PyData} (h : ∀ x ∈ l, PyData.canLay0 x = true ∧ PyData.depth x ≤ 5) : SeqAt.shaped (.tuple l) = true := by
  obtain ⟨h3, h4⟩ := lay_all h
  unfold SeqAt.shaped
  rw [Bool.and_eq_true]
  refine ⟨by simp [PyData.canLay0, h3], decide_eq_true ?_⟩
  simp only [PyData.depth]
  omega
theorem sh_rec (N : List Int) : SeqAt.shaped (recD N) = true := sh_tuple fun x hx => by
  obtain ⟨n, _, rfl⟩ := List.mem_map.mp hx
  simp [PyData.canLay0, PyData.depth]
theorem eqv_int (i j : Int) : PyData.eqv (.int i) (.int j) = decide (i = j) := by
  simp only [PyData.eqv]
  by_cases h : i = j
  · rw [h]; simp
  · simp [h]
theorem eqv_ints : ∀ N M : List Int, PyData.eqvAll (N.map .int) (M.map .int) = decide (N = M)
  | [], [] => by simp [PyData.eqvAll]
  | [], _ :: _ => by simp [PyData.eqvAll]
  | _ :: _, [] => by simp [PyData.eqvAll]
  | x :: N, y :: M => by
    rw [List.map_cons, List.map_cons, PyData.eqvAll, eqv_ints N M, eqv_int]
    by_cases h : x = y <;> by_cases h2 : N = M <;> simp [h, h2]
theorem eqv_rec (N M : List Int) : PyData.eqv (.tuple (N.map .int)) (.tuple (M.map .int)) = decide (N = M) := by
  rw [PyData.eqv, eqv_ints]

theorem w_neRec {N P : List Int} {M : Mem} {Q : Kt} (h : N = P) (q : Q (.bl false) M) : oEq true (.d (recD N)) (.d (recD P)) M Q := by
  subst h
  unfold recD
  rw [x_eq (a := .tuple (N.map .int)) (b := .tuple (N.map .int)) rfl rfl (sh_rec N) (sh_rec N) (fun _ z => nomatch z), eqv_rec]
  simpa using q
theorem flp_le {K : Bk6} {N : List Int} {f : Nat} (g : GB K) (gn : GN K N) : (flp K N f (Lof K N f)).length ≤ 7 := by
  have h1 := List.length_filter_le (fun p => decide (p ≠ f)) (fal K N)
  have h2 := thr_len (N := N) g
  have h3 := (fal_perm K N).length_eq
  unfold flp
  rw [List.length_append]
  have : (fps K N f (Lof K N f)).length = (Lof K N f).length := by simp [fps]
  have e9 : (Lof K N f).length = ((fal K N).filter fun p => decide (p ≠ f)).length := rfl
  split
  · rw [List.length_singleton]; omega
  · rw [List.length_nil]; omega
theorem flp_gp {K : Bk6} {N : List Int} {f : Nat} (g : GB K) (gn : GN K N) (hf : fsel K N = some f) : Gp K (flp K N f (Lof K N f)) := by
  have ho := fsel_ok hf
  have fa := lof_fa K N f
  have ok := flp_ok g gn ho.1 fa ho.2
  have ll : (flp K N f (Lof K N f)).length ≤ 7 := by
    have h1 := List.length_filter_le (fun p => decide (p ≠ f)) (fal K N)
    have h2 := thr_len (N := N) g
    have h3 := (fal_perm K N).length_eq
    unfold flp
    rw [List.length_append]
    have : (fps K N f (Lof K N f)).length = (Lof K N f).length := by simp [fps]
    have e9 : (Lof K N f).length = ((fal K N).filter fun p => decide (p ≠ f)).length := rfl
    split
    · rw [List.length_singleton]; omega
    · rw [List.length_nil]; omega
  refine ⟨?_, by omega, fun p hp => ?_⟩
  · intro z
    have c := flp_ct g gn ho.1 fa ho.2
    rw [z] at c
    exact ct_ne gn c rfl
  · have h := ok p hp
    exact ⟨⟨h.2.2.1, by have := h.2.2.2.1; omega, fun i hi => (gn.gr g).ok i (h.2.2.2.2 i hi)⟩, h.1, h.2.1⟩
theorem fdl_flp {K : Bk6} {N : List Int} {f : Nat} (g : GB K) (gn : GN K N) (hf : fsel K N = some f) : fdl K (flp K N f (Lof K N f)) = N := by
  have ho := fsel_ok hf
  have hl := gn.len
  unfold fdl
  refine List.ext_getElem (by simp [hl]) fun i h1 h2 => ?_
  rw [List.getElem_map, List.getElem_range, flds_flp g gn ho.1 (lof_fa K N f) ho.2 (by omega), num_at h2]
end Pq

set_option Elab.async false
set_option linter.all false
set_option maxRecDepth 100000
namespace Lw
open PySem PySem.Spec PySem.W L2 L3 Sh Pl

/-! ### the parts of a record, ascending -/
def extp (P : List (List Int)) (n : Int) : List (List Int) := P.flatMap fun p => (List.range (n + 1).toNat).map fun (s : Nat) => p ++ [(s : Int)]
def prts (N : List Int) : List (List Int) := N.foldl extp [[]]
def prd (N : List Int) : Int := N.foldl (fun a n => a * (n + 1)) 1
def lx (p q : List Int) : Prop := ∃ i, (∀ j, j < i → num p j = num q j) ∧ num p i < num q i
theorem lx_asym {p q : List Int} (h : lx p q) (g : lx q p) : False := by
  obtain ⟨i, h1, h2⟩ := h
  obtain ⟨k, g1, g2⟩ := g
  rcases Nat.lt_trichotomy i k with z | z | z
  · have := g1 i z; omega
  · subst z; omega
  · have := h1 k z; omega
theorem num_snoc {p : List Int} {s : Int} {j : Nat} : num (p ++ [s]) j = if j < p.length then num p j else if j = p.length then s else 0 := by
  unfold num
  rw [List.getD_eq_getElem?_getD, List.getD_eq_getElem?_getD]
  by_cases z : j < p.length
  · rw [if_pos z, List.getElem?_append_left z]
  · rw [if_neg z, List.getElem?_append_right (by omega)]
    by_cases y : j = p.length
    · rw [if_pos y, y]; simp
    · rw [if_neg y, List.getElem?_eq_none (by simp; omega)]
      rfl
theorem num_out {p : List Int} {j : Nat} (h : p.length ≤ j) : num p j = 0 := by
  unfold num
  rw [List.getD_eq_getElem?_getD, List.getElem?_eq_none h]
  rfl
theorem num_end {p : List Int} {s : Int} {n : Nat} (h : p.length = n) : num (p ++ [s]) n = s := by
  rw [num_snoc, if_neg (by omega), if_pos h.symm]
structure PO (N : List Int) (P : List (List Int)) : Prop where
  mem : ∀ p, p ∈ P ↔ p.length = N.length ∧ ∀ i, i < N.length → 0 ≤ num p i ∧ num p i ≤ num N i
  srt : P.Pairwise lx
  hd : P[0]? = some (List.replicate N.length 0)
  len : (P.length : Int) = prd N
theorem flat_len (n : Int) : ∀ P : List (List Int), (extp P n).length = P.length * (n + 1).toNat
  | [] => by simp [extp]
  | p :: P => by
    have ih := flat_len n P
    unfold extp at ih ⊢
    rw [List.flatMap_cons, List.length_append, ih, List.length_map, List.length_range, List.length_cons, Nat.succ_mul]
    omega
theorem ext_po {N : List Int} {P : List (List Int)} {n : Int} (h : PO N P) (hn : 0 ≤ n) : PO (N ++ [n]) (extp P n) := by
  refine ⟨fun p => ?_, ?_, ?_, ?_⟩
  · rw [List.length_append]
    unfold extp
    constructor
    · intro hp
      obtain ⟨a, ha, hp⟩ := List.mem_flatMap.mp hp
      obtain ⟨s, hs, rfl⟩ := List.mem_map.mp hp
      have hs := List.mem_range.mp hs
      obtain ⟨h1, h2⟩ := (h.mem a).mp ha
      refine ⟨by simp [h1], fun i hi => ?_⟩
      rw [num_snoc, num_snoc, h1]
      by_cases z : i < N.length
      · rw [if_pos z, if_pos z]; exact h2 i z
      · have : i = N.length := by simp at hi; omega
        rw [if_neg z, if_neg z, if_pos this, if_pos this]
        omega
    · rintro ⟨h1, h2⟩
      have ne : p ≠ [] := by intro z; rw [z] at h1; simp at h1
      have hl : p.dropLast.length = N.length := by rw [List.length_dropLast, h1]; simp
      have hp : p = p.dropLast ++ [p.getLast ne] := (List.dropLast_concat_getLast ne).symm
      generalize p.getLast ne = l at hp
      generalize p.dropLast = d at hp hl
      subst hp
      have h3 := h2 N.length (by simp)
      rw [num_end hl, num_end rfl] at h3
      refine List.mem_flatMap.mpr ⟨d, (h.mem d).mpr ⟨hl, fun i hi => ?_⟩, List.mem_map.mpr ⟨l.toNat, List.mem_range.mpr (by omega), by rw [Int.toNat_of_nonneg h3.1]⟩⟩
      have := h2 i (by simp; omega)
      rw [num_snoc, num_snoc, hl, if_pos hi, if_pos hi] at this
      exact this
  · unfold extp
    refine List.pairwise_flatMap.mpr ⟨fun a ha => ?_, ?_⟩
    · refine List.pairwise_map.mpr (List.pairwise_lt_range.imp ?_)
      intro x y hxy
      refine ⟨a.length, fun j hj => ?_, ?_⟩
      · rw [num_snoc, num_snoc, if_pos hj, if_pos hj]
      · rw [num_end rfl, num_end rfl]
        omega
    · refine h.srt.imp_of_mem ?_
      intro a b ha hb hab x hx y hy
      obtain ⟨s, _, rfl⟩ := List.mem_map.mp hx
      obtain ⟨t, _, rfl⟩ := List.mem_map.mp hy
      have la := ((h.mem a).mp ha).1
      have lb := ((h.mem b).mp hb).1
      obtain ⟨i, h1, h2⟩ := hab
      have hi : i < N.length := by
        rcases Nat.lt_or_ge i N.length with z | z
        · exact z
        · rw [num_out (p := a) (by omega), num_out (p := b) (by omega)] at h2; omega
      refine ⟨i, fun j hj => ?_, ?_⟩
      · rw [num_snoc, num_snoc, if_pos (by omega), if_pos (by omega)]; exact h1 j hj
      · rw [num_snoc, num_snoc, if_pos (by omega), if_pos (by omega)]; exact h2
  · have h0 := h.hd
    obtain ⟨P', rfl⟩ : ∃ P', P = List.replicate N.length 0 :: P' := by
      cases P with
      | nil => cases h0
      | cons a P => cases h0; exact ⟨P, rfl⟩
    unfold extp
    rw [List.flatMap_cons]
    have e : (n + 1).toNat = n.toNat + 1 := by omega
    rw [e, List.range_succ_eq_map, List.map_cons, List.cons_append, List.length_append, List.length_singleton, List.replicate_succ']
    rfl
  · rw [flat_len]
    unfold prd
    rw [List.foldl_append, List.foldl_cons, List.foldl_nil, Int.natCast_mul, h.len, Int.toNat_of_nonneg (by omega)]
    rfl
theorem prts_snoc (N : List Int) (n : Int) : prts (N ++ [n]) = extp (prts N) n := by
  unfold prts
  rw [List.foldl_append]
  rfl
theorem prts_go : ∀ (M N : List Int), (∀ n ∈ M, 0 ≤ n) → PO N (prts N) → PO (N ++ M) (prts (N ++ M))
  | [], N, _, h => by simpa using h
  | m :: M, N, hm, h => by
    have := prts_go M (N ++ [m]) (fun n hn => hm n (List.mem_cons_of_mem _ hn)) (by rw [prts_snoc]; exact ext_po h (hm m List.mem_cons_self))
    simpa using this
theorem prts_ok {N : List Int} (hn : ∀ n ∈ N, 0 ≤ n) : PO N (prts N) := by
  have := prts_go N [] hn ⟨fun p => ?_, by simp [prts], rfl, rfl⟩
  · simpa using this
  · simp [prts]
theorem prd_ge : ∀ (N : List Int) (a : Int), 0 < a → (∀ n ∈ N, 0 ≤ n) → a ≤ N.foldl (fun a n => a * (n + 1)) a
  | [], a, _, _ => Int.le_refl _
  | n :: N, a, ha, hn => by
    have h0 := hn n List.mem_cons_self
    have h1 : a ≤ a * (n + 1) := by
      have := Int.mul_le_mul_of_nonneg_left (show 1 ≤ n + 1 by omega) (show 0 ≤ a by omega)
      omega
    exact Int.le_trans h1 (prd_ge N (a * (n + 1)) (by omega) fun m hm => hn m (List.mem_cons_of_mem _ hm))
theorem prd_take {N : List Int} (hn : ∀ n ∈ N, 0 ≤ n) (i : Nat) : prd (N.take i) ≤ prd N := by
  have e : prd N = (N.drop i).foldl (fun a n => a * (n + 1)) (prd (N.take i)) := by
    unfold prd
    rw [← List.foldl_append, List.take_append_drop]
  rw [e]
  have h1 : 1 ≤ prd (N.take i) := prd_ge _ 1 (by omega) fun n h => hn n (List.mem_of_mem_take h)
  exact prd_ge _ _ (by omega) fun n h => hn n (List.mem_of_mem_drop h)
theorem prd_pos {N : List Int} (hn : ∀ n ∈ N, 0 ≤ n) : 1 ≤ prd N := prd_ge N 1 (by omega) hn
/-- one field fewer -/
def fw (q : List Int) (p : Nat) : List Int := q.set p (num q p - 1)
theorem num_set {N : List Int} {p q : Nat} {x : Int} (h : p < N.length) : num (N.set p x) q = if p = q then x else num N q := by
  unfold num
  rw [List.getD_eq_getElem?_getD, List.getElem?_set]
  by_cases z : p = q
  · subst z
    rw [if_pos rfl, if_pos h, if_pos rfl]
    rfl
  · rw [if_neg z, if_neg z, List.getD_eq_getElem?_getD]
theorem fw_len (q : List Int) (p : Nat) : (fw q p).length = q.length := by simp [fw]
theorem fw_num {q : List Int} {p : Nat} (h : p < q.length) (i : Nat) : num (fw q p) i = if p = i then num q p - 1 else num q i := num_set h
theorem fw_lx {q : List Int} {p : Nat} (h : p < q.length) : lx (fw q p) q := ⟨p, fun j hj => by rw [fw_num h, if_neg (by omega)], by rw [fw_num h, if_pos rfl]; omega⟩
theorem fw_mem {N q : List Int} {p : Nat} (hn : ∀ n ∈ N, 0 ≤ n) (hq : q ∈ prts N) (hp : p < N.length) (h0 : 0 < num q p) : fw q p ∈ prts N := by
  have po := prts_ok hn
  obtain ⟨h1, h2⟩ := (po.mem q).mp hq
  refine (po.mem _).mpr ⟨by rw [fw_len, h1], fun i hi => ?_⟩
  rw [fw_num (by omega)]
  have := h2 i hi
  by_cases z : p = i
  · subst z; rw [if_pos rfl]; omega
  · rw [if_neg z]; exact this
/-- one field fewer comes ahead -/
theorem fw_ahead {N q : List Int} {p i : Nat} (hn : ∀ n ∈ N, 0 ≤ n) (hq : (prts N)[i]? = some q) (hp : p < N.length) (h0 : 0 < num q p) : fw q p ∈ (prts N).take i := by
  have po := prts_ok hn
  have hm := List.mem_of_getElem? hq
  have ql := ((po.mem q).mp hm).1
  obtain ⟨j, hj, e⟩ := List.getElem_of_mem (fw_mem hn hm hp h0)
  obtain ⟨hi, ei⟩ := List.getElem?_eq_some_iff.mp hq
  have l := fw_lx (q := q) (p := p) (by omega)
  rcases Nat.lt_trichotomy j i with z | z | z
  · rw [← e]
    exact List.mem_take_iff_getElem.mpr ⟨j, by omega, rfl⟩
  · subst z
    rw [← e, ei] at l
    exact (lx_asym l l).elim
  · have := List.pairwise_iff_getElem.mp po.srt i j hi hj z
    rw [ei, e] at this
    exact (lx_asym this l).elim
theorem prts_nd {N : List Int} (hn : ∀ n ∈ N, 0 ≤ n) : (prts N).Nodup := (prts_ok hn).srt.imp fun h => by
  intro e
  rw [e] at h
  exact lx_asym h h
theorem self_mem {N : List Int} (hn : ∀ n ∈ N, 0 ≤ n) : N ∈ prts N := ((prts_ok hn).mem N).mpr ⟨rfl, fun i hi => ⟨by rw [num_at hi]; exact hn _ (List.getElem_mem hi), Int.le_refl _⟩⟩

/-! ### least ends -/
def bpl : List (Int × Int) → Int × Int
  | [] => (0, 0)
  | x :: l => minOf x l
theorem lt_pair (x y : Int × Int) : DatumOrd.lt x y = true ↔ x.1 < y.1 ∨ x.1 = y.1 ∧ x.2 < y.2 := by
  show (if x.1 = y.1 then decide (x.2 < y.2) else decide (x.1 < y.1)) = true ↔ _
  by_cases z : x.1 = y.1
  · rw [if_pos z, decide_eq_true_iff]; omega
  · rw [if_neg z, decide_eq_true_iff]; omega
theorem minOf_ok : ∀ (l : List (Int × Int)) (x : Int × Int), minOf x l ∈ x :: l ∧ ∀ y ∈ x :: l, (minOf x l).1 ≤ y.1
  | [], x => ⟨List.mem_cons_self, fun y hy => by rw [List.mem_singleton.mp hy]; exact Int.le_refl _⟩
  | y :: l, x => by
    have e : minOf x (y :: l) = minOf (if DatumOrd.lt y x = true then y else x) l := rfl
    rw [e]
    by_cases z : DatumOrd.lt y x = true
    · rw [if_pos z]
      have ih := minOf_ok l y
      have := (lt_pair _ _).mp z
      refine ⟨List.mem_cons_of_mem _ ih.1, fun v hv => ?_⟩
      rcases List.mem_cons.mp hv with w | w
      · have := ih.2 y List.mem_cons_self
        subst w; omega
      · exact ih.2 v w
    · rw [if_neg z]
      have ih := minOf_ok l x
      have hz : ¬ (y.1 < x.1 ∨ y.1 = x.1 ∧ y.2 < x.2) := fun w => z ((lt_pair _ _).mpr w)
      refine ⟨?_, fun v hv => ?_⟩
      · rcases List.mem_cons.mp ih.1 with w | w
        · rw [w]; exact List.mem_cons_self
        · exact List.mem_cons_of_mem _ (List.mem_cons_of_mem _ w)
      · have h0 := ih.2 x List.mem_cons_self
        rcases List.mem_cons.mp hv with w | w
        · subst w; exact h0
        rcases List.mem_cons.mp w with w | w
        · subst w; omega
        · exact ih.2 v (List.mem_cons_of_mem _ w)
theorem bpl_mem {l : List (Int × Int)} (h : l ≠ []) : bpl l ∈ l := by
  cases l with
  | nil => exact (h rfl).elim
  | cons x l => exact (minOf_ok l x).1
theorem bpl_le {l : List (Int × Int)} {x : Int × Int} (h : x ∈ l) : (bpl l).1 ≤ x.1 := by
  cases l with
  | nil => cases h
  | cons y l => exact (minOf_ok l y).2 x h
def tl (q : List Int) : Nat := q.sum.toNat
def lel (K : Bk6) : Nat → List Int → Int × Int
  | 0, _ => (0, 0)
  | n + 1, q => bpl ((thr K q).map fun p => (sfin K p (lel K n (fw q p)).1, (p : Int)))
def le (K : Bk6) (q : List Int) : Int := (lel K (tl q) q).1
def lst (K : Bk6) (q : List Int) : Int := (lel K (tl q) q).2
def prs (K : Bk6) (q : List Int) : List (Int × Int) := (thr K q).map fun p => (sfin K p (le K (fw q p)), (p : Int))
theorem sum_set : ∀ {N : List Int} {p : Nat} {x : Int}, p < N.length → (N.set p x).sum = N.sum - num N p + x
  | a :: l, 0, x, _ => by
    show x + l.sum = a + l.sum - a + x
    omega
  | a :: l, p + 1, x, h => by
    have ih := sum_set (N := l) (p := p) (x := x) (Nat.lt_of_succ_lt_succ h)
    have e : num (a :: l) (p + 1) = num l p := rfl
    show a + (l.set p x).sum = a + l.sum - num (a :: l) (p + 1) + x
    rw [ih, e]
    omega
theorem thr_pos {K : Bk6} {q : List Int} (ql : q.length = K.length) (nn : ∀ n ∈ q, 0 ≤ n) {p : Nat} (h : p ∈ thr K q) : p < q.length ∧ 0 < num q p ∧ 0 < q.sum ∧ tl q = tl (fw q p) + 1 ∧ ∀ n ∈ fw q p, 0 ≤ n := by
  obtain ⟨h1, h2⟩ := thr_mem.mp h
  have h3 : p < q.length := by omega
  have h4 := mem_le_sum nn _ (List.getElem_mem h3)
  have h5 := num_at h3
  have h6 := sum_set (N := q) (p := p) (x := num q p - 1) h3
  refine ⟨h3, h2, by omega, ?_, fun n hn => ?_⟩
  · unfold tl fw
    rw [h6]
    omega
  · rcases List.mem_or_eq_of_mem_set hn with z | z
    · exact nn n z
    · omega
theorem thr_nil {K : Bk6} {q : List Int} (ql : q.length = K.length) (nn : ∀ n ∈ q, 0 ≤ n) (h : tl q = 0) : thr K q = [] := by
  refine List.eq_nil_iff_forall_not_mem.mpr fun p hp => ?_
  have := thr_pos ql nn hp
  omega
theorem thr_ne {K : Bk6} {q : List Int} (ql : q.length = K.length) (h : 0 < tl q) (nn : ∀ n ∈ q, 0 ≤ n) : thr K q ≠ [] := by
  obtain ⟨n, hn, h0⟩ := (sum_pos nn).2 (by unfold tl at h; omega)
  obtain ⟨i, hi, e⟩ := List.getElem_of_mem hn
  intro z
  have : i ∈ thr K q := thr_mem.mpr ⟨by omega, by rw [num_at hi, e]; exact h0⟩
  rw [z] at this
  cases this
theorem lel_eq {K : Bk6} {q : List Int} (ql : q.length = K.length) (nn : ∀ n ∈ q, 0 ≤ n) : lel K (tl q) q = bpl (prs K q) := by
  cases h : tl q with
  | zero =>
    unfold prs
    rw [thr_nil ql nn h]
    rfl
  | succ n =>
    show bpl _ = bpl _
    unfold prs
    congr 1
    refine List.map_congr_left fun p hp => ?_
    have := thr_pos ql nn hp
    have e : tl (fw q p) = n := by omega
    unfold le
    rw [e]
theorem le_nil {K : Bk6} {q : List Int} (h : tl q = 0) : le K q = 0 := by
  unfold le
  rw [h]
  rfl
theorem le_step {K : Bk6} {q : List Int} (ql : q.length = K.length) (nn : ∀ n ∈ q, 0 ≤ n) {p : Nat} (h : p ∈ thr K q) : le K q ≤ sfin K p (le K (fw q p)) := by
  unfold le
  rw [lel_eq ql nn]
  exact bpl_le (x := (sfin K p (le K (fw q p)), (p : Int))) (List.mem_map_of_mem (f := fun p => (sfin K p (le K (fw q p)), (p : Int))) h)
theorem le_last {K : Bk6} {q : List Int} (ql : q.length = K.length) (nn : ∀ n ∈ q, 0 ≤ n) (h : 0 < tl q) : ∃ p ∈ thr K q, lst K q = (p : Int) ∧ le K q = sfin K p (le K (fw q p)) := by
  have ne : prs K q ≠ [] := by
    unfold prs
    intro z
    exact thr_ne ql h nn (List.map_eq_nil_iff.mp z)
  have := bpl_mem ne
  rw [← lel_eq ql nn] at this
  obtain ⟨p, hp, e⟩ := List.mem_map.mp this
  refine ⟨p, hp, ?_, ?_⟩
  · unfold lst; rw [← e]
  · show (lel K (tl q) q).1 = _
    rw [← e]
/-- no row of the fields ends sooner -/
theorem le_lo {K : Bk6} (g : GB K) : ∀ (n : Nat) (r : List Nat) (q : List Int), r.length = n → q.length = K.length → (∀ n ∈ q, 0 ≤ n) → (∀ i ∈ r, i < K.length) → Ct K q r → le K q ≤ rend K r 0
  | 0, r, q, hr, ql, nn, ok, ct => by
    rw [List.length_eq_zero_iff.mp hr] at ct ⊢
    have : tl q = 0 := by
      rcases Nat.eq_zero_or_pos (tl q) with z | z
      · exact z
      · obtain ⟨p, hp, _⟩ := le_last ql nn z
        have := thr_mem.mp hp
        have := ct p this.1
        simp at this
        omega
    rw [le_nil this]
    exact Int.le_refl _
  | n + 1, r, q, hr, ql, nn, ok, ct => by
    obtain ⟨r0, p, rfl⟩ : ∃ r0 p, r = r0 ++ [p] := by
      have ne : r ≠ [] := by intro z; rw [z] at hr; cases hr
      exact ⟨r.dropLast, r.getLast ne, (List.dropLast_concat_getLast ne).symm⟩
    have hp := ok p (List.mem_append_right _ List.mem_cons_self)
    have c := ct p hp
    rw [List.count_append, List.count_singleton] at c
    simp at c
    have ht : p ∈ thr K q := thr_mem.mpr ⟨hp, by omega⟩
    have hq := thr_pos ql nn ht
    have ih := le_lo g n r0 (fw q p) (by simpa using hr) (by rw [fw_len, ql]) hq.2.2.2.2 (fun i hi => ok i (List.mem_append_left _ hi)) fun i hi => by
      have := ct i hi
      rw [List.count_append, List.count_singleton] at this
      rw [fw_num hq.1]
      by_cases z : p = i
      · subst z; rw [if_pos rfl]; omega
      · rw [if_neg z]
        simp [z] at this
        omega
    rw [rend_snoc]
    exact Int.le_trans (le_step ql nn ht) (sfin_mono g p ih)
/-- a row that ends soonest -/
def bk (K : Bk6) : Nat → List Int → List Nat
  | 0, _ => []
  | n + 1, q => bk K n (fw q (lst K q).toNat) ++ [(lst K q).toNat]
theorem bk_ok {K : Bk6} : ∀ (n : Nat) (q : List Int), tl q = n → q.length = K.length → (∀ n ∈ q, 0 ≤ n) → (∀ i ∈ bk K n q, i < K.length) ∧ Ct K q (bk K n q) ∧ rend K (bk K n q) 0 = le K q ∧ (bk K n q).length = n
  | 0, q, h, ql, nn => ⟨by simp [bk], fun i hi => by
      have hz : ∀ p, p ∉ thr K q := by rw [thr_nil ql nn h]; simp
      have h1 : ¬ 0 < num q i := fun z => hz i (thr_mem.mpr ⟨hi, z⟩)
      have h2 := nn _ (List.getElem_mem (show i < q.length by omega))
      rw [← num_at (by omega)] at h2
      simp [bk]
      omega, by rw [le_nil h]; rfl, rfl⟩
  | n + 1, q, h, ql, nn => by
    obtain ⟨p, hp, e1, e2⟩ := le_last ql nn (by omega)
    have hq := thr_pos ql nn hp
    have e3 : (lst K q).toNat = p := by omega
    obtain ⟨i1, i2, i3, i4⟩ := bk_ok n (fw q p) (by omega) (by rw [fw_len, ql]) hq.2.2.2.2
    show (∀ i ∈ bk K n (fw q (lst K q).toNat) ++ [(lst K q).toNat], _) ∧ Ct K q (bk K n (fw q (lst K q).toNat) ++ [(lst K q).toNat]) ∧ rend K (bk K n (fw q (lst K q).toNat) ++ [(lst K q).toNat]) 0 = _ ∧ (bk K n (fw q (lst K q).toNat) ++ [(lst K q).toNat]).length = _
    rw [e3]
    refine ⟨fun i hi => ?_, fun i hi => ?_, ?_, by simp [i4]⟩
    · rcases List.mem_append.mp hi with z | z
      · exact i1 i z
      · rw [List.mem_singleton.mp z]; omega
    · have := i2 i hi
      rw [fw_num hq.1] at this
      rw [List.count_append, List.count_singleton]
      by_cases z : p = i
      · subst z
        rw [if_pos rfl] at this
        simp
        omega
      · rw [if_neg z] at this
        simp [z]
        exact this
    · rw [rend_snoc, i3, e2]
/-- the least whole -/
def lw (K : Bk6) (N : List Int) : Int := rup (le K N) (mx (als K (thr K N)))
def lrow (K : Bk6) (N : List Int) : List Nat := bk K (tl N) N
theorem gn_nn {K : Bk6} {N : List Int} (gn : GN K N) : ∀ n ∈ N, 0 ≤ n := fun n hn => (gn.ok n hn).1
theorem gn_tl {K : Bk6} {N : List Int} (gn : GN K N) : 0 < tl N := by
  obtain ⟨n, hn, h0⟩ := gn.pos
  have := mem_le_sum (gn_nn gn) n hn
  unfold tl
  omega
theorem lrow_ok {K : Bk6} {N : List Int} (gn : GN K N) : (∀ i ∈ lrow K N, i < K.length) ∧ Ct K N (lrow K N) ∧ rend K (lrow K N) 0 = le K N ∧ (lrow K N).length = tl N := bk_ok (tl N) N rfl gn.len (gn_nn gn)
theorem lrow_gr {K : Bk6} {N : List Int} (gn : GN K N) (h : N.sum ≤ 100) : GR K (lrow K N) := by
  obtain ⟨h1, h2, h3, h4⟩ := lrow_ok gn
  have := gn_tl gn
  exact ⟨by intro z; rw [z] at h4; simp at h4; omega, by unfold tl at h4; omega, h1⟩
theorem lrow_ne {K : Bk6} {N : List Int} (gn : GN K N) : lrow K N ≠ [] := by
  have h4 := (lrow_ok gn).2.2.2
  have := gn_tl gn
  intro z
  rw [z] at h4
  simp at h4
  omega
theorem lrow_whole {K : Bk6} {N : List Int} (gn : GN K N) : whole K (lrow K N) = lw K N := by
  obtain ⟨h1, h2, h3, h4⟩ := lrow_ok gn
  unfold whole lw
  rw [h3, ct_mx (lrow_ne gn) h1 h2]
theorem lw_lo {K : Bk6} {N : List Int} (g : GB K) (gn : GN K N) {r : List Nat} (ok : ∀ i ∈ r, i < K.length) (ct : Ct K N r) (ne : r ≠ []) : lw K N ≤ whole K r := by
  unfold whole lw
  rw [ct_mx ne ok ct]
  exact rup_mono (by have := (als_al g (gn.gr g)).pos; omega) (le_lo g _ r N rfl gn.len (gn_nn gn) ok ct)
end Lw

set_option Elab.async false
set_option linter.all false
set_option maxRecDepth 100000
namespace Ll
open PySem PySem.Spec L2 L3
abbrev d__law_up : FD := Pl.d__law_up
abbrev b__law_parts_0 : Ms := (mSet 3 (mOp oAdd (mVar 3) (mLc (iRange (aCons (mOp oAdd (mCall fInt (aCons (mVar 2) aNil)) (mC (.int 1))) aNil)) (gN 5) bYes (mOp oAdd (mVar 4) (mTup (aCons (mVar 5) aNil))) [5])))
abbrev b__law_parts_1 : Ms := (mSet 1 (mVar 3))
abbrev b__law_parts_2 : Ms := (mSeq (mFor (iSeq (mVar 1)) (gN 4) b__law_parts_0) b__law_parts_1)
abbrev b__law_parts_3 : Ms := (mSeq (mSet 3 (mLst aNil)) b__law_parts_2)
abbrev b__law_parts_4 : Ms := (mRet (mVar 1))
abbrev b__law_parts_5 : Ms := (mSeq (mFor (iSeq (mVar 0)) (gN 2) b__law_parts_3) b__law_parts_4)
abbrev b__law_parts_6 : Ms := (mSeq (mSet 1 (mLst (aCons (mTup aNil) aNil))) b__law_parts_5)
abbrev b__law_parts : Ms := b__law_parts_6
def d__law_parts : FD := mDef 1 6 b__law_parts
abbrev d__law_there : FD := Pl.d__law_there
abbrev d__law_top : FD := Pl.d__law_top
abbrev b__law_least_0 : Ms := (mDrop (mMeth fApp (mVar 4) (aCons (mOp oAdd (mCall (fDef d__law_up) (aCons (mOp oNGet (mVar 2) (mOp oAdd (mOp oAdd (mSl (mVar 3) oNone (oPart (mVar 5))) (mTup (aCons (mOp oSub (mOp oIx (mVar 3) (mVar 5)) (mC (.int 1))) aNil))) (mSl (mVar 3) (oPart (mOp oAdd (mVar 5) (mC (.int 1)))) oNone))) (aCons (mVar 7) aNil))) (mVar 6)) aNil)))
abbrev b__law_least_1 : Ms := (mSeq (mAsg (mOp oIx (mVar 0) (mVar 5)) (gTu 2 (gsCons (gN 6) (gsCons (gN 7) gsNil)))) b__law_least_0)
abbrev b__law_least_2 : Ms := (mNPut (mVar 2) (mVar 3) (mIte (mTest (mOp (oEq true) (mVar 4) (mLst aNil))) (mCall fMin (aCons (mVar 4) aNil)) (mC (.int 0))))
abbrev b__law_least_3 : Ms := (mSeq (mFor (iSeq (mCall (fDef d__law_there) (aCons (mVar 3) aNil))) (gN 5) b__law_least_1) b__law_least_2)
abbrev b__law_least_4 : Ms := (mSeq (mSet 4 (mNewL aNil)) b__law_least_3)
abbrev b__law_least_5 : Ms := (mRet (mCall (fDef d__law_up) (aCons (mOp oNGet (mVar 2) (mCall fTuple (aCons (mVar 1) aNil))) (aCons (mCall (fDef d__law_top) (aCons (mVar 0) (aCons (mVar 1) aNil))) aNil))))
abbrev b__law_least_6 : Ms := (mSeq (mFor (iSeq (mCall (fDef d__law_parts) (aCons (mVar 1) aNil))) (gN 3) b__law_least_4) b__law_least_5)
abbrev b__law_least_7 : Ms := (mSeq (mSet 2 mNNew) b__law_least_6)
abbrev b__law_least : Ms := b__law_least_7
def d__law_least : FD := mDefT 2 8 b__law_least
abbrev d_row_end : FD := Sh.d_row_end
abbrev d_row_whole : FD := Sh.d_row_whole
abbrev b_require_few_0 : Ms := mDead
abbrev b_require_few_1 : Ms := (mSet 1 (mOp oMul (mVar 1) (mOp oAdd (mVar 2) (mC (.int 1)))))
abbrev b_require_few_2 : Ms := mDead
abbrev b_require_few_3 : Ms := (mIf (mTest (mOp oGt (mVar 1) (mC (.int 256)))) b_require_few_2 mNext)
abbrev b_require_few_4 : Ms := (mSeq (mFor (iSeq (mVar 0)) (gN 2) b_require_few_1) b_require_few_3)
abbrev b_require_few_5 : Ms := (mSeq (mSet 1 (mC (.int 1))) b_require_few_4)
abbrev b_require_few_6 : Ms := (mSeq (mIf (mTest (mOp oGt (mCall fSumT (aCons (mVar 0) aNil)) (mC (.int 100)))) b_require_few_0 mNext) b_require_few_5)
abbrev b_require_few : Ms := b_require_few_6
def d_require_few : FD := mDef 1 3 b_require_few
abbrev b_parts_of_0 : Ms := (mSet 1 (mLc2 (iSeq (mVar 1)) (gN 3) bYes (iRange (aCons (mOp oAdd (mVar 2) (mC (.int 1))) aNil)) (gN 4) bYes (mOp oAdd (mVar 3) (mTup (aCons (mVar 4) aNil))) [3, 4] [4]))
abbrev b_parts_of_1 : Ms := (mRet (mVar 1))
abbrev b_parts_of_2 : Ms := (mSeq (mFor (iSeq (mVar 0)) (gN 2) b_parts_of_0) b_parts_of_1)
abbrev b_parts_of_3 : Ms := (mSeq (mSet 1 (mLst (aCons (mTup aNil) aNil))) b_parts_of_2)
abbrev b_parts_of : Ms := b_parts_of_3
def d_parts_of : FD := mDef 1 5 b_parts_of
abbrev d_places_there : FD := Pl.d_places_there
abbrev b_one_fewer_0 : Ms := (mRet (mOp oAdd (mOp oAdd (mSl (mVar 0) oNone (oPart (mVar 1))) (mTup (aCons (mOp oSub (mOp oIx (mVar 0) (mVar 1)) (mC (.int 1))) aNil))) (mSl (mVar 0) (oPart (mOp oAdd (mVar 1) (mC (.int 1)))) oNone)))
abbrev b_one_fewer : Ms := b_one_fewer_0
def d_one_fewer : FD := mDef 2 2 b_one_fewer
abbrev b_last_places_0 : Ms := (mAsg (mCall fMinD (aCons (mVar 6) aNil)) (gTu 2 (gsCons (gNPut (mVar 3) (mVar 5)) (gsCons (gNPut (mVar 4) (mVar 5)) gsNil))))
abbrev b_last_places_1 : Ms := (mSeq (mSet 6 (mLc (iSeq (mCall (fDef d_places_there) (aCons (mVar 5) aNil))) (gN 7) bYes (mTup (aCons (mCall (fDef d_row_end) (aCons (mVar 0) (aCons (mTup (aCons (mVar 7) aNil)) (aCons (mOp oNGet (mVar 3) (mCall (fDef d_one_fewer) (aCons (mVar 5) (aCons (mVar 7) aNil)))) aNil)))) (aCons (mVar 7) aNil))) [7])) b_last_places_0)
abbrev b_last_places_2 : Ms := (mRet (mVar 4))
abbrev b_last_places_3 : Ms := (mSeq (mFor (iSeq (mSl (mVar 2) (oPart (mC (.int 1))) oNone)) (gN 5) b_last_places_1) b_last_places_2)
abbrev b_last_places_4 : Ms := (mSeq (mSet 4 mNNew) b_last_places_3)
abbrev b_last_places_5 : Ms := (mSeq (mSet 3 (mNOne (mOp oIx (mVar 2) (mC (.int 0))) (mC (.int 0)))) b_last_places_4)
abbrev b_last_places_6 : Ms := (mSeq (mSet 2 (mCall (fDef d_parts_of) (aCons (mVar 1) aNil))) b_last_places_5)
abbrev b_last_places : Ms := b_last_places_6
def d_last_places : FD := mDef 2 8 b_last_places
abbrev b_least_row_0 : Ms := (mSet 4 (mCall (fDef d_one_fewer) (aCons (mVar 4) (aCons (mOp oNGet (mVar 2) (mVar 4)) aNil))))
abbrev b_least_row_1 : Ms := (mSeq (mDrop (mMeth fApp (mVar 3) (aCons (mOp oNGet (mVar 2) (mVar 4)) aNil))) b_least_row_0)
abbrev b_least_row_2 : Ms := (mRet (mCall fTuple (aCons (mRevL (mVar 3)) aNil)))
abbrev b_least_row_3 : Ms := (mSeq (mWhile (mTest (mOp (oNIn false) (mVar 4) (mVar 2))) b_least_row_1) b_least_row_2)
abbrev b_least_row_4 : Ms := (mSeq (mSet 4 (mVar 1)) b_least_row_3)
abbrev b_least_row_5 : Ms := (mSeq (mSet 3 (mNewL aNil)) b_least_row_4)
abbrev b_least_row_6 : Ms := (mSeq (mSet 2 (mCall (fDef d_last_places) (aCons (mVar 0) (aCons (mVar 1) aNil)))) b_least_row_5)
abbrev b_least_row_7 : Ms := (mSeq (mDrop (mCall (fDef d_require_few) (aCons (mVar 1) aNil))) b_least_row_6)
abbrev b_least_row : Ms := b_least_row_7
def d_least_row : FD := mDefT 2 5 b_least_row
abbrev b_least_whole_0 : Ms := (mRet (mCall (fDef d_row_whole) (aCons (mVar 0) (aCons (mCall (fDef d_least_row) (aCons (mVar 0) (aCons (mVar 1) aNil))) aNil))))
abbrev b_least_whole : Ms := b_least_whole_0
def d_least_whole : FD := mDef 2 2 b_least_whole
end Ll

set_option Elab.async false
set_option linter.all false
set_option maxRecDepth 100000
set_option maxHeartbeats 1000000
/-! parts, their least ends, a least row, the least whole -/
namespace Ll
open PySem PySem.Spec PySem.W L2 L3 Sh Pl Pq Wm Lw
theorem w_sumT {ns : List Int} {M : Mem} {Q : Kt} (q : Q (.int ns.sum) M) : fSumT [.d (recD ns)] M Q := by
  unfold fSumT recD
  simp only
  rw [intsOf_map]
  exact q
/-- records of few parts -/
structure GF (K : Bk6) (N : List Int) : Prop where
  gn : GN K N
  hd : N.sum ≤ 100
  few : prd N ≤ 256
theorem int_at {N : List Int} {i : Nat} {t : T} (h : ((N.map PyData.int).map T.d)[i]? = some t) : ∃ n, N[i]? = some n ∧ t = .int n ∧ i < N.length := by
  rw [List.getElem?_map, List.getElem?_map] at h
  cases q : N[i]? with
  | none => rw [q] at h; cases h
  | some n =>
    rw [q] at h
    cases h
    exact ⟨n, rfl, rfl, (List.getElem?_eq_some_iff.mp q).1⟩
theorem prd_nn {N : List Int} (nn : ∀ n ∈ N, 0 ≤ n) (i : Nat) : 1 ≤ prd (N.take i) ∧ prd (N.take i) ≤ prd N := ⟨prd_pos fun n hn => nn n (List.mem_of_mem_take hn), prd_take nn i⟩
theorem prd_snoc (N : List Int) (n : Int) : prd (N ++ [n]) = prd N * (n + 1) := by
  unfold prd
  rw [List.foldl_append]
  rfl
theorem sp_few {K : Bk6} {N : List Int} {D : List Cell} {Q : T → List Cell → Prop} (gf : GF K N) (q : Q .non D) : d_require_few [.d (recD N)] D Q := by
  have nn := gn_nn gf.gn
  refine ⟨rfl, w_seq (w_if (w_test (w_op (w_call (w_ac ⟨.d (recD N), rfl, w_an (w_sumT (w_c (w_gt ⟨_, rfl, ?_⟩)))⟩)))))⟩
  refine ifF (by have := gf.hd; simp; omega) (w_next ?_)
  show b_require_few_5 _ [some (.d (recD N)), none, none] _
  refine w_seq (w_set (w_c ?_))
  show b_require_few_4 _ [some (.d (recD N)), some (.int 1), none] _
  refine w_seq (w_for ?_)
  rw [x_iseq]
  refine ⟨.d (recD N), rfl, ?_⟩
  show goFor _ _ _ ((N.map PyData.int).map T.d) _ _
  refine for_all (fun i τ M => ∃ v, M = ⟨D, []⟩ ∧ τ = [some (.d (recD N)), some (.int (prd (N.take i))), v]) ⟨none, rfl, rfl⟩ ?_ ?_
  · rintro i τ M t R ht ⟨v, rfl, rfl⟩ k
    obtain ⟨n, hn, rfl, hi⟩ := int_at ht
    rw [x_gn]
    have a1 := (prd_nn nn i).2
    have a0 := (prd_nn nn i).1
    have a2 := prd_take nn (i + 1)
    rw [take_snoc hn, prd_snoc] at k a2
    have n0 := nn n (List.mem_of_getElem? hn)
    have few := gf.few
    have : n ≤ prd (N.take i) * (n + 1) := by
      have := Int.mul_le_mul_of_nonneg_right a0 (show 0 ≤ n + 1 by omega)
      omega
    refine w_set (w_op ⟨.int (prd (N.take i)), rfl, w_op ⟨.int n, rfl, w_c (w_add (w_mul ?_ ?_))⟩⟩)
    · unfold CMul; omega
    · exact k _ _ ⟨_, rfl, rfl⟩
  · rintro τ M ⟨v, rfl, rfl⟩
    rw [List.length_map, List.length_map, List.take_length]
    show b_require_few_3 _ [some (.d (recD N)), some (.int (prd N)), v] _
    refine w_if (w_test (w_op ⟨.int (prd N), rfl, w_c (w_gt ⟨_, rfl, ?_⟩)⟩))
    exact ifF (by have := gf.few; simp; omega) (w_next q)
theorem ext_len {P : List (List Int)} {n : Int} {N : List Int} (h : PO N P) (hn : 0 ≤ n) : ((extp P n).length : Int) = prd (N ++ [n]) := (ext_po h hn).len
theorem recD_snoc (p : List Int) (s : Int) : PyData.tuple (p.map PyData.int ++ [.int s]) = recD (p ++ [s]) := by
  unfold recD
  rw [List.map_append]
  rfl
theorem rec_at {P : List (List Int)} {i : Nat} {t : T} (h : ((P.map recD).map T.d)[i]? = some t) : ∃ p, P[i]? = some p ∧ t = .d (recD p) ∧ i < P.length := by
  rw [List.getElem?_map, List.getElem?_map] at h
  cases q : P[i]? with
  | none => rw [q] at h; cases h
  | some n =>
    rw [q] at h
    cases h
    exact ⟨n, rfl, rfl, (List.getElem?_eq_some_iff.mp q).1⟩
/-- what one part becomes -/
def ex1 (p : List Int) (n : Int) : List (List Int) := (List.range (n + 1).toNat).map fun (s : Nat) => p ++ [(s : Int)]
theorem ex1_D (p : List Int) (n : Int) : (ex1 p n).map recD = (List.range (n + 1).toNat).map fun (s : Nat) => recD (p ++ [(s : Int)]) := by
  unfold ex1
  rw [List.map_map]
  rfl
theorem extp_eq (P : List (List Int)) (n : Int) : extp P n = P.flatMap fun p => ex1 p n := rfl
theorem lc2_go {n : Int} (hn : 0 ≤ n) (h256 : n ≤ 256) {D : List Cell} {a b : Option T} {F : List PyData → Mem → Prop} :
    ∀ (P : List (List Int)) (acc : List PyData), (∀ p ∈ P, p.length ≤ 6) → acc.length + (extp P n).length ≤ 100000 → F (acc ++ (extp P n).map recD) ⟨D, []⟩ →
    goLc2 (gN 3) bYes (iRange (aCons (mOp oAdd (mVar 2) (mC (.int 1))) aNil)) (gN 4) bYes (mOp oAdd (mVar 3) (mTup (aCons (mVar 4) aNil))) [4] [a, b, some (.int n), none, none] F ((P.map recD).map T.d) acc ⟨D, []⟩
  | [], acc, _, _, q => by
    show F acc ⟨D, []⟩
    simpa [extp] using q
  | p :: P, acc, hp, hl, q => by
    rw [extp_eq, List.flatMap_cons, List.length_append] at hl
    rw [extp_eq, List.flatMap_cons, List.map_append] at q
    have e1 : (ex1 p n).length = (n + 1).toNat := by simp [ex1]
    show gN 3 (.d (recD p)) _ _ _
    rw [x_gn]
    refine w_yes (ifT rfl ?_)
    rw [x_irange]
    refine w_ac (w_op ⟨.int n, rfl, w_c (w_add (w_an ?_))⟩)
    refine ⟨⟨by omega, by omega⟩, ?_⟩
    show goLc _ _ _ [a, b, some (.int n), some (.d (recD p)), none] _ _ _ _
    have hp6 := hp p List.mem_cons_self
    have key : ∀ (l : List Nat) (ac : List PyData), ac.length + l.length + (P.flatMap fun p => ex1 p n).length ≤ 100000 → F (ac ++ (l.map fun (s : Nat) => recD (p ++ [(s : Int)])) ++ (P.flatMap fun p => ex1 p n).map recD) ⟨D, []⟩ →
        goLc (gN 4) bYes (mOp oAdd (mVar 3) (mTup (aCons (mVar 4) aNil))) [a, b, some (.int n), some (.d (recD p)), none] (goLc2 (gN 3) bYes (iRange (aCons (mOp oAdd (mVar 2) (mC (.int 1))) aNil)) (gN 4) bYes (mOp oAdd (mVar 3) (mTup (aCons (mVar 4) aNil))) [4] [a, b, some (.int n), none, none] F ((P.map recD).map T.d)) (l.map fun (s : Nat) => T.int (s : Int)) ac ⟨D, []⟩ := by
      intro l
      induction l with
      | nil =>
        intro ac hl q
        show goLc2 _ _ _ _ _ _ _ _ _ _ ac _
        refine lc2_go hn h256 P ac (fun p hp' => hp p (List.mem_cons_of_mem _ hp')) (by rw [extp_eq]; rw [List.length_nil] at hl; omega) ?_
        rw [extp_eq]
        simpa using q
      | cons s l ih =>
        intro ac hl q
        show gN 4 (.int (s : Int)) _ _ _
        rw [x_gn]
        refine w_yes (ifT rfl ?_)
        refine w_op ⟨.d (recD p), rfl, w_tup (w_ac ⟨.int (s : Int), rfl, w_an ⟨sz1, w_catT (sz64' (by simp; omega)) ?_⟩⟩)⟩
        rw [List.length_cons] at hl
        refine ⟨sz64 (by omega), ?_⟩
        rw [recD_snoc]
        refine ih _ (by rw [List.length_append, List.length_singleton]; omega) ?_
        rw [List.map_cons] at q
        simpa using q
    have := key (List.range (n + 1).toNat) acc (by rw [List.length_range]; omega) (by rw [ex1_D] at q; simpa using q)
    exact this
theorem po_six {N : List Int} (nn : ∀ n ∈ N, 0 ≤ n) (h6 : N.length ≤ 6) (i : Nat) : ∀ p ∈ prts (N.take i), p.length ≤ 6 := fun p hp => by
  have := (((prts_ok fun n hn => nn n (List.mem_of_mem_take hn)).mem p).mp hp).1
  rw [List.length_take] at this
  omega
theorem sp_parts {K : Bk6} {N : List Int} {D : List Cell} {Q : T → List Cell → Prop} (g : GB K) (gf : GF K N) (q : Q (.lst ((prts N).map recD)) D) : d_parts_of [.d (recD N)] D Q := by
  have nn := gn_nn gf.gn
  have h6 : N.length ≤ 6 := by have := gf.gn.len; have := g.six; omega
  refine ⟨rfl, w_seq (w_set ?_)⟩
  rw [x_lst]
  refine w_ac (w_tup (w_an ⟨Nat.zero_le _, w_an ⟨sz1, ?_⟩⟩))
  show b_parts_of_2 _ [some (.d (recD N)), some (.lst ((prts (N.take 0)).map recD)), none, none, none] _
  refine w_seq (w_for ?_)
  rw [x_iseq]
  refine ⟨.d (recD N), rfl, ?_⟩
  show goFor _ _ _ ((N.map PyData.int).map T.d) _ _
  refine for_all (fun i τ M => ∃ v c d, M = ⟨D, []⟩ ∧ τ = [some (.d (recD N)), some (.lst ((prts (N.take i)).map recD)), v, c, d]) ⟨none, none, none, rfl, rfl⟩ ?_ ?_
  · rintro i τ M t R ht ⟨v, c, d, rfl, rfl⟩ k
    obtain ⟨n, hn, rfl, hi⟩ := int_at ht
    rw [x_gn]
    have n0 := nn n (List.mem_of_getElem? hn)
    have a0 := (prd_nn nn i).1
    have a2 := prd_take nn (i + 1)
    have po := prts_ok fun n hn => nn n (List.mem_of_mem_take (i := i) hn)
    have el := ext_len po n0
    rw [take_snoc hn, prts_snoc] at k
    rw [take_snoc hn, prd_snoc] at a2
    rw [prd_snoc] at el
    have few := gf.few
    have : n + 1 ≤ prd (N.take i) * (n + 1) := by
      have := Int.mul_le_mul_of_nonneg_right a0 (show 0 ≤ n + 1 by omega)
      omega
    refine w_set ?_
    show mLc2 _ _ _ _ _ _ _ _ _ [some (.d (recD N)), some (.lst ((prts (N.take i)).map recD)), some (.int n), c, d] _ _
    unfold mLc2
    rw [x_iseq]
    refine ⟨_, rfl, ?_⟩
    show goLc2 _ _ _ _ _ _ _ [some (.d (recD N)), some (.lst ((prts (N.take i)).map recD)), some (.int n), none, none] _ (((prts (N.take i)).map recD).map T.d) _ _
    refine lc2_go n0 (by omega) _ [] (po_six nn h6 i) (by rw [List.length_nil]; omega) ?_
    exact k _ _ ⟨_, _, _, rfl, rfl⟩
  · rintro τ M ⟨v, c, d, rfl, rfl⟩
    rw [List.length_map, List.length_map, List.take_length]
    show b_parts_of_1 _ [some (.d (recD N)), some (.lst ((prts N).map recD)), v, c, d] _
    refine w_ret ?_
    exact ⟨_, rfl, rfl, q⟩
theorem ex1_go {p : List Int} {n : Int} {D : List Cell} {a b c d : Option T} {F : List PyData → Mem → Prop} (hp : p.length ≤ 6) (h256 : n ≤ 256) (q : F ((ex1 p n).map recD) ⟨D, []⟩) :
    goLc (gN 5) bYes (mOp oAdd (mVar 4) (mTup (aCons (mVar 5) aNil))) [a, b, c, d, some (.d (recD p)), none] F ((List.range (n + 1).toNat).map fun (s : Nat) => T.int (s : Int)) [] ⟨D, []⟩ := by
  refine lc_pure (ts := List.range (n + 1).toNat) (fun (s : Nat) => recD (p ++ [(s : Int)])) (sz64' (by rw [List.length_range]; omega)) (fun s acc R hs ha hr => ?_) ?_
  · show gN 5 (.int (s : Int)) _ _ _
    rw [x_gn]
    refine w_op ⟨.d (recD p), rfl, w_tup (w_ac ⟨.int (s : Int), rfl, w_an ⟨sz1, w_catT (sz64' (by simp; omega)) ?_⟩⟩)⟩
    refine ⟨ha, ?_⟩
    rw [recD_snoc]
    exact hr
  · rw [ex1_D] at q
    exact q
theorem sp_law_parts {K : Bk6} {N : List Int} {D : List Cell} {Q : T → List Cell → Prop} (g : GB K) (gf : GF K N) (q : Q (.lst ((prts N).map recD)) D) : d__law_parts [.d (recD N)] D Q := by
  have nn := gn_nn gf.gn
  have h6 : N.length ≤ 6 := by have := gf.gn.len; have := g.six; omega
  refine ⟨rfl, w_seq (w_set ?_)⟩
  rw [x_lst]
  refine w_ac (w_tup (w_an ⟨Nat.zero_le _, w_an ⟨sz1, ?_⟩⟩))
  show b__law_parts_5 _ [some (.d (recD N)), some (.lst ((prts (N.take 0)).map recD)), none, none, none, none] _
  refine w_seq (w_for ?_)
  rw [x_iseq]
  refine ⟨.d (recD N), rfl, ?_⟩
  show goFor _ _ _ ((N.map PyData.int).map T.d) _ _
  refine for_all (fun i τ M => ∃ v b c d, M = ⟨D, []⟩ ∧ τ = [some (.d (recD N)), some (.lst ((prts (N.take i)).map recD)), v, b, c, d]) ⟨none, none, none, none, rfl, rfl⟩ ?_ ?_
  · rintro i τ M t R ht ⟨v, b, c, d, rfl, rfl⟩ k
    obtain ⟨n, hn, rfl, hi⟩ := int_at ht
    rw [x_gn]
    have n0 := nn n (List.mem_of_getElem? hn)
    have a0 := (prd_nn nn i).1
    have a2 := prd_take nn (i + 1)
    have po := prts_ok fun n hn => nn n (List.mem_of_mem_take (i := i) hn)
    have el := ext_len po n0
    rw [take_snoc hn, prts_snoc] at k
    rw [take_snoc hn, prd_snoc] at a2
    rw [prd_snoc] at el
    have few := gf.few
    have : n + 1 ≤ prd (N.take i) * (n + 1) := by
      have := Int.mul_le_mul_of_nonneg_right a0 (show 0 ≤ n + 1 by omega)
      omega
    have p6 := po_six nn h6 i
    generalize prts (N.take i) = P at k el p6
    refine w_seq (w_set ?_)
    rw [x_lst]
    refine w_an ⟨Nat.zero_le _, ?_⟩
    show b__law_parts_2 _ [some (.d (recD N)), some (.lst (P.map recD)), some (.int n), some (.lst []), c, d] _
    refine w_seq (w_for ?_)
    rw [x_iseq]
    refine ⟨_, rfl, ?_⟩
    show goFor _ _ _ ((P.map recD).map T.d) _ _
    refine for_all (fun j τ M => ∃ c d, M = ⟨D, []⟩ ∧ τ = [some (.d (recD N)), some (.lst (P.map recD)), some (.int n), some (.lst ((extp (P.take j) n).map recD)), c, d]) ⟨_, _, rfl, rfl⟩ ?_ ?_
    · rintro j τ M t R ht ⟨c, d, rfl, rfl⟩ k
      obtain ⟨p, hp, rfl, hj⟩ := rec_at ht
      rw [x_gn]
      have e : extp (P.take (j + 1)) n = extp (P.take j) n ++ ex1 p n := by
        rw [take_snoc hp, extp_eq, extp_eq, List.flatMap_append]
        simp
      rw [e] at k
      have z1 : (ex1 p n).length = (n + 1).toNat := by simp [ex1]
      have z2 : (extp (P.take j) n).length ≤ (extp P n).length := by
        rw [flat_len, flat_len, List.length_take]
        exact Nat.mul_le_mul_right _ (by omega)
      refine w_set (w_op ⟨_, rfl, ?_⟩)
      refine w_lc ?_
      rw [x_irange]
      refine w_ac (w_op (w_call (w_ac ⟨.int n, rfl, w_an (w_int (w_c (w_add (w_an ?_))))⟩)))
      refine ⟨⟨by omega, by omega⟩, ?_⟩
      refine ex1_go (p6 p (List.mem_of_getElem? hp)) (by omega) ?_
      refine w_catL (sz64' (by rw [List.length_map, List.length_map]; omega)) ?_
      rw [List.map_append] at k
      exact k _ _ ⟨_, _, rfl, rfl⟩
    · rintro τ M ⟨c, d, rfl, rfl⟩
      rw [List.length_map, List.length_map, List.take_length]
      show b__law_parts_1 _ [some (.d (recD N)), some (.lst (P.map recD)), some (.int n), some (.lst ((extp P n).map recD)), c, d] _
      refine w_set ⟨_, rfl, ?_⟩
      exact k _ _ ⟨_, _, _, _, rfl, rfl⟩
  · rintro τ M ⟨v, b, c, d, rfl, rfl⟩
    rw [List.length_map, List.length_map, List.take_length]
    show b__law_parts_4 _ [some (.d (recD N)), some (.lst ((prts N).map recD)), v, b, c, d] _
    refine w_ret ?_
    exact ⟨_, rfl, rfl, q⟩
theorem set_cut {N : List Int} {p : Nat} {x : Int} (h : p < N.length) : (N.map PyData.int).take p ++ [.int x] ++ (N.map PyData.int).drop (p + 1) = (N.set p x).map .int := by
  rw [List.map_set, List.set_eq_take_append_cons_drop, if_pos (by simpa using h)]
  simp
theorem at_rec {N : List Int} {i : Nat} (h : i < N.length) : atI (N.map PyData.int) (i : Int) = some (.int (num N i)) := by
  refine atI_nat ?_
  rw [List.getElem?_map, List.getElem?_eq_getElem h, num_at h]
  rfl
/-- part[:place] + (part[place] - 1,) + part[place + 1:], with part in slot a and place in slot b -/
theorem w_fewer {q : List Int} {p a b : Nat} {τ : En} {M : Mem} {Q : Kt} (h6 : q.length ≤ 6) (hp : p < q.length) (ha : τ[a]? = some (some (.d (recD q)))) (hb : τ[b]? = some (some (.int (p : Int)))) (k : Q (.d (recD (fw q p))) M) :
    mOp oAdd (mOp oAdd (mSl (mVar a) oNone (oPart (mVar b))) (mTup (aCons (mOp oSub (mOp oIx (mVar a) (mVar b)) (mC (.int 1))) aNil))) (mSl (mVar a) (oPart (mOp oAdd (mVar b) (mC (.int 1)))) oNone) τ M Q := by
  have c1 : cutT (q.map PyData.int) none (some (p : Int)) = (q.map PyData.int).take p := cut_to (by simp; omega)
  have c2 : cutT (q.map PyData.int) (some ((p : Int) + 1)) none = (q.map PyData.int).drop (p + 1) := by
    have := cut_from (l := q.map PyData.int) (p := p + 1) (by simp; omega)
    rw [← this]
    rfl
  refine w_op (w_op (w_slT hb ⟨_, ha, ?_⟩))
  show oSl (.d (.tuple (q.map .int))) none (some (p : Int)) _ _
  rw [x_sltup, c1]
  refine w_tup (w_ac (w_op (w_op ⟨_, ha, _, hb, ?_⟩)))
  show oIx (.d (.tuple (q.map .int))) (.d (.int (p : Int))) _ _
  refine ⟨_, at_rec hp, w_c (w_sub (w_an ⟨sz1, w_catT ?_ ?_⟩))⟩
  · exact sz64' (by rw [List.length_take, List.length_map]; show min p q.length + 1 ≤ _; omega)
  simp only [x_sl, x_onone, x_opart]
  refine ⟨_, ha, w_op ⟨_, hb, w_c (w_add ?_)⟩⟩
  show oSl (.d (.tuple (q.map .int))) (some ((p : Int) + 1)) none _ _
  rw [x_sltup, c2]
  refine w_catT (sz64' (by rw [List.length_append, List.length_take, List.length_map, List.length_drop, List.length_map]; show min p q.length + 1 + (q.length - (p + 1)) ≤ _; omega)) ?_
  rw [set_cut hp]
  exact k
theorem sp_fewer {q : List Int} {p : Nat} {D : List Cell} {Q : T → List Cell → Prop} (h6 : q.length ≤ 6) (hp : p < q.length) (k : Q (.d (recD (fw q p))) D) : d_one_fewer [.d (recD q), .int (p : Int)] D Q := by
  refine ⟨rfl, w_ret (w_fewer h6 hp rfl rfl ?_)⟩
  exact ⟨rfl, k⟩
end Ll

set_option Elab.async false
set_option linter.all false
set_option maxRecDepth 100000
set_option maxHeartbeats 1000000
/-! the dicts of least ends and last places; a least row -/
namespace Ll
open PySem PySem.Spec PySem.W L2 L3 Sh Pl Pq Wm Lw
def recK (N : List Int) : NestedKey := .tup (N.map .num)
theorem datas_num (N : List Int) : NestedKey.datas (N.map .num) = N.map .int := by
  induction N with
  | nil => rfl
  | cons n N ih =>
    rw [List.map_cons, List.map_cons, NestedKey.datas, ih]
    rfl
theorem recK_ok (N : List Int) : okKey 8 (recK N) = true := by
  unfold recK
  rw [okKey]
  induction N with
  | nil => rfl
  | cons n N ih =>
    rw [List.map_cons, okKeys, ih]
    rfl
theorem rec_key (N : List Int) : keyT (.d (recD N)) (recK N) := ⟨N.map .num, rfl, by rw [datas_num]; rfl, recK_ok N⟩
theorem recK_inj {N P : List Int} (h : recK N = recK P) : N = P := by
  unfold recK at h
  injection h with h
  exact (List.map_inj_right (fun x y z => by injection z)).mp h
def dk (f : List Int → Int) (P : List (List Int)) : List (NestedKey × T) := P.map fun q => (recK q, .int (f q))
theorem look_in {f : List Int → Int} {q : List Int} : ∀ {P : List (List Int)}, q ∈ P → lookN (dk f P) (recK q) = some (.int (f q))
  | p :: P, h => by
    by_cases z : p = q
    · subst z
      simp [lookN, dk]
    · have z2 : ¬ recK p = recK q := fun e => z (recK_inj e)
      have ih := look_in (f := f) (P := P) ((List.mem_cons.mp h).resolve_left fun e => z e.symm)
      unfold lookN dk at ih ⊢
      rw [List.map_cons, List.find?_cons]
      simp only [z2, decide_false]
      exact ih
theorem look_out {f : List Int → Int} {q : List Int} : ∀ {P : List (List Int)}, q ∉ P → lookN (dk f P) (recK q) = none
  | [], _ => rfl
  | p :: P, h => by
    have z2 : ¬ recK p = recK q := fun e => h (by rw [recK_inj e]; exact List.mem_cons_self)
    have ih := look_out (f := f) (P := P) fun e => h (List.mem_cons_of_mem _ e)
    unfold lookN dk at ih ⊢
    rw [List.map_cons, List.find?_cons]
    simp only [z2, decide_false]
    exact ih
theorem put_out {f : List Int → Int} {q : List Int} {P : List (List Int)} (h : q ∉ P) : putN (dk f P) (recK q) (.int (f q)) = dk f (P ++ [q]) := by
  unfold L3.putN
  rw [look_out h, if_neg (by simp)]
  unfold dk
  rw [List.map_append]
  rfl
theorem lc_there0 {K : Bk6} {N : List Int} {τ : En} {M : Mem} {F : List PyData → Mem → Prop} (h6 : K.length ≤ 6) (hl : N.length = K.length) (hτ : τ.length = 3) (q : F ((thr K N).map ix) M) :
    goLc (gTu 2 (gsCons (gN 1) (gsCons (gN 2) gsNil))) (mTest (mOp oGt (mVar 2) (mC (.int 0)))) (mVar 1) τ F (enumT (N.map .int)) [] M := by
  obtain ⟨a, b, c, rfl⟩ : ∃ a b c, τ = [a, b, c] := by
    match τ, hτ with
    | [a, b, c], _ => exact ⟨a, b, c, rfl⟩
  unfold enumT
  refine lc_pf (ts := List.range (N.map PyData.int).length) (fun i => decide (0 < num N i)) (fun i => ix i) (sz64' (by simp; omega)) (fun x acc R hx ha hr => ?_) ?_
  · have hx' : x < N.length := by simpa using hx
    rw [num_getD hx']
    simp
    by_cases hz : 0 < num N x
    · rw [if_pos (decide_eq_true hz)] at hr
      exact .inr ⟨hz, ha, hr⟩
    · rw [if_neg (by simpa using hz)] at hr
      exact .inl ⟨by omega, hr⟩
  · simp
    have e : (List.range N.length).filter (fun i => decide (0 < num N i)) = thr K N := by rw [hl]; rfl
    rw [e]
    exact q
theorem sp_places0 {K : Bk6} {N : List Int} {D : List Cell} {Q : T → List Cell → Prop} (h6 : K.length ≤ 6) (hl : N.length = K.length) (q : Q (.lst ((thr K N).map ix)) D) : d_places_there [.d (recD N)] D Q := by
  refine ⟨rfl, ?_⟩
  simp only [x_ret, x_lc, x_ienum, x_acons, x_anil, x_var]
  simp [recD, wipeT]
  exact lc_there0 h6 hl rfl q
theorem sp_there0 {K : Bk6} {N : List Int} {D : List Cell} {Q : T → List Cell → Prop} (h6 : K.length ≤ 6) (hl : N.length = K.length) (q : Q (.lst ((thr K N).map ix)) D) : d__law_there [.d (recD N)] D Q := by
  refine ⟨rfl, ?_⟩
  simp only [x_ret, x_lc, x_ienum, x_acons, x_anil, x_var]
  simp [recD, wipeT]
  exact lc_there0 h6 hl rfl q
theorem g2_0 {α : Type} (D : List α) (x y : α) : (D ++ [x, y])[D.length]? = some x := by simp
theorem g2_1 {α : Type} (D : List α) (x y : α) : (D ++ [x, y])[D.length + 1]? = some y := by simp
theorem s2_0 {α : Type} (D : List α) (x y z : α) : (D ++ [x, y]).set D.length z = D ++ [z, y] := by simp
theorem s2_1 {α : Type} (D : List α) (x y z : α) : (D ++ [x, y]).set (D.length + 1) z = D ++ [x, z] := by simp
def eD (p : Int × Int) : PyData := .tuple [.int p.1, .int p.2]
theorem min_prs {l : List (Int × Int)} {M : Mem} {Q : Kt} (h : l ≠ []) (q : Q (.d (eD (bpl l))) M) : fMinD [.lst (l.map eD)] M Q := by
  cases l with
  | nil => exact (h rfl).elim
  | cons x l =>
    have e : (x :: l).map eD = (x :: l).map (Datum.toD : Int × Int → PyData) := rfl
    refine ⟨⟨?_, ?_⟩, ?_⟩
    · have := alikeAll_datum (x :: l)
      exact this
    · have := depthAll_map (x :: l)
      refine Nat.le_trans this ?_
      decide
    · have e2 : minD (eD x) (l.map eD) = eD (minOf x l) := minD_map x l
      have : Q (.d (minD (eD x) (l.map eD))) M := by
        rw [e2]
        exact q
      exact this
/-- the environment of last_places -/
abbrev Le (K : Bk6) (N : List Int) (n : Nat) (a b c : Option T) : En := [some (.d (bkD K)), some (.d (recD N)), some (.lst ((prts N).map recD)), some (.mr n), some (.mr (n + 1)), a, b, c]
def LD (D : List Cell) (K : Bk6) (N : List Int) (i : Nat) : List Cell := D ++ [.dnk (dk (le K) ((prts N).take (i + 1))), .dnk (dk (lst K) (((prts N).drop 1).take i))]
theorem few_len {K : Bk6} {N : List Int} (gf : GF K N) : (prts N).length ≤ 256 := by
  have := (prts_ok (gn_nn gf.gn)).len
  have := gf.few
  omega
theorem last_1 {K : Bk6} {N q : List Int} {D : List Cell} {i : Nat} {E : Es} {b c : Option T} (g : GB K) (gf : GF K N) (hq : ((prts N).drop 1)[i]? = some q) (k : ∀ a b c, E.nx (Le K N D.length a b c) ⟨LD D K N (i + 1), []⟩) :
    b_last_places_1 E (Le K N D.length (some (.d (recD q))) b c) ⟨LD D K N i, []⟩ := by
  have nn := gn_nn gf.gn
  have hl := gf.gn.len
  have h6 := g.six
  have po := prts_ok nn
  rw [List.getElem?_drop, Nat.add_comm] at hq
  have hm := List.mem_of_getElem? hq
  obtain ⟨ql, qn⟩ := (po.mem q).mp hm
  have fl := few_len gf
  have hi : i + 1 < (prts N).length := (List.getElem?_eq_some_iff.mp hq).1
  have nq : ∀ n ∈ q, 0 ≤ n := fun n hn => by
    obtain ⟨j, hj, e⟩ := List.getElem_of_mem hn
    have := (qn j (by omega)).1
    rw [num_at hj, e] at this
    exact this
  have tq : 0 < tl q := by
    rcases Nat.eq_zero_or_pos (tl q) with z | z
    · have nd := prts_nd nn
      have h0 := po.hd
      have e : q = List.replicate N.length 0 := by
        refine List.ext_getElem (by simp [ql]) fun j h1 h2 => ?_
        have t0 : thr K q = [] := thr_nil (by omega) nq z
        have : ¬ 0 < num q j := fun y => by
          have : j ∈ thr K q := thr_mem.mpr ⟨by omega, y⟩
          rw [t0] at this
          cases this
        have := (qn j (by omega)).1
        rw [List.getElem_replicate, ← num_at h1]
        omega
      rw [← e] at h0
      have := (List.getElem?_inj (i := i + 1) (j := 0) hi nd).mp (hq.trans h0.symm)
      omega
    · exact z
  have pne : prs K q ≠ [] := by
    unfold prs
    intro z
    exact thr_ne (by omega) tq nq (List.map_eq_nil_iff.mp z)
  refine w_seq (w_set (w_lc ?_))
  rw [x_iseq]
  refine w_call (w_ac ⟨.d (recD q), rfl, w_an ⟨by simp, sp_places0 (by omega) (by omega) ?_⟩⟩)
  show goLc _ _ _ (Le K N D.length (some (.d (recD q))) b none) _ (((thr K q).map ix).map T.d) [] ⟨LD D K N i, []⟩
  rw [List.map_map]
  refine lc_pure (ts := thr K q) (fun p => eD (sfin K p (le K (fw q p)), (p : Int))) (sz64' (by have := (List.length_filter_le (fun i => decide (0 < num q i)) (List.range K.length)); rw [List.length_range] at this; unfold thr; omega)) (fun p acc R hp ha hr => ?_) ?_
  · obtain ⟨hp1, hp2⟩ := thr_mem.mp hp
    show gN 7 (.int (p : Int)) _ _ _
    rw [x_gn]
    have hc : ∀ R : T → Mem → Prop, R (.d (.int (le K (fw q p)))) ⟨LD D K N i, []⟩ → oNGet (.mr D.length) (.d (recD (fw q p))) ⟨LD D K N i, []⟩ R := fun R h =>
      ⟨D.length, recK (fw q p), _, _, rfl, rec_key _, g2_0 D _ _, look_in (fw_ahead nn hq (by omega) hp2), h⟩
    refine w_tup (w_ac (w_call (w_ac ⟨.d (bkD K), rfl, w_ac (w_tup (w_ac ⟨.int (p : Int), rfl, w_an ⟨sz1, w_ac (w_op ⟨.mr D.length, rfl, w_call (w_ac ⟨.d (recD q), rfl, w_ac ⟨.int (p : Int), rfl, w_an ⟨by simp, sp_fewer (by omega) (by omega) (hc _ (w_an ⟨by simp, ?_⟩))⟩⟩⟩)⟩)⟩⟩))⟩)))
    refine sp_row_end (r := [p]) g ⟨by simp, by simp, fun i hi => by rw [List.mem_singleton.mp hi]; exact hp1⟩ ?_
    exact w_ac ⟨.int (p : Int), rfl, w_an ⟨two_ok, ha, hr⟩⟩
  · show b_last_places_0 _ (Le K N D.length (some (.d (recD q))) (some (.lst _)) c) _
    have e : (thr K q).map (fun p => eD (sfin K p (le K (fw q p)), (p : Int))) = (prs K q).map eD := by
      unfold prs
      rw [List.map_map]
      rfl
    rw [e]
    refine Wm.w_asg (w_call (w_ac ⟨_, rfl, w_an (min_prs pne ?_)⟩))
    rw [← lel_eq (by omega) nq]
    show gTu 2 _ (.d (.tuple [.int (le K q), .int (lst K q)])) _ _ _
    have nq0 : q ∉ (prts N).take (i + 1) := fun h => by
      obtain ⟨j, hj, e⟩ := List.mem_take_iff_getElem.mp h
      have := (List.getElem?_inj (i := j) (j := i + 1) (by omega) (prts_nd nn)).mp (by rw [hq, ← e]; exact List.getElem?_eq_getElem _)
      omega
    have nq1 : q ∉ ((prts N).drop 1).take i := fun h => by
      obtain ⟨j, hj, e⟩ := List.mem_take_iff_getElem.mp h
      rw [List.getElem_drop] at e
      rw [List.length_drop] at hj
      have := (List.getElem?_inj (i := 1 + j) (j := i + 1) (by omega) (prts_nd nn)).mp (by rw [hq, ← e]; exact List.getElem?_eq_getElem _)
      omega
    refine ⟨rfl, ?_⟩
    refine ⟨_, rfl, _, rfl, D.length, recK q, _, rfl, rec_key q, g2_0 D _ _, rfl, sz64 (by unfold dk; rw [List.length_map, List.length_take]; omega), ?_⟩
    rw [put_out nq0]
    dsimp only
    unfold LD
    rw [s2_0]
    refine ⟨_, rfl, _, rfl, D.length + 1, recK q, _, rfl, rec_key q, g2_1 D _ _, rfl, sz64 (by unfold dk; rw [List.length_map, List.length_take]; omega), ?_⟩
    rw [put_out nq1]
    dsimp only
    rw [s2_1]
    have k := k (some (.d (recD q))) (some (.lst ((prs K q).map eD))) c
    unfold LD at k
    have e2 : ((prts N).drop 1)[i]? = some q := by rw [List.getElem?_drop, Nat.add_comm]; exact hq
    rw [take_snoc hq, take_snoc e2] at k
    exact ⟨rfl, k⟩
theorem at_rec0 {P : List (List Int)} {z : List Int} (h : P[0]? = some z) : atI (P.map recD) 0 = some (recD z) := by
  have : atI (P.map recD) ((0 : Nat) : Int) = some (recD z) := atI_nat (by rw [List.getElem?_map, h]; rfl)
  exact this
theorem app_two {α : Type} (D : List α) (x y : α) : D ++ [x] ++ [y] = D ++ [x, y] := by simp
theorem set_last {α : Type} (D : List α) (x y : α) : (D ++ [x]).set D.length y = D ++ [y] := by simp
theorem get_last {α : Type} (D : List α) (x : α) : (D ++ [x])[D.length]? = some x := by simp
theorem zero_le' {K : Bk6} {N : List Int} (gn : GN K N) : le K (List.replicate N.length 0) = 0 := by
  refine le_nil ?_
  unfold tl
  have : ∀ n : Nat, (List.replicate n (0 : Int)).sum = 0 := fun n => by
    induction n with
    | zero => rfl
    | succ n ih => rw [List.replicate_succ, List.sum_cons, ih]; rfl
  rw [this]
  rfl
/-- what last_places makes -/
def LDe (D : List Cell) (K : Bk6) (N : List Int) : List Cell := D ++ [.dnk (dk (le K) (prts N)), .dnk (dk (lst K) ((prts N).drop 1))]
theorem sp_last_places {K : Bk6} {N : List Int} {D : List Cell} {Q : T → List Cell → Prop} (g : GB K) (gf : GF K N) (q : Q (.mr (D.length + 1)) (LDe D K N)) : d_last_places [.d (bkD K), .d (recD N)] D Q := by
  have nn := gn_nn gf.gn
  have po := prts_ok nn
  have fl := few_len gf
  refine ⟨rfl, w_seq (w_set (w_call (w_ac ⟨.d (recD N), rfl, w_an ⟨by simp, sp_parts g gf ?_⟩⟩)))⟩
  show b_last_places_5 _ [some (.d (bkD K)), some (.d (recD N)), some (.lst ((prts N).map recD)), none, none, none, none, none] ⟨D, []⟩
  refine w_seq (w_set ?_)
  unfold mNOne
  refine w_op ⟨_, rfl, w_c ?_⟩
  show oIx (.d (.list ((prts N).map recD))) (.d (.int 0)) _ _
  refine ⟨_, at_rec0 po.hd, w_c ⟨recK (List.replicate N.length 0), rec_key _, rfl, get_last D _, ?_⟩⟩
  dsimp only
  rw [set_last]
  show b_last_places_4 _ [some (.d (bkD K)), some (.d (recD N)), some (.lst ((prts N).map recD)), some (.mr D.length), none, none, none, none] ⟨D ++ [.dnk [(recK (List.replicate N.length 0), .int 0)]], []⟩
  refine w_seq (w_set (w_nnew ?_))
  dsimp only
  rw [app_two, List.length_append]
  have e0 : dk (le K) ((prts N).take (0 + 1)) = [(recK (List.replicate N.length 0), .int 0)] := by
    rw [take_snoc po.hd, List.take_zero]
    show [(recK (List.replicate N.length 0), T.int (le K (List.replicate N.length 0)))] = _
    rw [zero_le' gf.gn]
  suffices key : b_last_places_3 { nx := fun x M => Q .non M.D, rt := fun t M => noL t = true ∧ Q t M.D } (Le K N D.length none none none) ⟨LD D K N 0, []⟩ by
    unfold LD at key
    rw [e0] at key
    exact key
  refine w_seq (w_for ?_)
  rw [x_iseq]
  simp only [x_sl, x_onone, x_opart]
  refine ⟨_, rfl, w_c ?_⟩
  show oSl (.d (.list ((prts N).map recD))) (some 1) none _ _
  have c2 : cutT ((prts N).map recD) (some 1) none = ((prts N).drop 1).map recD := by
    have h1 : 1 ≤ ((prts N).map recD).length := by
      have := po.hd
      cases h : prts N with
      | nil => rw [h] at this; cases this
      | cons a l => simp
    have := cut_from (l := (prts N).map recD) (p := 1) h1
    rw [List.map_drop, ← this]
    rfl
  rw [show ∀ ns M Q, oSl (.d (.list ns)) (some 1) none M Q = Q (.lst (cutT ns (some 1) none)) M from fun _ _ _ => rfl, c2]
  show goFor _ _ _ (((((prts N).drop 1).map recD)).map T.d) _ _
  refine for_all (fun i τ M => ∃ a b c, M = ⟨LD D K N i, []⟩ ∧ τ = Le K N D.length a b c) ⟨_, _, _, rfl, rfl⟩ ?_ ?_
  · rintro i τ M t R ht ⟨a, b, c, rfl, rfl⟩ k
    obtain ⟨p, hp, rfl, hj⟩ := rec_at ht
    rw [x_gn]
    exact last_1 g gf hp fun a b c => k _ _ ⟨a, b, c, rfl, rfl⟩
  · rintro τ M ⟨a, b, c, rfl, rfl⟩
    rw [List.length_map, List.length_map, List.length_drop]
    have e : LD D K N ((prts N).length - 1) = LDe D K N := by
      unfold LD LDe
      rw [List.take_of_length_le (by omega), List.take_of_length_le (by rw [List.length_drop]; omega)]
    rw [e]
    show b_last_places_2 _ (Le K N D.length a b c) _
    refine w_ret ?_
    exact ⟨_, rfl, rfl, q⟩
/-! ### a least row -/
abbrev Re (K : Bk6) (N : List Int) (n : Nat) (q : List Int) : En := [some (.d (bkD K)), some (.d (recD N)), some (.mr (n + 1)), some (.lr 0), some (.d (recD q))]
theorem bk_len {K : Bk6} : ∀ (n : Nat) (q : List Int), (bk K n q).length = n
  | 0, _ => rfl
  | n + 1, q => by
    show (bk K n (fw q (lst K q).toNat) ++ [(lst K q).toNat]).length = n + 1
    simp [bk_len n]
theorem w_meth {f : T → FA} {o : Me} {r : Ma} {τ : En} {M : Mem} {Q : Kt} (h : o τ M fun x M1 => isL x M1 ∧ r τ M1 fun ts M2 => f x ts M2 Q) : mMeth f o r τ M Q := h
abbrev rtst : Mb := mTest (mOp (oNIn false) (mVar 4) (mVar 2))
theorem zero_tl {q : List Int} (nn : ∀ n ∈ q, 0 ≤ n) (h : tl q = 0) : q = List.replicate q.length 0 := by
  refine List.ext_getElem (by simp) fun j h1 h2 => ?_
  have := mem_le_sum nn _ (List.getElem_mem h1)
  have := nn _ (List.getElem_mem h1)
  rw [List.getElem_replicate]
  unfold tl at h
  omega
theorem in_drop {K : Bk6} {N q : List Int} (gn : GN K N) (hq : q ∈ prts N) : q ∈ (prts N).drop 1 ↔ 0 < tl q := by
  have nn := gn_nn gn
  have po := prts_ok nn
  have nd := prts_nd nn
  have h0 := po.hd
  obtain ⟨ql, qn⟩ := (po.mem q).mp hq
  have nq : ∀ n ∈ q, 0 ≤ n := fun n hn => by
    obtain ⟨j, hj, e⟩ := List.getElem_of_mem hn
    have := (qn j (by omega)).1
    rw [num_at hj, e] at this
    exact this
  cases hP : prts N with
  | nil => rw [hP] at hq; cases hq
  | cons a P =>
    rw [hP] at h0 nd hq
    cases h0
    obtain ⟨n1, n2⟩ := List.nodup_cons.mp nd
    show q ∈ P ↔ _
    have z0 : tl (List.replicate N.length (0 : Int)) = 0 := by
      have : ∀ n : Nat, (List.replicate n (0 : Int)).sum = 0 := fun n => by
        induction n with
        | zero => rfl
        | succ n ih => rw [List.replicate_succ, List.sum_cons, ih]; rfl
      unfold tl
      rw [this]
      rfl
    constructor
    · intro h
      rcases Nat.eq_zero_or_pos (tl q) with z | z
      · have := zero_tl nq z
        rw [ql] at this
        rw [this] at h
        exact (n1 h).elim
      · exact z
    · intro h
      rcases List.mem_cons.mp hq with z | z
      · rw [z, z0] at h; omega
      · exact z
theorem row_go {K : Bk6} {N : List Int} {D : List Cell} {E : Es} (g : GB K) (gf : GF K N) (qq : ∀ q, E.nx (Re K N D.length q) ⟨LDe D K N, [some ((lrow K N).reverse.map ix)]⟩) :
    ∀ (n : Nat) (q : List Int) (acc : List Nat), tl q = n → q ∈ prts N → acc ++ (bk K n q).reverse = (lrow K N).reverse →
      goWh rtst b_least_row_1 E (n + 1) (Re K N D.length q) ⟨LDe D K N, [some (acc.map ix)]⟩
  | n, q, acc, hn, hq, e => by
    have nn := gn_nn gf.gn
    have po := prts_ok nn
    have hl := gf.gn.len
    have h6 := g.six
    obtain ⟨ql, qn⟩ := (po.mem q).mp hq
    have nq : ∀ n ∈ q, 0 ≤ n := fun n hn => by
      obtain ⟨j, hj, e⟩ := List.getElem_of_mem hn
      have := (qn j (by omega)).1
      rw [num_at hj, e] at this
      exact this
    unfold goWh
    refine w_test (w_op ⟨_, rfl, _, rfl, D.length + 1, recK q, _, rfl, rec_key q, g2_1 D _ _, ?_⟩)
    have idr := in_drop gf.gn hq
    match n, hn, e with
    | 0, hn, e =>
      have : q ∉ (prts N).drop 1 := fun h => by have := idr.mp h; omega
      rw [look_out this]
      refine ⟨_, rfl, ifF (by simp) ?_⟩
      have : acc = (lrow K N).reverse := by
        rw [← e]
        simp [bk]
      rw [this]
      exact qq q
    | n + 1, hn, e =>
      have hin : q ∈ (prts N).drop 1 := idr.mpr (by omega)
      rw [look_in hin]
      refine ⟨_, rfl, ifT rfl ?_⟩
      obtain ⟨p, hp, e1, e2⟩ := le_last (K := K) (q := q) (by omega) nq (by omega)
      obtain ⟨hp1, hp2⟩ := thr_mem.mp hp
      have hq2 := thr_pos (by omega) nq hp
      have e3 : (lst K q).toNat = p := by omega
      have e4 : acc ++ [p] ++ (bk K n (fw q p)).reverse = (lrow K N).reverse := by
        rw [← e]
        show _ = acc ++ (bk K n (fw q (lst K q).toNat) ++ [(lst K q).toNat]).reverse
        rw [e3]
        simp
      have al : acc.length + 1 ≤ 100 := by
        have h1 := congrArg List.length e4
        have h2 := (lrow_ok gf.gn).2.2.2
        have h3 := gf.hd
        simp at h1
        unfold tl at h2
        omega
      have get : ∀ {L : List (Option (List PyData))} {R : Kt}, R (.int (p : Int)) ⟨LDe D K N, L⟩ → mOp oNGet (mVar 2) (mVar 4) (Re K N D.length q) ⟨LDe D K N, L⟩ R := fun h =>
        w_op ⟨_, rfl, _, rfl, D.length + 1, recK q, _, _, rfl, rec_key q, g2_1 D _ _, look_in hin, by rw [e1]; exact h⟩
      have key := row_go g gf qq n (fw q p) (acc ++ [p]) (by omega) (fw_mem nn hq (by omega) hp2) e4
      rw [List.map_append] at key
      suffices fin : ∀ E : Es, E.nx (Re K N D.length (fw q p)) ⟨LDe D K N, [some (acc.map ix ++ [ix p])]⟩ → b_least_row_1 E (Re K N D.length q) ⟨LDe D K N, [some (acc.map ix)]⟩ from fin _ key
      intro E h
      have hz : (acc.map ix).length < sizeLine := sz64 (by rw [List.length_map]; omega)
      refine w_seq (w_drop ?_)
      refine w_meth ⟨.lr 0, rfl, ⟨_, rfl⟩, w_ac (get (w_an ?_))⟩
      refine w_appL (i := 0) (ds := acc.map ix) (L := [some (acc.map ix)]) rfl hz ?_
      show b_least_row_0 _ (Re K N D.length q) ⟨LDe D K N, [some (acc.map ix ++ [ix p])]⟩
      refine w_set (w_call (w_ac ⟨.d (recD q), rfl, w_ac (get (w_an ?_))⟩))
      refine ⟨by simp, ?_⟩
      refine sp_fewer (by omega) (by omega) ?_
      exact h
theorem sp_least_row {K : Bk6} {N : List Int} {D : List Cell} {Q : T → List Cell → Prop} (g : GB K) (gf : GF K N) (q : Q (.d (rowD (lrow K N))) D) : d_least_row [.d (bkD K), .d (recD N)] D Q := by
  have nn := gn_nn gf.gn
  refine ⟨rfl, w_seq (w_drop (w_call (w_ac ⟨.d (recD N), rfl, w_an ⟨by simp, sp_few gf ?_⟩⟩)))⟩
  show b_least_row_6 _ [some (.d (bkD K)), some (.d (recD N)), none, none, none] ⟨D, []⟩
  refine w_seq (w_set (w_call (w_ac ⟨.d (bkD K), rfl, w_ac ⟨.d (recD N), rfl, w_an ⟨by simp, sp_last_places g gf ?_⟩⟩⟩)))
  show b_least_row_5 _ [some (.d (bkD K)), some (.d (recD N)), some (.mr (D.length + 1)), none, none] ⟨LDe D K N, []⟩
  refine w_seq (w_set ?_)
  rw [x_newL, x_anil, x_dat0]
  refine ⟨Nat.zero_le _, ?_⟩
  show b_least_row_4 _ [some (.d (bkD K)), some (.d (recD N)), some (.mr (D.length + 1)), some (.lr 0), none] ⟨LDe D K N, [some []]⟩
  refine w_seq (w_set ⟨.d (recD N), rfl, ?_⟩)
  show b_least_row_3 _ (Re K N D.length N) ⟨LDe D K N, [some []]⟩
  refine w_seq ⟨tl N + 1, row_go g gf (fun q' => ?_) (tl N) N [] rfl (self_mem nn) (by simp [lrow])⟩
  show b_least_row_2 _ (Re K N D.length q') _
  refine w_ret (w_call (w_ac ?_))
  refine (?_ : mRevL _ _ _ _)
  refine ⟨.lr 0, rfl, ?_⟩
  show aNil _ _ _
  refine w_an ?_
  rw [← List.map_reverse, List.reverse_reverse]
  refine w_tupl ?_
  refine ⟨⟨_, rfl⟩, ?_, q⟩
  show (LDe D K N).take D.length = D
  unfold LDe
  simp
theorem sp_least_whole {K : Bk6} {N : List Int} {D : List Cell} {Q : T → List Cell → Prop} (g : GB K) (gf : GF K N) (q : Q (.int (lw K N)) D) : d_least_whole [.d (bkD K), .d (recD N)] D Q := by
  refine ⟨rfl, w_ret (w_call (w_ac ⟨.d (bkD K), rfl, w_ac (w_call (w_ac ⟨.d (bkD K), rfl, w_ac ⟨.d (recD N), rfl, w_an ⟨by simp, sp_least_row g gf (w_an ⟨by simp, ?_⟩)⟩⟩⟩))⟩))⟩
  refine sp_row_whole g (lrow_gr gf.gn gf.hd) ?_
  rw [lrow_whole gf.gn]
  exact ⟨rfl, q⟩
end Ll

set_option Elab.async false
set_option linter.all false
set_option maxRecDepth 100000
set_option maxHeartbeats 1000000
/-! the law's least whole, by the least ends of all parts -/
namespace Ll
open PySem PySem.Spec PySem.W L2 L3 Sh Pl Pq Wm Lw
theorem w_neL {l : List Int} {i : Nat} {D : List Cell} {L : List (Option (List PyData))} {Q : Kt} (h : L[i]? = some (some (l.map .int))) (q : Q (.bl (!decide (l = []))) ⟨D, L⟩) : oEq true (.lr i) (.d (.list [])) ⟨D, L⟩ Q := by
  have e : now (.lr i) ⟨D, L⟩ = some (.list (l.map .int)) := by
    unfold now
    simp only [h]
  show (match now (.lr i) ⟨D, L⟩, now (.d (.list [])) ⟨D, L⟩ with
    | some a, some b => (SeqAt.shaped a = true ∧ SeqAt.shaped b = true) ∧ Q (.bl (if true then !PyData.eqv a b else PyData.eqv a b)) ⟨D, L⟩
    | _, _ => False)
  rw [e]
  refine ⟨⟨Sh.shaped_ints l, rfl⟩, ?_⟩
  rw [eqv_nil]
  cases l with
  | nil => exact q
  | cons a l => exact q
theorem w_minL {l : List Int} {i : Nat} {D : List Cell} {L : List (Option (List PyData))} {Q : Kt} (h : L[i]? = some (some (l.map .int))) (ne : l ≠ []) (q : Q (.int (mn l)) ⟨D, L⟩) : fMin [.lr i] ⟨D, L⟩ Q := by
  have e : nowI (.lr i) ⟨D, L⟩ = some l := by
    unfold nowI now
    simp only [h]
    exact intsOf_map l
  show (match nowI (.lr i) ⟨D, L⟩ with
    | some ns => 0 < ns.length ∧ ∀ m, m ∈ ns → (∀ y, y ∈ ns → m ≤ y) → Q (.int m) ⟨D, L⟩
    | none => False)
  rw [e]
  exact ⟨List.length_pos_iff.mpr ne, fun m h1 h2 => by rw [mn_uniq h1 h2]; exact q⟩
/-- the ends of a part's rows, by their last field -/
def ens (K : Bk6) (q : List Int) : List Int := (thr K q).map fun p => sfin K p (le K (fw q p))
theorem ens_le {K : Bk6} {q : List Int} (ql : q.length = K.length) (nn : ∀ n ∈ q, 0 ≤ n) : (if ens K q = [] then 0 else mn (ens K q)) = le K q := by
  by_cases z : ens K q = []
  · rw [if_pos z]
    have : thr K q = [] := List.map_eq_nil_iff.mp z
    unfold le
    rw [lel_eq ql nn]
    unfold prs
    rw [this]
    rfl
  · rw [if_neg z]
    have ne : prs K q ≠ [] := by
      intro y
      refine z ?_
      unfold prs at y
      unfold ens
      rw [List.map_eq_nil_iff.mp y]
      rfl
    symm
    unfold le
    rw [lel_eq ql nn]
    have e : ens K q = (prs K q).map (·.1) := by
      unfold ens prs
      rw [List.map_map]
      rfl
    refine mn_uniq ?_ fun y hy => ?_
    · rw [e]
      exact List.mem_map_of_mem (bpl_mem ne)
    · rw [e] at hy
      obtain ⟨x, hx, rfl⟩ := List.mem_map.mp hy
      exact bpl_le hx
abbrev Ae (K : Bk6) (N : List Int) (n : Nat) (a b c d e : Option T) : En := [some (.d (bkD K)), some (.d (recD N)), some (.mr n), a, b, c, d, e]
def AD (D : List Cell) (K : Bk6) (N : List Int) (i : Nat) : List Cell := D ++ [.dnk (dk (le K) ((prts N).take i))]
theorem d1_g {α : Type} (D : List α) (x : α) : (D ++ [x])[D.length]? = some x := by simp
theorem d1_s {α : Type} (D : List α) (x y : α) : (D ++ [x]).set D.length y = D ++ [y] := by simp
theorem least_1 {K : Bk6} {N q : List Int} {D : List Cell} {L : List (Option (List PyData))} {i p : Nat} {E : Es} {acc : List Int} {d e : Option T} (g : GB K) (gf : GF K N) (hq : (prts N)[i]? = some q) (hp : p ∈ thr K q) (ha : acc.length ≤ 6)
    (k : ∀ d e, E.nx (Ae K N D.length (some (.d (recD q))) (some (.lr L.length)) (some (.int (p : Int))) d e) ⟨AD D K N i, L ++ [some ((acc ++ [sfin K p (le K (fw q p))]).map .int)]⟩) :
    b__law_least_1 E (Ae K N D.length (some (.d (recD q))) (some (.lr L.length)) (some (.int (p : Int))) d e) ⟨AD D K N i, L ++ [some (acc.map .int)]⟩ := by
  have nn := gn_nn gf.gn
  have hl := gf.gn.len
  have h6 := g.six
  have po := prts_ok nn
  have hm := List.mem_of_getElem? hq
  obtain ⟨ql, qn⟩ := (po.mem q).mp hm
  obtain ⟨hp1, hp2⟩ := thr_mem.mp hp
  have gk := (kat_ok g hp1).1
  refine w_seq (Wm.w_asg (w_op ⟨.d (bkD K), rfl, .int (p : Int), rfl, ?_⟩))
  refine ⟨_, at_book g hp1, ?_⟩
  refine g_kd ?_
  show b__law_least_0 _ (Ae K N D.length (some (.d (recD q))) (some (.lr L.length)) (some (.int (p : Int))) (some (.int (kat K p).1)) (some (.int (kat K p).2))) ⟨AD D K N i, L ++ [some (acc.map .int)]⟩
  refine w_drop (w_meth ⟨.lr L.length, rfl, ⟨_, d1_g L _⟩, w_ac (w_op (w_call (w_ac (w_op ⟨.mr D.length, rfl, ?_⟩))))⟩)
  refine w_fewer (by omega) (by omega) rfl rfl ?_
  refine ⟨D.length, recK (fw q p), _, _, rfl, rec_key _, d1_g D _, look_in (fw_ahead nn hq (by omega) hp2), ?_⟩
  refine w_ac ⟨.int (kat K p).2, rfl, w_an ⟨by simp, ?_⟩⟩
  have := gk.2.pos
  refine sp_up (by omega) (by omega) ⟨.int (kat K p).1, rfl, w_add (w_an ?_)⟩
  refine w_appL (d1_g L _) (sz64 (by rw [List.length_map]; omega)) ?_
  rw [d1_s]
  have k := k (some (.int (kat K p).1)) (some (.int (kat K p).2))
  rw [List.map_append] at k
  exact k
theorem least_4 {K : Bk6} {N q : List Int} {D : List Cell} {L : List (Option (List PyData))} {i : Nat} {E : Es} {b c d e : Option T} (g : GB K) (gf : GF K N) (hq : (prts N)[i]? = some q)
    (k : ∀ b c d e L, E.nx (Ae K N D.length (some (.d (recD q))) b c d e) ⟨AD D K N (i + 1), L⟩) :
    b__law_least_4 E (Ae K N D.length (some (.d (recD q))) b c d e) ⟨AD D K N i, L⟩ := by
  have nn := gn_nn gf.gn
  have hl := gf.gn.len
  have h6 := g.six
  have po := prts_ok nn
  have hm := List.mem_of_getElem? hq
  have fl := few_len gf
  have hi : i < (prts N).length := (List.getElem?_eq_some_iff.mp hq).1
  obtain ⟨ql, qn⟩ := (po.mem q).mp hm
  have nq : ∀ n ∈ q, 0 ≤ n := fun n hn => by
    obtain ⟨j, hj, e⟩ := List.getElem_of_mem hn
    have := (qn j (by omega)).1
    rw [num_at hj, e] at this
    exact this
  have tl6 : (thr K q).length ≤ 6 := by
    have := (List.length_filter_le (fun i => decide (0 < num q i)) (List.range K.length))
    rw [List.length_range] at this
    unfold thr
    omega
  refine w_seq (w_set ?_)
  rw [x_newL, x_anil, x_dat0]
  refine ⟨Nat.zero_le _, ?_⟩
  suffices key : b__law_least_3 E (Ae K N D.length (some (.d (recD q))) (some (.lr L.length)) c d e) ⟨AD D K N i, L ++ [some []]⟩ from key
  refine w_seq (w_for ?_)
  rw [x_iseq]
  refine w_call (w_ac ⟨.d (recD q), rfl, w_an ⟨by simp, sp_there0 (by omega) (by omega) ?_⟩⟩)
  show goFor _ _ _ (((thr K q).map ix).map T.d) _ _
  refine for_all (fun j τ M => ∃ c d e, M = ⟨AD D K N i, L ++ [some ((((thr K q).take j).map fun p => sfin K p (le K (fw q p))).map .int)]⟩ ∧ τ = Ae K N D.length (some (.d (recD q))) (some (.lr L.length)) c d e) ⟨_, _, _, rfl, rfl⟩ ?_ ?_
  · rintro j τ M t R ht ⟨c, d, e, rfl, rfl⟩ k
    obtain ⟨p, hp, rfl, hj⟩ := row_at ht
    rw [x_gn]
    have hpm := List.mem_of_getElem? hp
    refine least_1 g gf hq hpm (by rw [List.length_map, List.length_take]; omega) fun d e => ?_
    rw [take_snoc hp, List.map_append] at k
    exact k _ _ ⟨_, _, _, rfl, rfl⟩
  · rintro τ M ⟨c, d, e, rfl, rfl⟩
    rw [List.length_map, List.length_map, List.take_length]
    show b__law_least_2 _ (Ae K N D.length (some (.d (recD q))) (some (.lr L.length)) c d e) ⟨AD D K N i, L ++ [some ((ens K q).map .int)]⟩
    have nq0 : q ∉ (prts N).take i := fun h => by
      obtain ⟨j, hj, e⟩ := List.mem_take_iff_getElem.mp h
      have := (List.getElem?_inj (i := j) (j := i) (by omega) (prts_nd nn)).mp (by rw [hq, ← e]; exact List.getElem?_eq_getElem _)
      omega
    have fin : mNPut (mVar 2) (mVar 3) (mC (.int (le K q))) E (Ae K N D.length (some (.d (recD q))) (some (.lr L.length)) c d e) ⟨AD D K N i, L ++ [some ((ens K q).map .int)]⟩ := by
      refine Wm.w_nput (w_c ?_)
      refine ⟨_, rfl, _, rfl, D.length, recK q, _, rfl, rec_key q, d1_g D _, rfl, sz64 (by unfold dk; rw [List.length_map, List.length_take]; omega), ?_⟩
      rw [put_out nq0]
      dsimp only
      unfold AD
      rw [d1_s]
      have k := k (some (.lr L.length)) c d e (L ++ [some ((ens K q).map .int)])
      unfold AD at k
      rw [take_snoc hq] at k
      exact k
    have fin2 := fin
    refine Wm.w_nput ?_
    rw [x_ite]
    refine w_test (w_op ⟨_, rfl, ?_⟩)
    dsimp only
    rw [x_lst]
    refine w_an ⟨Nat.zero_le _, w_neL (d1_g L _) ⟨_, rfl, ?_⟩⟩
    have el := ens_le (K := K) (q := q) (by omega) nq
    by_cases z : ens K q = []
    · rw [if_pos z] at el
      refine ifF (by simp [z]) ?_
      rw [el]
      exact fin2
    · rw [if_neg z] at el
      refine ifT (by simp [z]) ?_
      refine w_call (w_ac ⟨_, rfl, w_an (w_minL (d1_g L _) z ?_)⟩)
      rw [el]
      exact fin2
theorem sp_law_least {K : Bk6} {N : List Int} {D : List Cell} {Q : T → List Cell → Prop} (g : GB K) (gf : GF K N) (q : Q (.int (lw K N)) D) : d__law_least [.d (bkD K), .d (recD N)] D Q := by
  have nn := gn_nn gf.gn
  have at_ := als_al g (gf.gn.gr g)
  refine ⟨rfl, w_seq (w_set (w_nnew ?_))⟩
  dsimp only
  suffices key : b__law_least_6 { nx := fun _ M => M.D.take D.length = D ∧ Q .non D, rt := fun t M => (∃ x, t = .d x) ∧ M.D.take D.length = D ∧ Q t D } (Ae K N D.length none none none none none) ⟨AD D K N 0, []⟩ from key
  refine w_seq (w_for ?_)
  rw [x_iseq]
  refine w_call (w_ac ⟨.d (recD N), rfl, w_an ⟨by simp, sp_law_parts g gf ?_⟩⟩)
  show goFor _ _ _ (((prts N).map recD).map T.d) _ _
  refine for_all (fun i τ M => ∃ a b c d e L, M = ⟨AD D K N i, L⟩ ∧ τ = Ae K N D.length a b c d e) ⟨_, _, _, _, _, _, rfl, rfl⟩ ?_ ?_
  · rintro i τ M t R ht ⟨a, b, c, d, e, L, rfl, rfl⟩ k
    obtain ⟨q, hq, rfl, hj⟩ := rec_at ht
    rw [x_gn]
    exact least_4 g gf hq fun b c d e L => k _ _ ⟨_, _, _, _, _, _, rfl, rfl⟩
  · rintro τ M ⟨a, b, c, d, e, L, rfl, rfl⟩
    rw [List.length_map, List.length_map]
    show b__law_least_5 _ (Ae K N D.length a b c d e) _
    refine w_ret (w_call (w_ac (w_op ⟨.mr D.length, rfl, w_call (w_ac ⟨.d (recD N), rfl, w_an ?_⟩)⟩)))
    unfold recD
    rw [x_tupt]
    refine ⟨D.length, recK N, _, .int (le K N), rfl, rec_key N, d1_g D _, ?_, ?_⟩
    · rw [List.take_length]
      exact look_in (self_mem nn)
    refine w_ac (w_call (w_ac ⟨.d (bkD K), rfl, w_ac ⟨.d (recD N), rfl, w_an ⟨by simp, sp_top g gf.gn (w_an ⟨by simp, ?_⟩)⟩⟩⟩))
    have := at_.pos
    refine sp_up (by omega) (by omega) ?_
    refine ⟨⟨_, rfl⟩, ?_, q⟩
    show (AD D K N _).take D.length = D
    unfold AD
    simp
end Ll

set_option Elab.async false
set_option linter.all false
set_option maxRecDepth 100000
set_option maxHeartbeats 1000000
/-! few fields are few parts; texts of books and records; menus of records -/
namespace Ll
open PySem PySem.Spec PySem.W L2 L3 Sh Pl Pq Wm Lw
theorem prd_app (N M : List Int) : prd (N ++ M) = prd N * prd M := by
  have go : ∀ (M : List Int) (a : Int), M.foldl (fun a n => a * (n + 1)) a = a * M.foldl (fun a n => a * (n + 1)) 1 := by
    intro M
    induction M with
    | nil => intro a; simp
    | cons m M ih =>
      intro a
      rw [List.foldl_cons, List.foldl_cons, ih, ih (1 * (m + 1)), Int.one_mul, Int.mul_assoc]
  unfold prd
  rw [List.foldl_append, go M]
theorem prd_cons (n : Int) (N : List Int) : prd (n :: N) = (n + 1) * prd N := by
  have := prd_app [n] N
  rw [List.singleton_append] at this
  rw [this]
  unfold prd
  simp
theorem pow_ge (n : Nat) : n + 1 ≤ 2 ^ n := by
  induction n with
  | zero => decide
  | succ n ih => rw [Nat.pow_succ]; omega
theorem prd_two : ∀ {N : List Int}, (∀ n ∈ N, 0 ≤ n) → prd N ≤ ((2 ^ N.sum.toNat : Nat) : Int)
  | [], _ => by decide
  | n :: N, h => by
    have h0 := h n List.mem_cons_self
    have hN : ∀ m ∈ N, 0 ≤ m := fun m hm => h m (List.mem_cons_of_mem _ hm)
    have ih := prd_two hN
    have h1 : (0 : Int) ≤ N.sum := (sum_pos hN).1
    rw [prd_cons, List.sum_cons, Int.toNat_add h0 h1, Nat.pow_add, Int.natCast_mul]
    have h2 := pow_ge n.toNat
    have h3 := prd_pos hN
    exact Int.mul_le_mul (by omega) ih (by omega) (by omega)
theorem gf_few {K : Bk6} {N : List Int} (gn : GN K N) (h : N.sum ≤ 8) : GF K N := by
  have nn := gn_nn gn
  refine ⟨gn, by omega, ?_⟩
  have h1 := prd_two nn
  have h2 : 2 ^ N.sum.toNat ≤ 2 ^ 8 := Nat.pow_le_pow_right (by omega) (by omega)
  omega
theorem lw_ok {K : Bk6} {N : List Int} (g : GB K) (gf : GF K N) : 0 ≤ lw K N ∧ lw K N ≤ 100000000000000000000000000006500 := by
  rw [← lrow_whole gf.gn]
  exact whole_le g (lrow_gr gf.gn gf.hd)
theorem w_shw {x : PyData} {M : Mem} {Q : Kt} (h : OkShow x) (q : Q (.d (.str x.shown)) M) : fRepr [.d x] M Q := ⟨h, q⟩
theorem two_okB {K : Bk6} {N : List Int} (g : GB K) (gn : GN K N) : OkShow (.list [bkD K, recD N]) :=
  (sw_list ((sw_cons ((sw_bk g).mono (Nat.le_refl _) (Nat.le_refl 2)) (sw_one ((rec_sw g gn).mono (Nat.le_refl _) (by omega : 1 ≤ 2)))))).ok (by omega) (by omega)
theorem two_okI {a b : Int} (h : a.natAbs < 10 ^ 61) (h' : b.natAbs < 10 ^ 61) : OkShow (.list [.int a, .int b]) :=
  (sw_list (sw_cons (sw_int61 h) (sw_one (sw_int61 h')))).ok (by omega) (by omega)

/-- the numbers of a tuple as it stands in a text -/
def cs : List Int → Ma
  | [] => aNil
  | n :: N => aCons (mC (.int n)) (cs N)
theorem w_cs : ∀ {N : List Int} {τ : En} {M : Mem} {R : List T → Mem → Prop}, R (N.map T.int) M → cs N τ M R
  | [], _, _, _, h => h
  | n :: N, τ, M, R, h => by
    show aCons (mC (.int n)) (cs N) τ M R
    exact w_ac (w_c (w_cs h))
theorem w_rec {N : List Int} {τ : En} {M : Mem} {Q : Kt} (hl : N.length ≤ 100) (q : Q (.d (recD N)) M) : mTup (cs N) τ M Q := by
  refine w_tup (w_cs ?_)
  rw [datas_ints]
  exact ⟨sz64' (by rw [List.length_map]; omega), q⟩
/-- menus as they stand in a text -/
def ms : List (List Int) → Ma → Ma
  | [], r => r
  | N :: l, r => aCons (mTup (cs N)) (ms l r)
theorem w_ms : ∀ {l : List (List Int)} {r : Ma} {τ : En} {M : Mem} {R : List T → Mem → Prop}, (∀ N ∈ l, N.length ≤ 100) → (r τ M fun ts M' => R ((l.map recD).map T.d ++ ts) M') → ms l r τ M R
  | [], _, _, _, _, _, h => h
  | N :: l, r, τ, M, R, hl, h => by
    show aCons (mTup (cs N)) (ms l r) τ M R
    exact w_ac (w_rec (hl N List.mem_cons_self) (w_ms (fun P hP => hl P (List.mem_cons_of_mem _ hP)) h))
theorem w_menu {l : List (List Int)} {τ : En} {M : Mem} {Q : Kt} (h : ∀ N ∈ l, N.length ≤ 100) (hl : l.length ≤ 100) (q : Q (.d (.list (l.map recD))) M) : mLst (ms l aNil) τ M Q := by
  rw [x_lst]
  refine w_ms h (w_an ?_)
  rw [List.append_nil, datas_ds]
  exact ⟨sz64' (by rw [List.length_map]; omega), q⟩
/-- a menu whose last is (1,) * n -/
theorem w_menu1 {l : List (List Int)} {n : Nat} {τ : En} {M : Mem} {Q : Kt} (h : ∀ N ∈ l, N.length ≤ 100) (hl : l.length ≤ 99) (h2 : 2 ≤ n) (h3 : n ≤ 100) (q : Q (.d (.list ((l ++ [List.replicate n 1]).map recD))) M) : mLst (ms l (aCons (mOp oRepT (mTup (aCons (mC (.int 1)) aNil)) (mC (.int (n : Int)))) aNil)) τ M Q := by
  rw [x_lst]
  refine w_ms h (w_ac (w_op (w_tup (w_ac (w_c (w_an ⟨sz1, w_c ?_⟩))))))
  rw [x_repT]
  refine ⟨⟨by simp, by omega, by omega, by simp⟩, w_an ?_⟩
  have e : (List.replicate (n : Int).toNat [PyData.int 1]).flatten = (List.replicate n (1 : Int)).map .int := by
    rw [Int.toNat_natCast]
    clear h2 h3 q
    induction n with
    | zero => rfl
    | succ n ih => rw [List.replicate_succ, List.flatten_cons, ih]; rfl
  rw [e]
  have e2 : (l.map recD).map T.d ++ [T.tup ((List.replicate n (1 : Int)).map .int)] = ((l ++ [List.replicate n 1]).map recD).map T.d := by
    rw [List.map_append, List.map_append]
    rfl
  rw [e2, datas_ds]
  exact ⟨sz64' (by rw [List.length_map, List.length_append]; simp; omega), q⟩
end Ll

set_option Elab.async false
set_option linter.all false
set_option maxRecDepth 100000
set_option maxHeartbeats 2000000
namespace K36
open PySem PySem.Spec L2 L3
def topS (i : Nat) : Stmt := PySem.Challenge.pw_fallingfields_k36_whole_least_rows_judge.main.body.getD i (.Pass ⟨0, 0, 0, 0⟩)
structure Zs (K : PySem.W.Frag) (mg : Str → Option Value) : Prop where
  z_enumerate : mg "enumerate" = none
  z_tuple : mg "tuple" = none
  z_sum : mg "sum" = none
  z_min : mg "min" = none
  z_range : mg "range" = none
  z_abs : mg "abs" = none
  z_int : mg "int" = none
  z_len : mg "len" = none
  z_max : mg "max" = none
  z_repr : mg "repr" = none
  z_isinstance : mg "isinstance" = none
  z_bool : mg "bool" = none
  g_MAX_ROW : GlC K mg "MAX_ROW" (.int 100)
  g_MAX_STATES : GlC K mg "MAX_STATES" (.int 256)
abbrev s__law_pool : Stmt := topS 18
theorem sc__law_pool : FnScope ["script", "cells", "mixed", "cell"] ["script"] (defScope s__law_pool) := ⟨rfl, rfl, rfl, by decide +kernel, rfl, by decide +kernel, by decide +kernel⟩
abbrev s__law_draw : Stmt := topS 19
theorem sc__law_draw : FnScope ["pool", "many", "cell", "found"] ["pool", "many"] (defScope s__law_draw) := ⟨rfl, rfl, rfl, by decide +kernel, rfl, by decide +kernel, by decide +kernel⟩
abbrev s__law_pick : Stmt := topS 20
theorem sc__law_pick : FnScope ["pool", "items"] ["pool", "items"] (defScope s__law_pick) := ⟨rfl, rfl, rfl, by decide +kernel, rfl, by decide +kernel, by decide +kernel⟩
abbrev s__law_kind : Stmt := topS 22
theorem sc__law_kind : FnScope ["pool", "steps", "is_great", "step", "short", "times"] ["pool", "steps", "is_great"] (defScope s__law_kind) := ⟨rfl, rfl, rfl, by decide +kernel, rfl, by decide +kernel, by decide +kernel⟩
abbrev s__law_book : Stmt := topS 23
theorem sc__law_book : FnScope ["pool", "many", "steps", "is_great", "kinds", "turn"] ["pool", "many", "steps", "is_great"] (defScope s__law_book) := ⟨rfl, rfl, rfl, by decide +kernel, rfl, by decide +kernel, by decide +kernel⟩
abbrev s__law_steps : Stmt := topS 24
theorem sc__law_steps : FnScope ["pool", "menus"] ["pool"] (defScope s__law_steps) := ⟨rfl, rfl, rfl, by decide +kernel, rfl, by decide +kernel, by decide +kernel⟩
abbrev s_require_few : Stmt := topS 13
theorem sc_require_few : FnScope ["record", "many", "number"] ["record"] (defScope s_require_few) := ⟨rfl, rfl, rfl, by decide +kernel, rfl, by decide +kernel, by decide +kernel⟩
abbrev s_parts_of : Stmt := topS 15
theorem sc_parts_of : FnScope ["record", "parts", "number", "part", "some"] ["record"] (defScope s_parts_of) := ⟨rfl, rfl, rfl, by decide +kernel, rfl, by decide +kernel, by decide +kernel⟩
abbrev s_places_there : Stmt := topS 7
theorem sc_places_there : FnScope ["record", "place", "number"] ["record"] (defScope s_places_there) := ⟨rfl, rfl, rfl, by decide +kernel, rfl, by decide +kernel, by decide +kernel⟩
abbrev s_round_up : Stmt := topS 6
theorem sc_round_up : FnScope ["number", "multiple"] ["number", "multiple"] (defScope s_round_up) := ⟨rfl, rfl, rfl, by decide +kernel, rfl, by decide +kernel, by decide +kernel⟩
abbrev s_span_behind : Stmt := topS 10
theorem sc_span_behind : FnScope ["kind", "end", "size", "alignment", "begin"] ["kind", "end"] (defScope s_span_behind) := ⟨rfl, rfl, rfl, by decide +kernel, rfl, by decide +kernel, by decide +kernel⟩
abbrev s_row_end : Stmt := topS 9
theorem sc_row_end : FnScope ["book", "row", "end", "place", "_"] ["book", "row", "end"] (defScope s_row_end) := ⟨rfl, rfl, rfl, by decide +kernel, rfl, by decide +kernel, by decide +kernel⟩
abbrev s_one_fewer : Stmt := topS 16
theorem sc_one_fewer : FnScope ["part", "place"] ["part", "place"] (defScope s_one_fewer) := ⟨rfl, rfl, rfl, by decide +kernel, rfl, by decide +kernel, by decide +kernel⟩
abbrev s_last_places : Stmt := topS 14
theorem sc_last_places : FnScope ["book", "record", "parts", "least_ends", "lasts", "part", "ends", "place"] ["book", "record"] (defScope s_last_places) := ⟨rfl, rfl, rfl, by decide +kernel, rfl, by decide +kernel, by decide +kernel⟩
abbrev s_least_row : Stmt := topS 12
theorem sc_least_row : FnScope ["book", "record", "lasts", "row", "part"] ["book", "record"] (defScope s_least_row) := ⟨rfl, rfl, rfl, by decide +kernel, rfl, by decide +kernel, by decide +kernel⟩
abbrev s__law_up : Stmt := topS 21
theorem sc__law_up : FnScope ["number", "step"] ["number", "step"] (defScope s__law_up) := ⟨rfl, rfl, rfl, by decide +kernel, rfl, by decide +kernel, by decide +kernel⟩
abbrev s__law_end : Stmt := topS 31
theorem sc__law_end : FnScope ["book", "row", "end", "place"] ["book", "row", "end"] (defScope s__law_end) := ⟨rfl, rfl, rfl, by decide +kernel, rfl, by decide +kernel, by decide +kernel⟩
abbrev s__law_size : Stmt := topS 32
theorem sc__law_size : FnScope ["book", "row", "place"] ["book", "row"] (defScope s__law_size) := ⟨rfl, rfl, rfl, by decide +kernel, rfl, by decide +kernel, by decide +kernel⟩
abbrev s__law_parts : Stmt := topS 33
theorem sc__law_parts : FnScope ["record", "found", "many", "longer", "own", "number"] ["record"] (defScope s__law_parts) := ⟨rfl, rfl, rfl, by decide +kernel, rfl, by decide +kernel, by decide +kernel⟩
abbrev s__law_there : Stmt := topS 27
theorem sc__law_there : FnScope ["record", "place", "many"] ["record"] (defScope s__law_there) := ⟨rfl, rfl, rfl, by decide +kernel, rfl, by decide +kernel, by decide +kernel⟩
abbrev s__law_top : Stmt := topS 29
theorem sc__law_top : FnScope ["book", "record", "place"] ["book", "record"] (defScope s__law_top) := ⟨rfl, rfl, rfl, by decide +kernel, rfl, by decide +kernel, by decide +kernel⟩
abbrev s__law_least : Stmt := topS 34
theorem sc__law_least : FnScope ["book", "record", "ends", "part", "best", "place", "size", "step"] ["book", "record"] (defScope s__law_least) := ⟨rfl, rfl, rfl, by decide +kernel, rfl, by decide +kernel, by decide +kernel⟩
abbrev s__law_is_right : Stmt := topS 36
theorem sc__law_is_right : FnScope ["book", "record", "is_named", "kept", "told", "place"] ["book", "record", "is_named"] (defScope s__law_is_right) := ⟨rfl, rfl, rfl, by decide +kernel, rfl, by decide +kernel, by decide +kernel⟩
abbrev s__law_few : Stmt := topS 35
theorem sc__law_few : FnScope ["pool", "many", "most", "found", "turn", "spot"] ["pool", "many", "most"] (defScope s__law_few) := ⟨rfl, rfl, rfl, by decide +kernel, rfl, by decide +kernel, by decide +kernel⟩
abbrev s_law : Stmt := topS 37
theorem sc_law : FnScope ["script", "pool", "turn", "many", "book", "menu", "record"] ["script"] (defScope s_law) := ⟨rfl, rfl, rfl, by decide +kernel, rfl, by decide +kernel, by decide +kernel⟩
def kb_least_row_0_g {α : Type} (l : List α) : List α := match l with
  | [x0, x1] => [x1, x0]
  | l => l
theorem kb_least_row_0 {K : PySem.W.Frag} {f : Addr} {fd : FuncData} (F : Fun K "least_row" "least_row" s_least_row f fd) : KB K fd ["book", "record"] ["record", "book"] kb_least_row_0_g := by
  refine kb_of F (fun _ _ _ _ _ _ us hl => match us, hl with | [_, _], _ => rfl) fun R zs ws hl h => ?_
  cases h with
  | nil => simp at hl
  | cons f0 h0 =>
    cases h0 with
    | nil => simp at hl
    | cons f1 h1 =>
      cases h1 with
      | nil => exact .cons f1 (.cons f0 (.nil))
      | cons _ _ => simp at hl
abbrev b__law_pool_0 : Ms := Pl.b__law_pool_0
abbrev b__law_pool_1 : Ms := Pl.b__law_pool_1
abbrev b__law_pool_2 : Ms := Pl.b__law_pool_2
abbrev b__law_pool_3 : Ms := Pl.b__law_pool_3
abbrev b__law_pool : Ms := Pl.b__law_pool
abbrev d__law_pool : FD := Pl.d__law_pool
abbrev b__law_draw_0 : Ms := Pl.b__law_draw_0
abbrev b__law_draw_1 : Ms := Pl.b__law_draw_1
abbrev b__law_draw_2 : Ms := Pl.b__law_draw_2
abbrev b__law_draw_3 : Ms := Pl.b__law_draw_3
abbrev b__law_draw_4 : Ms := Pl.b__law_draw_4
abbrev b__law_draw_5 : Ms := Pl.b__law_draw_5
abbrev b__law_draw_6 : Ms := Pl.b__law_draw_6
abbrev b__law_draw_7 : Ms := Pl.b__law_draw_7
abbrev b__law_draw_8 : Ms := Pl.b__law_draw_8
abbrev b__law_draw_9 : Ms := Pl.b__law_draw_9
abbrev b__law_draw_10 : Ms := Pl.b__law_draw_10
abbrev b__law_draw : Ms := Pl.b__law_draw
abbrev d__law_draw : FD := Pl.d__law_draw
abbrev b__law_pick_0 : Ms := Pl.b__law_pick_0
abbrev b__law_pick : Ms := Pl.b__law_pick
abbrev d__law_pick : FD := Pl.d__law_pick
abbrev b__law_kind_0 : Ms := Pl.b__law_kind_0
abbrev b__law_kind_1 : Ms := Pl.b__law_kind_1
abbrev b__law_kind_2 : Ms := Pl.b__law_kind_2
abbrev b__law_kind_3 : Ms := Pl.b__law_kind_3
abbrev b__law_kind_4 : Ms := Pl.b__law_kind_4
abbrev b__law_kind_5 : Ms := Pl.b__law_kind_5
abbrev b__law_kind : Ms := Pl.b__law_kind
abbrev d__law_kind : FD := Pl.d__law_kind
abbrev b__law_book_0 : Ms := Pl.b__law_book_0
abbrev b__law_book_1 : Ms := Pl.b__law_book_1
abbrev b__law_book_2 : Ms := Pl.b__law_book_2
abbrev b__law_book_3 : Ms := Pl.b__law_book_3
abbrev b__law_book : Ms := Pl.b__law_book
abbrev d__law_book : FD := Pl.d__law_book
abbrev b__law_steps_0 : Ms := Pl.b__law_steps_0
abbrev b__law_steps_1 : Ms := Pl.b__law_steps_1
abbrev b__law_steps : Ms := Pl.b__law_steps
abbrev d__law_steps : FD := Pl.d__law_steps
abbrev b_require_few_0 : Ms := Ll.b_require_few_0
abbrev b_require_few_1 : Ms := Ll.b_require_few_1
abbrev b_require_few_2 : Ms := Ll.b_require_few_2
abbrev b_require_few_3 : Ms := Ll.b_require_few_3
abbrev b_require_few_4 : Ms := Ll.b_require_few_4
abbrev b_require_few_5 : Ms := Ll.b_require_few_5
abbrev b_require_few_6 : Ms := Ll.b_require_few_6
abbrev b_require_few : Ms := Ll.b_require_few
abbrev d_require_few : FD := Ll.d_require_few
abbrev b_parts_of_0 : Ms := Ll.b_parts_of_0
abbrev b_parts_of_1 : Ms := Ll.b_parts_of_1
abbrev b_parts_of_2 : Ms := Ll.b_parts_of_2
abbrev b_parts_of_3 : Ms := Ll.b_parts_of_3
abbrev b_parts_of : Ms := Ll.b_parts_of
abbrev d_parts_of : FD := Ll.d_parts_of
abbrev b_places_there_0 : Ms := Pl.b_places_there_0
abbrev b_places_there : Ms := Pl.b_places_there
abbrev d_places_there : FD := Pl.d_places_there
abbrev b_round_up_0 : Ms := Sh.b_round_up_0
abbrev b_round_up : Ms := Sh.b_round_up
abbrev d_round_up : FD := Sh.d_round_up
abbrev b_span_behind_0 : Ms := Sh.b_span_behind_0
abbrev b_span_behind_1 : Ms := Sh.b_span_behind_1
abbrev b_span_behind_2 : Ms := Sh.b_span_behind_2
abbrev b_span_behind : Ms := Sh.b_span_behind
abbrev d_span_behind : FD := Sh.d_span_behind
abbrev b_row_end_0 : Ms := Sh.b_row_end_0
abbrev b_row_end_1 : Ms := Sh.b_row_end_1
abbrev b_row_end_2 : Ms := Sh.b_row_end_2
abbrev b_row_end : Ms := Sh.b_row_end
abbrev d_row_end : FD := Sh.d_row_end
abbrev b_one_fewer_0 : Ms := Ll.b_one_fewer_0
abbrev b_one_fewer : Ms := Ll.b_one_fewer
abbrev d_one_fewer : FD := Ll.d_one_fewer
abbrev b_last_places_0 : Ms := Ll.b_last_places_0
abbrev b_last_places_1 : Ms := Ll.b_last_places_1
abbrev b_last_places_2 : Ms := Ll.b_last_places_2
abbrev b_last_places_3 : Ms := Ll.b_last_places_3
abbrev b_last_places_4 : Ms := Ll.b_last_places_4
abbrev b_last_places_5 : Ms := Ll.b_last_places_5
abbrev b_last_places_6 : Ms := Ll.b_last_places_6
abbrev b_last_places : Ms := Ll.b_last_places
abbrev d_last_places : FD := Ll.d_last_places
abbrev b_least_row_0 : Ms := Ll.b_least_row_0
abbrev b_least_row_1 : Ms := Ll.b_least_row_1
abbrev b_least_row_2 : Ms := Ll.b_least_row_2
abbrev b_least_row_3 : Ms := Ll.b_least_row_3
abbrev b_least_row_4 : Ms := Ll.b_least_row_4
abbrev b_least_row_5 : Ms := Ll.b_least_row_5
abbrev b_least_row_6 : Ms := Ll.b_least_row_6
abbrev b_least_row_7 : Ms := Ll.b_least_row_7
abbrev b_least_row : Ms := Ll.b_least_row
abbrev d_least_row : FD := Ll.d_least_row
abbrev b__law_up_0 : Ms := Pl.b__law_up_0
abbrev b__law_up : Ms := Pl.b__law_up
abbrev d__law_up : FD := Pl.d__law_up
abbrev b__law_end_0 : Ms := Pz.b__law_end_0
abbrev b__law_end_1 : Ms := Pz.b__law_end_1
abbrev b__law_end_2 : Ms := Pz.b__law_end_2
abbrev b__law_end : Ms := Pz.b__law_end
abbrev d__law_end : FD := Pz.d__law_end
abbrev b__law_size_0 : Ms := Pz.b__law_size_0
abbrev b__law_size : Ms := Pz.b__law_size
abbrev d__law_size : FD := Pz.d__law_size
abbrev b__law_parts_0 : Ms := Ll.b__law_parts_0
abbrev b__law_parts_1 : Ms := Ll.b__law_parts_1
abbrev b__law_parts_2 : Ms := Ll.b__law_parts_2
abbrev b__law_parts_3 : Ms := Ll.b__law_parts_3
abbrev b__law_parts_4 : Ms := Ll.b__law_parts_4
abbrev b__law_parts_5 : Ms := Ll.b__law_parts_5
abbrev b__law_parts_6 : Ms := Ll.b__law_parts_6
abbrev b__law_parts : Ms := Ll.b__law_parts
abbrev d__law_parts : FD := Ll.d__law_parts
abbrev b__law_there_0 : Ms := Pl.b__law_there_0
abbrev b__law_there : Ms := Pl.b__law_there
abbrev d__law_there : FD := Pl.d__law_there
abbrev b__law_top_0 : Ms := Pl.b__law_top_0
abbrev b__law_top : Ms := Pl.b__law_top
abbrev d__law_top : FD := Pl.d__law_top
abbrev b__law_least_0 : Ms := Ll.b__law_least_0
abbrev b__law_least_1 : Ms := Ll.b__law_least_1
abbrev b__law_least_2 : Ms := Ll.b__law_least_2
abbrev b__law_least_3 : Ms := Ll.b__law_least_3
abbrev b__law_least_4 : Ms := Ll.b__law_least_4
abbrev b__law_least_5 : Ms := Ll.b__law_least_5
abbrev b__law_least_6 : Ms := Ll.b__law_least_6
abbrev b__law_least_7 : Ms := Ll.b__law_least_7
abbrev b__law_least : Ms := Ll.b__law_least
abbrev d__law_least : FD := Ll.d__law_least
abbrev b__law_is_right_0 : Ms := (mRet (mC (.bool false)))
abbrev b__law_is_right_1 : Ms := (mRet (mC (.bool false)))
abbrev b__law_is_right_2 : Ms := (mRet (mC (.bool false)))
abbrev b__law_is_right_3 : Ms := (mRet (mC (.bool false)))
abbrev b__law_is_right_4 : Ms := (mRet (mOp (oEq false) (mCall (fDef d__law_size) (aCons (mVar 0) (aCons (mVar 4) aNil))) (mCall (fDef d__law_least) (aCons (mVar 0) (aCons (mVar 1) aNil)))))
abbrev b__law_is_right_5 : Ms := (mSeq (mIf (mTest (mOp (oEq true) (mCall fTuple (aCons (mLc (iRange (aCons (mCall fLen (aCons (mVar 0) aNil)) aNil)) (gN 5) bYes (mCnt (mVar 4) (aCons (mVar 5) aNil)) [5]) aNil)) (mVar 1))) b__law_is_right_3 mNext) b__law_is_right_4)
abbrev b__law_is_right_6 : Ms := (mSeq (mIf (mTest (mOp (oEq true) (mLc (iSeq (mVar 4)) (gN 5) (bOr (mTest (mIsi "bool" (mVar 5))) (bNot (mTest (mIsi "int" (mVar 5))))) (mC (.int 1)) [5]) (mLst aNil))) b__law_is_right_2 mNext) b__law_is_right_5)
abbrev b__law_is_right_7 : Ms := (mSeq (mIf (bOr (bNot (mTest (mIsi "tuple" (mVar 4)))) (mTest (mOp (oEq true) (mCall fLen (aCons (mVar 4) aNil)) (mCall fSumT (aCons (mVar 1) aNil))))) b__law_is_right_1 mNext) b__law_is_right_6)
abbrev b__law_is_right_8 : Ms := (mSeq (mIf (bOr (mTest (mOp (oEq true) (mCall fRepr (aCons (mLst (aCons (mVar 0) (aCons (mVar 1) aNil))) aNil)) (mVar 3))) (mTest (mOp (oEq true) (mCall fRepr (aCons (mCall (fDef d_least_row) (aCons (mVar 0) (aCons (mVar 1) aNil))) aNil)) (mCall fRepr (aCons (mVar 4) aNil))))) b__law_is_right_0 mNext) b__law_is_right_7)
abbrev b__law_is_right_9 : Ms := (mSeq (mSet 4 (mIte (mTest (mVar 2)) (mCallK kb_least_row_0_g 2 (fDef d_least_row) (aCons (mVar 1) (aCons (mVar 0) aNil))) (mCall (fDef d_least_row) (aCons (mVar 0) (aCons (mVar 1) aNil))))) b__law_is_right_8)
abbrev b__law_is_right_10 : Ms := (mSeq (mSet 3 (mCall fRepr (aCons (mLst (aCons (mVar 0) (aCons (mVar 1) aNil))) aNil))) b__law_is_right_9)
abbrev b__law_is_right : Ms := b__law_is_right_10
def d__law_is_right : FD := mDef 3 6 b__law_is_right
abbrev b__law_few_0 : Ms := Pz.b__law_few_0
abbrev b__law_few_1 : Ms := Pz.b__law_few_1
abbrev b__law_few_2 : Ms := Pz.b__law_few_2
abbrev b__law_few_3 : Ms := Pz.b__law_few_3
abbrev b__law_few_4 : Ms := Pz.b__law_few_4
abbrev b__law_few : Ms := Pz.b__law_few
abbrev d__law_few : FD := Pz.d__law_few
abbrev b_law_0 : Ms := (mRet (mC (.bool false)))
abbrev b_law_1 : Ms := (mIf (bNot (mTest (mCall (fDef d__law_is_right) (aCons (mVar 4) (aCons (mCall (fDef d__law_few) (aCons (mVar 1) (aCons (mVar 3) (aCons (mIte (mTest (mOp oLt (mVar 3) (mC (.int 4)))) (mC (.int 7)) (mC (.int 5))) aNil)))) (aCons (mOp (oEq false) (mVar 2) (mC (.int 1))) aNil)))))) b_law_0 mNext)
abbrev b_law_2 : Ms := (mSeq (mSet 4 (mCall (fDef d__law_book) (aCons (mVar 1) (aCons (mVar 3) (aCons (mCall (fDef d__law_steps) (aCons (mVar 1) aNil)) (aCons (mOp (oEq false) (mVar 2) (mC (.int 3))) aNil)))))) b_law_1)
abbrev b_law_3 : Ms := (mSeq (mSet 3 (mOp oAdd (mC (.int 1)) (mCall (fDef d__law_draw) (aCons (mVar 1) (aCons (mC (.int 6)) aNil))))) b_law_2)
abbrev b_law_4 : Ms := (mRet (mCall (fDef d__law_is_right) (aCons (mVar 4) (aCons (mVar 6) (aCons (mC (.bool false)) aNil)))))
abbrev b_law_5 : Ms := (mSeq (mSet 4 (mCall (fDef d__law_book) (aCons (mVar 1) (aCons (mCall fLen (aCons (mVar 6) aNil)) (aCons (mCall (fDef d__law_steps) (aCons (mVar 1) aNil)) (aCons (mOp (oEq false) (mCall (fDef d__law_draw) (aCons (mVar 1) (aCons (mC (.int 3)) aNil))) (mC (.int 0))) aNil)))))) b_law_4)
abbrev b_law_6 : Ms := (mSeq (mSet 6 (mCall (fDef d__law_pick) (aCons (mVar 1) (aCons (mVar 5) aNil)))) b_law_5)
abbrev b_law_7 : Ms := (mSeq (mSet 5 (mOp oAdd (mVar 5) (mLst (aCons (mTup (aCons (mC (.int 7)) (aCons (mC (.int 7)) (aCons (mC (.int 3)) aNil)))) aNil)))) b_law_6)
abbrev b_law_8 : Ms := (mSeq (mSet 5 (mLst (aCons (mTup (aCons (mC (.int 99)) (aCons (mC (.int 1)) aNil))) (aCons (mTup (aCons (mC (.int 84)) (aCons (mC (.int 2)) aNil))) (aCons (mTup (aCons (mC (.int 49)) (aCons (mC (.int 4)) aNil))) (aCons (mTup (aCons (mC (.int 15)) (aCons (mC (.int 15)) aNil))) (aCons (mTup (aCons (mC (.int 63)) (aCons (mC (.int 3)) aNil))) (aCons (mTup (aCons (mC (.int 100)) aNil)) (aCons (mTup (aCons (mC (.int 1)) (aCons (mC (.int 1)) (aCons (mC (.int 31)) aNil)))) (aCons (mTup (aCons (mC (.int 3)) (aCons (mC (.int 3)) (aCons (mC (.int 3)) (aCons (mC (.int 3)) aNil))))) (aCons (mTup (aCons (mC (.int 5)) (aCons (mC (.int 5)) (aCons (mC (.int 6)) aNil)))) (aCons (mOp oRepT (mTup (aCons (mC (.int 1)) aNil)) (mC (.int 6))) aNil)))))))))))) b_law_7)
abbrev b_law_9 : Ms := (mSeq (mFor (iRange (aCons (mC (.int 6)) aNil)) (gN 2) b_law_3) b_law_8)
abbrev b_law_10 : Ms := (mSeq (mSet 1 (mCall (fDef d__law_pool) (aCons (mVar 0) aNil))) b_law_9)
abbrev b_law : Ms := b_law_10
def d_law : FD := mDef 1 7 b_law
section
variable {P : Program} {w : World} {K : PySem.W.Frag} {mg : Str → Option Value} {base : Heap}
theorem ok__law_pool (Z : Zs K mg)  {f : Addr} {fd : FuncData} (F : Fun K "_law_pool" "_law_pool" s__law_pool f fd) : FnG P w K mg base 1 f fd ["script"] (spM K d__law_pool) :=
  ok_def (k := 0) F sc__law_pool fun cdv A outer sh H E gd rm =>
   ((mss_cons (ms_par (i := 1) (j := 2) rfl sc__law_pool.nd rfl rfl (by decide) rfl rfl (ma_cons (me_lc (own := [("cell", 3)]) rfl sc__law_pool.nd (mi_seq (me_slice (me_var (pv 0)) mo_none (mo_some me_int))) (blkOk_by (N := ["script", "cells", "mixed", "cell"]) (sc := defScope s__law_pool) (by decide +kernel)) (fun _ _ _ _ _ => (mg_name (i := 3) sc__law_pool.nd rfl (by first | exact .inl rfl | exact .inr rfl))) (fun _ _ _ _ _ => mts_nil) (fun _ _ _ _ _ => (me_add (me_mul me_int (me_abs (by rfl) Z.z_abs (ma_cons (me_var (pv 3)) ma_nil))) (me_inti (by rfl) Z.z_int (ma_cons (me_lt (me_var (pv 3)) me_int) ma_nil)))) (by decide)) (ma_cons (me_add me_int (me_len (by rfl) Z.z_len (ma_cons (me_var (pv 0)) ma_nil))) ma_nil)) (by rfl))
    (mss_cons (ms_for PassesOwn.never rfl (mi_seq (me_var (pv 1))) (mg_name (i := 3) sc__law_pool.nd rfl (by first | exact .inl rfl | exact .inr rfl)) (mss_one (ms_set (i := 2) sc__law_pool.nd rfl (by first | exact .inl rfl | exact .inr rfl) (me_mod (me_inti (by rfl) Z.z_int (ma_cons (me_add (me_mul (me_var (pv 2)) me_int) (me_var (pv 3))) ma_nil)) me_int))))
    (mss_one (ms_ret (me_newD (ma_cons (me_lcD (own := [("cell", 3)]) rfl sc__law_pool.nd (mi_seq (me_var (pv 1))) (blkOk_by (N := ["script", "cells", "mixed", "cell"]) (sc := defScope s__law_pool) (by decide +kernel)) (fun _ _ _ _ _ => (mg_name (i := 3) sc__law_pool.nd rfl (by first | exact .inl rfl | exact .inr rfl))) (fun _ _ _ _ _ => (mts_one (mb_gt (me_var (pv 3)) (me_pow me_int me_int)))) (fun _ _ _ _ _ => (me_var (pv 3))) (by decide)) (ma_cons (me_var (pv 2)) (ma_cons me_int ma_nil)))))))) : MSs _ (defBody s__law_pool) b__law_pool)
theorem ok__law_draw (Z : Zs K mg)  {f : Addr} {fd : FuncData} (F : Fun K "_law_draw" "_law_draw" s__law_draw f fd) : FnG P w K mg base 1 f fd ["pool", "many"] (spM K d__law_draw) :=
  ok_def (k := 0) F sc__law_draw fun cdv A outer sh H E gd rm =>
   ((mss_cons (ms_if (mb_ne rm (me_ix (me_var (pv 0)) me_int fun _ _ => rfl) (me_lst ma_nil)) (mss_cons (ms_set (i := 2) sc__law_draw.nd rfl (by first | exact .inl rfl | exact .inr rfl) (me_ix (me_ix (me_var (pv 0)) me_int fun _ _ => rfl) me_int fun _ _ => rfl))
    (mss_cons (ms_lputD (me_ix (me_var (pv 0)) me_int fun _ _ => rfl) me_int (me_div (me_var (pv 2)) (me_var (pv 1))) fun ho hi => pg_sub ho hi set_list)
    (mss_cons (ms_if (mb_lt (me_var (pv 2)) (me_var (pv 1))) (mss_one (ms_expr (me_popD (me_ix (me_var (pv 0)) me_int fun _ _ => rfl) (ma_cons me_int ma_nil)))) mss_nil)
    (mss_one (ms_ret (me_mod (me_inti (by rfl) Z.z_int (ma_cons (me_var (pv 2)) ma_nil)) (me_var (pv 1)))))))) mss_nil)
    (mss_cons (ms_lputD (me_var (pv 0)) me_int (me_add (me_ix (me_var (pv 0)) me_int fun _ _ => rfl) me_int) fun ho hi => pg_sub ho hi set_list)
    (mss_cons (ms_set (i := 3) sc__law_draw.nd rfl (by first | exact .inl rfl | exact .inr rfl) (me_mod (me_inti (by rfl) Z.z_int (ma_cons (me_add (me_ix (me_var (pv 0)) me_int fun _ _ => rfl) (me_mul me_int (me_ix (me_var (pv 0)) me_int fun _ _ => rfl))) ma_nil)) me_int))
    (mss_cons (ms_set (i := 3) sc__law_draw.nd rfl (by first | exact .inl rfl | exact .inr rfl) (me_mod (me_inti (by rfl) Z.z_int (ma_cons (me_add (me_add (me_mul (me_var (pv 3)) (me_var (pv 3))) (me_mul me_int (me_ix (me_var (pv 0)) me_int fun _ _ => rfl))) me_int) ma_nil)) me_int))
    (mss_cons (ms_set (i := 3) sc__law_draw.nd rfl (by first | exact .inl rfl | exact .inr rfl) (me_mod (me_inti (by rfl) Z.z_int (ma_cons (me_add (me_mul (me_var (pv 3)) (me_var (pv 3))) (me_ix (me_var (pv 0)) me_int fun _ _ => rfl)) ma_nil)) me_int))
    (mss_one (ms_ret (me_mod (me_inti (by rfl) Z.z_int (ma_cons (me_div (me_var (pv 3)) me_int) ma_nil)) (me_var (pv 1)))))))))) : MSs _ (defBody s__law_draw) b__law_draw)
theorem ok__law_pick (Z : Zs K mg) (h__law_draw : Kn P w K mg base 1 "_law_draw" s__law_draw ["pool", "many"] d__law_draw) {f : Addr} {fd : FuncData} (F : Fun K "_law_pick" "_law_pick" s__law_pick f fd) : FnG P w K mg base 2 f fd ["pool", "items"] (spM K d__law_pick) :=
  ok_def (k := 1) F sc__law_pick fun cdv A outer sh H E gd rm =>
   ((mss_one (ms_ret (me_ix (me_var (pv 1)) (me_fn h__law_draw gd rm (by decide) (by rfl) (ma_cons (me_var (pv 0)) (ma_cons (me_len (by rfl) Z.z_len (ma_cons (me_var (pv 1)) ma_nil)) ma_nil))) fun _ _ => rfl))) : MSs _ (defBody s__law_pick) b__law_pick)
theorem ok__law_kind (Z : Zs K mg) (h__law_pick : Kn P w K mg base 2 "_law_pick" s__law_pick ["pool", "items"] d__law_pick) (h__law_draw : Kn P w K mg base 1 "_law_draw" s__law_draw ["pool", "many"] d__law_draw) {f : Addr} {fd : FuncData} (F : Fun K "_law_kind" "_law_kind" s__law_kind f fd) : FnG P w K mg base 3 f fd ["pool", "steps", "is_great"] (spM K d__law_kind) :=
  ok_def (k := 2) F sc__law_kind fun cdv A outer sh H E gd rm =>
   ((mss_cons (ms_set (i := 3) sc__law_kind.nd rfl (by first | exact .inl rfl | exact .inr rfl) (me_fn h__law_pick gd rm (by decide) (by rfl) (ma_cons (me_var (pv 0)) (ma_cons (me_var (pv 1)) ma_nil))))
    (mss_cons (ms_set (i := 4) sc__law_kind.nd rfl (by first | exact .inl rfl | exact .inr rfl) (me_mod (me_fn h__law_pick gd rm (by decide) (by rfl) (ma_cons (me_var (pv 0)) (ma_cons (me_lst (ma_cons me_int (ma_cons me_int (ma_cons me_int (ma_cons (me_sub (me_var (pv 3)) me_int) (ma_cons (me_div (me_var (pv 3)) me_int) (ma_cons (me_fn h__law_draw gd rm (by decide) (by rfl) (ma_cons (me_var (pv 0)) (ma_cons (me_var (pv 3)) ma_nil))) ma_nil))))))) ma_nil))) (me_var (pv 3))))
    (mss_cons (ms_set (i := 5) sc__law_kind.nd rfl (by first | exact .inl rfl | exact .inr rfl) (me_fn h__law_pick gd rm (by decide) (by rfl) (ma_cons (me_var (pv 0)) (ma_cons (me_lst (ma_cons me_int (ma_cons me_int (ma_cons me_int (ma_cons me_int (ma_cons me_int (ma_cons me_int (ma_cons me_int (ma_cons me_int (ma_cons (me_add me_int (me_fn h__law_draw gd rm (by decide) (by rfl) (ma_cons (me_var (pv 0)) (ma_cons me_int ma_nil)))) ma_nil)))))))))) ma_nil))))
    (mss_cons (ms_if (MW.toB (mw_and (mb_val (me_var (pv 2))) (mw_and1 (mb_eq rm (me_fn h__law_draw gd rm (by decide) (by rfl) (ma_cons (me_var (pv 0)) (ma_cons me_int ma_nil))) me_int)))) (mss_one (ms_set (i := 5) sc__law_kind.nd rfl (by first | exact .inl rfl | exact .inr rfl) (me_sub (me_div (me_pow me_int me_int) (me_var (pv 3))) (me_fn h__law_draw gd rm (by decide) (by rfl) (ma_cons (me_var (pv 0)) (ma_cons me_int ma_nil)))))) mss_nil)
    (mss_one (ms_ret (me_tup (ma_cons (me_sub (me_mul (me_var (pv 3)) (me_var (pv 5))) (me_var (pv 4))) (ma_cons (me_var (pv 3)) ma_nil))))))))) : MSs _ (defBody s__law_kind) b__law_kind)
theorem ok__law_book (Z : Zs K mg) (h__law_kind : Kn P w K mg base 3 "_law_kind" s__law_kind ["pool", "steps", "is_great"] d__law_kind) (h__law_draw : Kn P w K mg base 1 "_law_draw" s__law_draw ["pool", "many"] d__law_draw) {f : Addr} {fd : FuncData} (F : Fun K "_law_book" "_law_book" s__law_book f fd) : FnG P w K mg base 4 f fd ["pool", "many", "steps", "is_great"] (spM K d__law_book) :=
  ok_def (k := 3) F sc__law_book fun cdv A outer sh H E gd rm =>
   ((mss_cons (ms_setLcL (n := 4) (own := [("turn", 5)]) rfl sc__law_book.nd rfl rfl (swT rfl rfl rfl (by decide +kernel)) (mi_range (by rfl) Z.z_range (ma_cons (me_var (pv 1)) ma_nil)) (blkOk_by (N := ["pool", "many", "steps", "is_great", "kinds", "turn"]) (sc := defScope s__law_book) (by decide +kernel)) (fun _ _ _ _ _ => (mg_name (i := 5) sc__law_book.nd rfl (by first | exact .inl rfl | exact .inr rfl))) (fun _ _ _ _ _ => mts_nil) (fun _ _ _ _ _ => (me_fn h__law_kind gd rm (by decide) (by rfl) (ma_cons (me_var (pv 0)) (ma_cons (me_var (pv 2)) (ma_cons (me_var (pv 3)) ma_nil))))) (by decide))
    (mss_cons (ms_if (MW.toB (mw_and (mb_gt (me_var (pv 1)) me_int) (mw_and1 (mb_eq rm (me_fn h__law_draw gd rm (by decide) (by rfl) (ma_cons (me_var (pv 0)) (ma_cons me_int ma_nil))) me_int)))) (mss_one (ms_lput (me_var (pv 4)) me_int (me_ix (me_var (pv 4)) (me_neg me_int) fun _ _ => rfl) fun ho hi => pg_sub ho hi set_list)) mss_nil)
    (mss_one (ms_ret (me_tuple (by rfl) Z.z_tuple (ma_cons (me_var (pv 4)) ma_nil)))))) : MSs _ (defBody s__law_book) b__law_book)
theorem ok__law_steps (Z : Zs K mg) (h__law_pick : Kn P w K mg base 2 "_law_pick" s__law_pick ["pool", "items"] d__law_pick) {f : Addr} {fd : FuncData} (F : Fun K "_law_steps" "_law_steps" s__law_steps f fd) : FnG P w K mg base 3 f fd ["pool"] (spM K d__law_steps) :=
  ok_def (k := 2) F sc__law_steps fun cdv A outer sh H E gd rm =>
   ((mss_cons (ms_set (i := 1) sc__law_steps.nd rfl (by first | exact .inl rfl | exact .inr rfl) (me_lst (ma_cons (me_lst (ma_cons me_int (ma_cons me_int (ma_cons me_int (ma_cons me_int (ma_cons me_int (ma_cons me_int (ma_cons me_int ma_nil)))))))) (ma_cons (me_lst (ma_cons me_int (ma_cons me_int (ma_cons me_int ma_nil)))) (ma_cons (me_lst (ma_cons me_int (ma_cons me_int (ma_cons me_int (ma_cons me_int ma_nil))))) (ma_cons (me_lst (ma_cons me_int (ma_cons me_int ma_nil))) (ma_cons (me_lst (ma_cons me_int (ma_cons me_int ma_nil))) (ma_cons (me_lst (ma_cons me_int (ma_cons me_int (ma_cons me_int ma_nil)))) (ma_cons (me_lst (ma_cons me_int ma_nil)) (ma_cons (me_lst (ma_cons me_int ma_nil)) ma_nil))))))))))
    (mss_one (ms_ret (me_fn h__law_pick gd rm (by decide) (by rfl) (ma_cons (me_var (pv 0)) (ma_cons (me_add (me_var (pv 1)) (me_lst (ma_cons (me_lst (ma_cons me_int (ma_cons me_int (ma_cons me_int (ma_cons me_int (ma_cons me_int (ma_cons me_int (ma_cons me_int ma_nil)))))))) (ma_cons (me_lst (ma_cons me_int (ma_cons me_int (ma_cons me_int ma_nil)))) ma_nil)))) ma_nil)))))) : MSs _ (defBody s__law_steps) b__law_steps)
theorem ok_require_few (Z : Zs K mg)  {f : Addr} {fd : FuncData} (F : Fun K "require_few" "require_few" s_require_few f fd) : FnG P w K mg base 1 f fd ["record"] (spM K d_require_few) :=
  ok_def (k := 0) F sc_require_few fun cdv A outer sh H E gd rm =>
   ((mss_cons (ms_if (mb_gt (me_sumT rfl (by rfl) Z.z_sum (ma_cons (me_var (pv 0)) ma_nil)) (me_gl (by rfl) (by exact Z.g_MAX_ROW))) (mss_one ms_dead) mss_nil)
    (mss_cons (ms_set (i := 1) sc_require_few.nd rfl (by first | exact .inl rfl | exact .inr rfl) me_int)
    (mss_cons (ms_for PassesOwn.never rfl (mi_seq (me_var (pv 0))) (mg_name (i := 2) sc_require_few.nd rfl (by first | exact .inl rfl | exact .inr rfl)) (mss_one (ms_set (i := 1) sc_require_few.nd rfl (by first | exact .inl rfl | exact .inr rfl) (me_mul (me_var (pv 1)) (me_add (me_var (pv 2)) me_int)))))
    (mss_one (ms_if (mb_gt (me_var (pv 1)) (me_gl (by rfl) (by exact Z.g_MAX_STATES))) (mss_one ms_dead) mss_nil))))) : MSs _ (defBody s_require_few) b_require_few)
theorem ok_parts_of (Z : Zs K mg)  {f : Addr} {fd : FuncData} (F : Fun K "parts_of" "parts_of" s_parts_of f fd) : FnG P w K mg base 1 f fd ["record"] (spM K d_parts_of) :=
  ok_def (k := 0) F sc_parts_of fun cdv A outer sh H E gd rm =>
   ((mss_cons (ms_set (i := 1) sc_parts_of.nd rfl (by first | exact .inl rfl | exact .inr rfl) (me_lst (ma_cons (me_tup ma_nil) ma_nil)))
    (mss_cons (ms_for PassesOwn.never rfl (mi_seq (me_var (pv 0))) (mg_name (i := 2) sc_parts_of.nd rfl (by first | exact .inl rfl | exact .inr rfl)) (mss_one (ms_setLc2 (n := 1) (own := [("part", 3), ("some", 4)]) (vs1 := [4]) rfl sc_parts_of.nd rfl rfl (swT rfl rfl rfl (by decide +kernel)) (mi_seq (me_var (pv 1))) (blkOk_by (N := ["record", "parts", "number", "part", "some"]) (sc := defScope s_parts_of) (by decide +kernel)) (by decide) (fun _ _ _ _ _ => (mg_name (i := 3) sc_parts_of.nd rfl (by first | exact .inl rfl | exact .inr rfl))) (fun _ _ _ _ _ => mts_nil) (fun _ _ _ _ _ => (mi_range (by rfl) Z.z_range (ma_cons (me_add (me_var (pv 2)) me_int) ma_nil))) (fun _ _ _ _ _ => (mg_name (i := 4) sc_parts_of.nd rfl (by first | exact .inl rfl | exact .inr rfl))) (fun _ _ _ _ _ => mts_nil) (fun _ _ _ _ _ => (me_add (me_var (pv 3)) (me_tup (ma_cons (me_var (pv 4)) ma_nil)))) (by decide) (by decide))))
    (mss_one (ms_ret (me_var (pv 1)))))) : MSs _ (defBody s_parts_of) b_parts_of)
theorem ok_places_there (Z : Zs K mg)  {f : Addr} {fd : FuncData} (F : Fun K "places_there" "places_there" s_places_there f fd) : FnG P w K mg base 1 f fd ["record"] (spM K d_places_there) :=
  ok_def (k := 0) F sc_places_there fun cdv A outer sh H E gd rm =>
   ((mss_one (ms_ret (me_lc (own := [("place", 1), ("number", 2)]) rfl sc_places_there.nd (mi_enum (by rfl) Z.z_enumerate (ma_cons (me_var (pv 0)) ma_nil)) (blkOk_by (N := ["record", "place", "number"]) (sc := defScope s_places_there) (by decide +kernel)) (fun _ _ _ _ _ => (mg_tup rfl (mgs_cons (mg_name (i := 1) sc_places_there.nd rfl (by first | exact .inl rfl | exact .inr rfl)) (mgs_cons (mg_name (i := 2) sc_places_there.nd rfl (by first | exact .inl rfl | exact .inr rfl)) mgs_nil)))) (fun _ _ _ _ _ => (mts_one (mb_gt (me_var (pv 2)) me_int))) (fun _ _ _ _ _ => (me_var (pv 1))) (by decide)))) : MSs _ (defBody s_places_there) b_places_there)
theorem ok_round_up (Z : Zs K mg)  {f : Addr} {fd : FuncData} (F : Fun K "round_up" "round_up" s_round_up f fd) : FnG P w K mg base 1 f fd ["number", "multiple"] (spM K d_round_up) :=
  ok_def (k := 0) F sc_round_up fun cdv A outer sh H E gd rm =>
   ((mss_one (ms_ret (me_mul (me_div (me_sub (me_add (me_var (pv 0)) (me_var (pv 1))) me_int) (me_var (pv 1))) (me_var (pv 1))))) : MSs _ (defBody s_round_up) b_round_up)
theorem ok_span_behind (Z : Zs K mg) (h_round_up : Kn P w K mg base 1 "round_up" s_round_up ["number", "multiple"] d_round_up) {f : Addr} {fd : FuncData} (F : Fun K "span_behind" "span_behind" s_span_behind f fd) : FnG P w K mg base 2 f fd ["kind", "end"] (spM K d_span_behind) :=
  ok_def (k := 1) F sc_span_behind fun cdv A outer sh H E gd rm =>
   ((mss_cons (ms_asg (me_var (pv 0)) (mg_tup rfl (mgs_cons (mg_name (i := 2) sc_span_behind.nd rfl (by first | exact .inl rfl | exact .inr rfl)) (mgs_cons (mg_name (i := 3) sc_span_behind.nd rfl (by first | exact .inl rfl | exact .inr rfl)) mgs_nil))))
    (mss_cons (ms_set (i := 4) sc_span_behind.nd rfl (by first | exact .inl rfl | exact .inr rfl) (me_fn h_round_up gd rm (by decide) (by rfl) (ma_cons (me_var (pv 1)) (ma_cons (me_var (pv 3)) ma_nil))))
    (mss_one (ms_ret (me_tup (ma_cons (me_var (pv 4)) (ma_cons (me_add (me_var (pv 4)) (me_var (pv 2))) ma_nil))))))) : MSs _ (defBody s_span_behind) b_span_behind)
theorem ok_row_end (Z : Zs K mg) (h_span_behind : Kn P w K mg base 2 "span_behind" s_span_behind ["kind", "end"] d_span_behind) {f : Addr} {fd : FuncData} (F : Fun K "row_end" "row_end" s_row_end f fd) : FnG P w K mg base 3 f fd ["book", "row", "end"] (spM K d_row_end) :=
  ok_def (k := 2) F sc_row_end fun cdv A outer sh H E gd rm =>
   ((mss_cons (ms_for PassesOwn.never rfl (mi_seq (me_var (pv 1))) (mg_name (i := 3) sc_row_end.nd rfl (by first | exact .inl rfl | exact .inr rfl)) (mss_one (ms_asg (me_fn h_span_behind gd rm (by decide) (by rfl) (ma_cons (me_ix (me_var (pv 0)) (me_var (pv 3)) fun _ _ => rfl) (ma_cons (me_var (pv 2)) ma_nil))) (mg_tup rfl (mgs_cons (mg_name (i := 4) sc_row_end.nd rfl (by first | exact .inl rfl | exact .inr rfl)) (mgs_cons (mg_name (i := 2) sc_row_end.nd rfl (by first | exact .inl rfl | exact .inr rfl)) mgs_nil))))))
    (mss_one (ms_ret (me_var (pv 2))))) : MSs _ (defBody s_row_end) b_row_end)
theorem ok_one_fewer (Z : Zs K mg)  {f : Addr} {fd : FuncData} (F : Fun K "one_fewer" "one_fewer" s_one_fewer f fd) : FnG P w K mg base 1 f fd ["part", "place"] (spM K d_one_fewer) :=
  ok_def (k := 0) F sc_one_fewer fun cdv A outer sh H E gd rm =>
   ((mss_one (ms_ret (me_add (me_add (me_slice (me_var (pv 0)) mo_none (mo_some (me_var (pv 1)))) (me_tup (ma_cons (me_sub (me_ix (me_var (pv 0)) (me_var (pv 1)) fun _ _ => rfl) me_int) ma_nil))) (me_slice (me_var (pv 0)) (mo_some (me_add (me_var (pv 1)) me_int)) mo_none)))) : MSs _ (defBody s_one_fewer) b_one_fewer)
theorem ok_last_places (Z : Zs K mg) (h_parts_of : Kn P w K mg base 1 "parts_of" s_parts_of ["record"] d_parts_of) (h_places_there : Kn P w K mg base 1 "places_there" s_places_there ["record"] d_places_there) (h_row_end : Kn P w K mg base 3 "row_end" s_row_end ["book", "row", "end"] d_row_end) (h_one_fewer : Kn P w K mg base 1 "one_fewer" s_one_fewer ["part", "place"] d_one_fewer) {f : Addr} {fd : FuncData} (F : Fun K "last_places" "last_places" s_last_places f fd) : FnG P w K mg base 4 f fd ["book", "record"] (spM K d_last_places) :=
  ok_def (k := 3) F sc_last_places fun cdv A outer sh H E gd rm =>
   ((mss_cons (ms_set (i := 2) sc_last_places.nd rfl (by first | exact .inl rfl | exact .inr rfl) (me_fn h_parts_of gd rm (by decide) (by rfl) (ma_cons (me_var (pv 1)) ma_nil)))
    (mss_cons (ms_set (i := 3) sc_last_places.nd rfl (by first | exact .inl rfl | exact .inr rfl) (me_none1 rm (me_ix (me_var (pv 2)) me_int fun _ _ => rfl) me_int))
    (mss_cons (ms_set (i := 4) sc_last_places.nd rfl (by first | exact .inl rfl | exact .inr rfl) me_nnew)
    (mss_cons (ms_for PassesOwn.never rfl (mi_seq (me_slice (me_var (pv 2)) (mo_some me_int) mo_none)) (mg_name (i := 5) sc_last_places.nd rfl (by first | exact .inl rfl | exact .inr rfl)) (mss_cons (ms_setLc (n := 6) (own := [("place", 7)]) rfl sc_last_places.nd rfl rfl (swT rfl rfl rfl (by decide +kernel)) (mi_seq (me_fn h_places_there gd rm (by decide) (by rfl) (ma_cons (me_var (pv 5)) ma_nil))) (blkOk_by (N := ["book", "record", "parts", "least_ends", "lasts", "part", "ends", "place"]) (sc := defScope s_last_places) (by decide +kernel)) (fun _ _ _ _ _ => (mg_name (i := 7) sc_last_places.nd rfl (by first | exact .inl rfl | exact .inr rfl))) (fun _ _ _ _ _ => mts_nil) (fun _ _ _ _ _ => (me_tup (ma_cons (me_fn h_row_end gd rm (by decide) (by rfl) (ma_cons (me_var (pv 0)) (ma_cons (me_tup (ma_cons (me_var (pv 7)) ma_nil)) (ma_cons (me_nget rm (me_var (pv 3)) (me_fn h_one_fewer gd rm (by decide) (by rfl) (ma_cons (me_var (pv 5)) (ma_cons (me_var (pv 7)) ma_nil))) fun _ _ => rfl) ma_nil)))) (ma_cons (me_var (pv 7)) ma_nil)))) (by decide))
    (mss_one (ms_asg (me_minD rfl rm (by rfl) Z.z_min (ma_cons (me_var (pv 6)) ma_nil)) (mg_tup rfl (mgs_cons (mg_nput rm (me_var (pv 3)) (me_var (pv 5))) (mgs_cons (mg_nput rm (me_var (pv 4)) (me_var (pv 5))) mgs_nil)))))))
    (mss_one (ms_ret (me_var (pv 4)))))))) : MSs _ (defBody s_last_places) b_last_places)
theorem ok_least_row (Z : Zs K mg) (h_require_few : Kn P w K mg base 1 "require_few" s_require_few ["record"] d_require_few) (h_last_places : Kn P w K mg base 4 "last_places" s_last_places ["book", "record"] d_last_places) (h_one_fewer : Kn P w K mg base 1 "one_fewer" s_one_fewer ["part", "place"] d_one_fewer) {f : Addr} {fd : FuncData} (F : Fun K "least_row" "least_row" s_least_row f fd) : FnG P w K mg base 5 f fd ["book", "record"] (spM K d_least_row) :=
  okT_def (k := 4) F sc_least_row fun cdv A outer sh H E gd rm =>
   ((mss_cons (ms_expr (me_fn h_require_few gd rm (by decide) (by rfl) (ma_cons (me_var (pv 1)) ma_nil)))
    (mss_cons (ms_set (i := 2) sc_least_row.nd rfl (by first | exact .inl rfl | exact .inr rfl) (me_fn h_last_places gd rm (by decide) (by rfl) (ma_cons (me_var (pv 0)) (ma_cons (me_var (pv 1)) ma_nil))))
    (mss_cons (ms_set (i := 3) sc_least_row.nd rfl (by first | exact .inl rfl | exact .inr rfl) (me_newL ma_nil))
    (mss_cons (ms_set (i := 4) sc_least_row.nd rfl (by first | exact .inl rfl | exact .inr rfl) (me_var (pv 1)))
    (mss_cons (ms_while PassesOwn.never (mb_nin rm (me_var (pv 4)) (me_var (pv 2))) (mss_cons (ms_expr (me_append (me_var (pv 3)) (ma_cons (me_nget rm (me_var (pv 2)) (me_var (pv 4)) fun _ _ => rfl) ma_nil)))
    (mss_one (ms_set (i := 4) sc_least_row.nd rfl (by first | exact .inl rfl | exact .inr rfl) (me_fn h_one_fewer gd rm (by decide) (by rfl) (ma_cons (me_var (pv 4)) (ma_cons (me_nget rm (me_var (pv 2)) (me_var (pv 4)) fun _ _ => rfl) ma_nil)))))))
    (mss_one (ms_ret (me_tuple (by rfl) Z.z_tuple (ma_cons (me_revL (me_var (pv 3))) ma_nil))))))))) : MSs _ (defBody s_least_row) b_least_row)
theorem ok__law_up (Z : Zs K mg)  {f : Addr} {fd : FuncData} (F : Fun K "_law_up" "_law_up" s__law_up f fd) : FnG P w K mg base 1 f fd ["number", "step"] (spM K d__law_up) :=
  ok_def (k := 0) F sc__law_up fun cdv A outer sh H E gd rm =>
   ((mss_one (ms_ret (me_mul (me_neg (me_div (me_neg (me_var (pv 0))) (me_var (pv 1)))) (me_var (pv 1))))) : MSs _ (defBody s__law_up) b__law_up)
theorem ok__law_end (Z : Zs K mg) (h__law_up : Kn P w K mg base 1 "_law_up" s__law_up ["number", "step"] d__law_up) {f : Addr} {fd : FuncData} (F : Fun K "_law_end" "_law_end" s__law_end f fd) : FnG P w K mg base 2 f fd ["book", "row", "end"] (spM K d__law_end) :=
  ok_def (k := 1) F sc__law_end fun cdv A outer sh H E gd rm =>
   ((mss_cons (ms_for PassesOwn.never rfl (mi_seq (me_var (pv 1))) (mg_name (i := 3) sc__law_end.nd rfl (by first | exact .inl rfl | exact .inr rfl)) (mss_one (ms_set (i := 2) sc__law_end.nd rfl (by first | exact .inl rfl | exact .inr rfl) (me_add (me_fn h__law_up gd rm (by decide) (by rfl) (ma_cons (me_var (pv 2)) (ma_cons (me_ix (me_ix (me_var (pv 0)) (me_var (pv 3)) fun _ _ => rfl) me_int fun _ _ => rfl) ma_nil))) (me_ix (me_ix (me_var (pv 0)) (me_var (pv 3)) fun _ _ => rfl) me_int fun _ _ => rfl)))))
    (mss_one (ms_ret (me_var (pv 2))))) : MSs _ (defBody s__law_end) b__law_end)
theorem ok__law_size (Z : Zs K mg) (h__law_up : Kn P w K mg base 1 "_law_up" s__law_up ["number", "step"] d__law_up) (h__law_end : Kn P w K mg base 2 "_law_end" s__law_end ["book", "row", "end"] d__law_end) {f : Addr} {fd : FuncData} (F : Fun K "_law_size" "_law_size" s__law_size f fd) : FnG P w K mg base 3 f fd ["book", "row"] (spM K d__law_size) :=
  ok_def (k := 2) F sc__law_size fun cdv A outer sh H E gd rm =>
   ((mss_one (ms_ret (me_fn h__law_up gd rm (by decide) (by rfl) (ma_cons (me_fn h__law_end gd rm (by decide) (by rfl) (ma_cons (me_var (pv 0)) (ma_cons (me_var (pv 1)) (ma_cons me_int ma_nil)))) (ma_cons (me_max rfl (by rfl) Z.z_max (ma_cons (me_lc (own := [("place", 2)]) rfl sc__law_size.nd (mi_seq (me_var (pv 1))) (blkOk_by (N := ["book", "row", "place"]) (sc := defScope s__law_size) (by decide +kernel)) (fun _ _ _ _ _ => (mg_name (i := 2) sc__law_size.nd rfl (by first | exact .inl rfl | exact .inr rfl))) (fun _ _ _ _ _ => mts_nil) (fun _ _ _ _ _ => (me_ix (me_ix (me_var (pv 0)) (me_var (pv 2)) fun _ _ => rfl) me_int fun _ _ => rfl)) (by decide)) ma_nil)) ma_nil))))) : MSs _ (defBody s__law_size) b__law_size)
theorem ok__law_parts (Z : Zs K mg)  {f : Addr} {fd : FuncData} (F : Fun K "_law_parts" "_law_parts" s__law_parts f fd) : FnG P w K mg base 1 f fd ["record"] (spM K d__law_parts) :=
  ok_def (k := 0) F sc__law_parts fun cdv A outer sh H E gd rm =>
   ((mss_cons (ms_set (i := 1) sc__law_parts.nd rfl (by first | exact .inl rfl | exact .inr rfl) (me_lst (ma_cons (me_tup ma_nil) ma_nil)))
    (mss_cons (ms_for PassesOwn.never rfl (mi_seq (me_var (pv 0))) (mg_name (i := 2) sc__law_parts.nd rfl (by first | exact .inl rfl | exact .inr rfl)) (mss_cons (ms_set (i := 3) sc__law_parts.nd rfl (by first | exact .inl rfl | exact .inr rfl) (me_lst ma_nil))
    (mss_cons (ms_for PassesOwn.never rfl (mi_seq (me_var (pv 1))) (mg_name (i := 4) sc__law_parts.nd rfl (by first | exact .inl rfl | exact .inr rfl)) (mss_one (ms_set (i := 3) sc__law_parts.nd rfl (by first | exact .inl rfl | exact .inr rfl) (me_add (me_var (pv 3)) (me_lc (own := [("number", 5)]) rfl sc__law_parts.nd (mi_range (by rfl) Z.z_range (ma_cons (me_add (me_inti (by rfl) Z.z_int (ma_cons (me_var (pv 2)) ma_nil)) me_int) ma_nil)) (blkOk_by (N := ["record", "found", "many", "longer", "own", "number"]) (sc := defScope s__law_parts) (by decide +kernel)) (fun _ _ _ _ _ => (mg_name (i := 5) sc__law_parts.nd rfl (by first | exact .inl rfl | exact .inr rfl))) (fun _ _ _ _ _ => mts_nil) (fun _ _ _ _ _ => (me_add (me_var (pv 4)) (me_tup (ma_cons (me_var (pv 5)) ma_nil)))) (by decide))))))
    (mss_one (ms_set (i := 1) sc__law_parts.nd rfl (by first | exact .inl rfl | exact .inr rfl) (me_var (pv 3)))))))
    (mss_one (ms_ret (me_var (pv 1)))))) : MSs _ (defBody s__law_parts) b__law_parts)
theorem ok__law_there (Z : Zs K mg)  {f : Addr} {fd : FuncData} (F : Fun K "_law_there" "_law_there" s__law_there f fd) : FnG P w K mg base 1 f fd ["record"] (spM K d__law_there) :=
  ok_def (k := 0) F sc__law_there fun cdv A outer sh H E gd rm =>
   ((mss_one (ms_ret (me_lc (own := [("place", 1), ("many", 2)]) rfl sc__law_there.nd (mi_enum (by rfl) Z.z_enumerate (ma_cons (me_var (pv 0)) ma_nil)) (blkOk_by (N := ["record", "place", "many"]) (sc := defScope s__law_there) (by decide +kernel)) (fun _ _ _ _ _ => (mg_tup rfl (mgs_cons (mg_name (i := 1) sc__law_there.nd rfl (by first | exact .inl rfl | exact .inr rfl)) (mgs_cons (mg_name (i := 2) sc__law_there.nd rfl (by first | exact .inl rfl | exact .inr rfl)) mgs_nil)))) (fun _ _ _ _ _ => (mts_one (mb_gt (me_var (pv 2)) me_int))) (fun _ _ _ _ _ => (me_var (pv 1))) (by decide)))) : MSs _ (defBody s__law_there) b__law_there)
theorem ok__law_top (Z : Zs K mg) (h__law_there : Kn P w K mg base 1 "_law_there" s__law_there ["record"] d__law_there) {f : Addr} {fd : FuncData} (F : Fun K "_law_top" "_law_top" s__law_top f fd) : FnG P w K mg base 2 f fd ["book", "record"] (spM K d__law_top) :=
  ok_def (k := 1) F sc__law_top fun cdv A outer sh H E gd rm =>
   ((mss_one (ms_ret (me_max rfl (by rfl) Z.z_max (ma_cons (me_lc (own := [("place", 2)]) rfl sc__law_top.nd (mi_seq (me_fn h__law_there gd rm (by decide) (by rfl) (ma_cons (me_var (pv 1)) ma_nil))) (blkOk_by (N := ["book", "record", "place"]) (sc := defScope s__law_top) (by decide +kernel)) (fun _ _ _ _ _ => (mg_name (i := 2) sc__law_top.nd rfl (by first | exact .inl rfl | exact .inr rfl))) (fun _ _ _ _ _ => mts_nil) (fun _ _ _ _ _ => (me_ix (me_ix (me_var (pv 0)) (me_var (pv 2)) fun _ _ => rfl) me_int fun _ _ => rfl)) (by decide)) ma_nil)))) : MSs _ (defBody s__law_top) b__law_top)
theorem ok__law_least (Z : Zs K mg) (h__law_parts : Kn P w K mg base 1 "_law_parts" s__law_parts ["record"] d__law_parts) (h__law_there : Kn P w K mg base 1 "_law_there" s__law_there ["record"] d__law_there) (h__law_up : Kn P w K mg base 1 "_law_up" s__law_up ["number", "step"] d__law_up) (h__law_top : Kn P w K mg base 2 "_law_top" s__law_top ["book", "record"] d__law_top) {f : Addr} {fd : FuncData} (F : Fun K "_law_least" "_law_least" s__law_least f fd) : FnG P w K mg base 3 f fd ["book", "record"] (spM K d__law_least) :=
  okT_def (k := 2) F sc__law_least fun cdv A outer sh H E gd rm =>
   ((mss_cons (ms_set (i := 2) sc__law_least.nd rfl (by first | exact .inl rfl | exact .inr rfl) me_nnew)
    (mss_cons (ms_for PassesOwn.never rfl (mi_seq (me_fn h__law_parts gd rm (by decide) (by rfl) (ma_cons (me_var (pv 1)) ma_nil))) (mg_name (i := 3) sc__law_least.nd rfl (by first | exact .inl rfl | exact .inr rfl)) (mss_cons (ms_set (i := 4) sc__law_least.nd rfl (by first | exact .inl rfl | exact .inr rfl) (me_newL ma_nil))
    (mss_cons (ms_for PassesOwn.never rfl (mi_seq (me_fn h__law_there gd rm (by decide) (by rfl) (ma_cons (me_var (pv 3)) ma_nil))) (mg_name (i := 5) sc__law_least.nd rfl (by first | exact .inl rfl | exact .inr rfl)) (mss_cons (ms_asg (me_ix (me_var (pv 0)) (me_var (pv 5)) fun _ _ => rfl) (mg_tup rfl (mgs_cons (mg_name (i := 6) sc__law_least.nd rfl (by first | exact .inl rfl | exact .inr rfl)) (mgs_cons (mg_name (i := 7) sc__law_least.nd rfl (by first | exact .inl rfl | exact .inr rfl)) mgs_nil))))
    (mss_one (ms_expr (me_append (me_var (pv 4)) (ma_cons (me_add (me_fn h__law_up gd rm (by decide) (by rfl) (ma_cons (me_nget rm (me_var (pv 2)) (me_add (me_add (me_slice (me_var (pv 3)) mo_none (mo_some (me_var (pv 5)))) (me_tup (ma_cons (me_sub (me_ix (me_var (pv 3)) (me_var (pv 5)) fun _ _ => rfl) me_int) ma_nil))) (me_slice (me_var (pv 3)) (mo_some (me_add (me_var (pv 5)) me_int)) mo_none)) fun _ _ => rfl) (ma_cons (me_var (pv 7)) ma_nil))) (me_var (pv 6))) ma_nil))))))
    (mss_one (ms_nput rm (me_var (pv 2)) (me_var (pv 3)) (me_ite (mb_ne rm (me_var (pv 4)) (me_lst ma_nil)) (me_min rfl (by rfl) Z.z_min (ma_cons (me_var (pv 4)) ma_nil)) me_int) (by rfl))))))
    (mss_one (ms_ret (me_fn h__law_up gd rm (by decide) (by rfl) (ma_cons (me_nget rm (me_var (pv 2)) (me_tuple (by rfl) Z.z_tuple (ma_cons (me_var (pv 1)) ma_nil)) fun _ _ => rfl) (ma_cons (me_fn h__law_top gd rm (by decide) (by rfl) (ma_cons (me_var (pv 0)) (ma_cons (me_var (pv 1)) ma_nil))) ma_nil))))))) : MSs _ (defBody s__law_least) b__law_least)
theorem ok__law_is_right (Z : Zs K mg) (h_least_row : Kn P w K mg base 5 "least_row" s_least_row ["book", "record"] d_least_row) (h__law_size : Kn P w K mg base 3 "_law_size" s__law_size ["book", "row"] d__law_size) (h__law_least : Kn P w K mg base 3 "_law_least" s__law_least ["book", "record"] d__law_least) {f : Addr} {fd : FuncData} (F : Fun K "_law_is_right" "_law_is_right" s__law_is_right f fd) : FnG P w K mg base 6 f fd ["book", "record", "is_named"] (spM K d__law_is_right) :=
  ok_def (k := 5) F sc__law_is_right fun cdv A outer sh H E gd rm =>
   ((mss_cons (ms_set (i := 3) sc__law_is_right.nd rfl (by first | exact .inl rfl | exact .inr rfl) (me_repr gd rm (by rfl) Z.z_repr (ma_cons (me_lst (ma_cons (me_var (pv 0)) (ma_cons (me_var (pv 1)) ma_nil))) ma_nil)))
    (mss_cons (ms_set (i := 4) sc__law_is_right.nd rfl (by first | exact .inl rfl | exact .inr rfl) (me_ite (mb_val (me_var (pv 2))) (me_fnK (ks := ["record", "book"]) (g := kb_least_row_0_g) h_least_row gd rm (by decide) (by rfl) (fun _ _ U => kb_least_row_0 U) (mk_cons (me_var (pv 1)) (mk_cons (me_var (pv 0)) mk_nil))) (me_fn h_least_row gd rm (by decide) (by rfl) (ma_cons (me_var (pv 0)) (ma_cons (me_var (pv 1)) ma_nil)))))
    (mss_cons (ms_if (MW.toB (mw_or (mb_ne rm (me_repr gd rm (by rfl) Z.z_repr (ma_cons (me_lst (ma_cons (me_var (pv 0)) (ma_cons (me_var (pv 1)) ma_nil))) ma_nil)) (me_var (pv 3))) (mw_or1 (mb_ne rm (me_repr gd rm (by rfl) Z.z_repr (ma_cons (me_fn h_least_row gd rm (by decide) (by rfl) (ma_cons (me_var (pv 0)) (ma_cons (me_var (pv 1)) ma_nil))) ma_nil)) (me_repr gd rm (by rfl) Z.z_repr (ma_cons (me_var (pv 4)) ma_nil)))))) (mss_one (ms_ret me_bl)) mss_nil)
    (mss_cons (ms_if (MW.toB (mw_or (mb_not (mb_val (me_isi (by rfl) Z.z_isinstance (by rfl) Z.z_tuple (by decide +kernel) (me_var (pv 4))))) (mw_or1 (mb_ne rm (me_len (by rfl) Z.z_len (ma_cons (me_var (pv 4)) ma_nil)) (me_sumT rfl (by rfl) Z.z_sum (ma_cons (me_var (pv 1)) ma_nil)))))) (mss_one (ms_ret me_bl)) mss_nil)
    (mss_cons (ms_if (mb_ne rm (me_lc (own := [("place", 5)]) rfl sc__law_is_right.nd (mi_seq (me_var (pv 4))) (blkOk_by (N := ["book", "record", "is_named", "kept", "told", "place"]) (sc := defScope s__law_is_right) (by decide +kernel)) (fun _ _ _ _ _ => (mg_name (i := 5) sc__law_is_right.nd rfl (by first | exact .inl rfl | exact .inr rfl))) (fun _ _ _ _ _ => (mts_one (MW.toB (mw_or (mb_val (me_isi (by rfl) Z.z_isinstance (by rfl) Z.z_bool (by decide +kernel) (me_var (pv 5)))) (mw_or1 (mb_not (mb_val (me_isi (by rfl) Z.z_isinstance (by rfl) Z.z_int (by decide +kernel) (me_var (pv 5)))))))))) (fun _ _ _ _ _ => me_int) (by decide)) (me_lst ma_nil)) (mss_one (ms_ret me_bl)) mss_nil)
    (mss_cons (ms_if (mb_ne rm (me_tuple (by rfl) Z.z_tuple (ma_cons (me_lc (own := [("place", 5)]) rfl sc__law_is_right.nd (mi_range (by rfl) Z.z_range (ma_cons (me_len (by rfl) Z.z_len (ma_cons (me_var (pv 0)) ma_nil)) ma_nil)) (blkOk_by (N := ["book", "record", "is_named", "kept", "told", "place"]) (sc := defScope s__law_is_right) (by decide +kernel)) (fun _ _ _ _ _ => (mg_name (i := 5) sc__law_is_right.nd rfl (by first | exact .inl rfl | exact .inr rfl))) (fun _ _ _ _ _ => mts_nil) (fun _ _ _ _ _ => (me_count (me_var (pv 4)) (ma_cons (me_var (pv 5)) ma_nil))) (by decide)) ma_nil)) (me_var (pv 1))) (mss_one (ms_ret me_bl)) mss_nil)
    (mss_one (ms_ret (me_eq rm (me_fn h__law_size gd rm (by decide) (by rfl) (ma_cons (me_var (pv 0)) (ma_cons (me_var (pv 4)) ma_nil))) (me_fn h__law_least gd rm (by decide) (by rfl) (ma_cons (me_var (pv 0)) (ma_cons (me_var (pv 1)) ma_nil)))))))))))) : MSs _ (defBody s__law_is_right) b__law_is_right)
theorem ok__law_few (Z : Zs K mg) (h__law_draw : Kn P w K mg base 1 "_law_draw" s__law_draw ["pool", "many"] d__law_draw) {f : Addr} {fd : FuncData} (F : Fun K "_law_few" "_law_few" s__law_few f fd) : FnG P w K mg base 2 f fd ["pool", "many", "most"] (spM K d__law_few) :=
  ok_def (k := 1) F sc__law_few fun cdv A outer sh H E gd rm =>
   ((mss_cons (ms_set (i := 3) sc__law_few.nd rfl (by first | exact .inl rfl | exact .inr rfl) (me_mulL (me_lst (ma_cons me_int ma_nil)) (me_var (pv 1))))
    (mss_cons (ms_for PassesOwn.never rfl (mi_range (by rfl) Z.z_range (ma_cons (me_add me_int (me_fn h__law_draw gd rm (by decide) (by rfl) (ma_cons (me_var (pv 0)) (ma_cons (me_var (pv 2)) ma_nil)))) ma_nil)) (mg_name (i := 4) sc__law_few.nd rfl (by first | exact .inl rfl | exact .inr rfl)) (mss_cons (ms_set (i := 5) sc__law_few.nd rfl (by first | exact .inl rfl | exact .inr rfl) (me_fn h__law_draw gd rm (by decide) (by rfl) (ma_cons (me_var (pv 0)) (ma_cons (me_var (pv 1)) ma_nil))))
    (mss_one (ms_lput (me_var (pv 3)) (me_var (pv 5)) (me_add (me_ix (me_var (pv 3)) (me_var (pv 5)) fun _ _ => rfl) me_int) fun ho hi => pg_sub ho hi set_list))))
    (mss_one (ms_ret (me_tuple (by rfl) Z.z_tuple (ma_cons (me_var (pv 3)) ma_nil)))))) : MSs _ (defBody s__law_few) b__law_few)
theorem ok_law (Z : Zs K mg) (h__law_pool : Kn P w K mg base 1 "_law_pool" s__law_pool ["script"] d__law_pool) (h__law_draw : Kn P w K mg base 1 "_law_draw" s__law_draw ["pool", "many"] d__law_draw) (h__law_book : Kn P w K mg base 4 "_law_book" s__law_book ["pool", "many", "steps", "is_great"] d__law_book) (h__law_steps : Kn P w K mg base 3 "_law_steps" s__law_steps ["pool"] d__law_steps) (h__law_is_right : Kn P w K mg base 6 "_law_is_right" s__law_is_right ["book", "record", "is_named"] d__law_is_right) (h__law_few : Kn P w K mg base 2 "_law_few" s__law_few ["pool", "many", "most"] d__law_few) (h__law_pick : Kn P w K mg base 2 "_law_pick" s__law_pick ["pool", "items"] d__law_pick) {f : Addr} {fd : FuncData} (F : Fun K "law" "law" s_law f fd) : FnG P w K mg base 7 f fd ["script"] (spM K d_law) :=
  ok_def (k := 6) F sc_law fun cdv A outer sh H E gd rm =>
   ((mss_cons (ms_set (i := 1) sc_law.nd rfl (by first | exact .inl rfl | exact .inr rfl) (me_fn h__law_pool gd rm (by decide) (by rfl) (ma_cons (me_var (pv 0)) ma_nil)))
    (mss_cons (ms_for PassesOwn.never rfl (mi_range (by rfl) Z.z_range (ma_cons me_int ma_nil)) (mg_name (i := 2) sc_law.nd rfl (by first | exact .inl rfl | exact .inr rfl)) (mss_cons (ms_set (i := 3) sc_law.nd rfl (by first | exact .inl rfl | exact .inr rfl) (me_add me_int (me_fn h__law_draw gd rm (by decide) (by rfl) (ma_cons (me_var (pv 1)) (ma_cons me_int ma_nil)))))
    (mss_cons (ms_set (i := 4) sc_law.nd rfl (by first | exact .inl rfl | exact .inr rfl) (me_fn h__law_book gd rm (by decide) (by rfl) (ma_cons (me_var (pv 1)) (ma_cons (me_var (pv 3)) (ma_cons (me_fn h__law_steps gd rm (by decide) (by rfl) (ma_cons (me_var (pv 1)) ma_nil)) (ma_cons (me_eq rm (me_var (pv 2)) me_int) ma_nil))))))
    (mss_one (ms_if (mb_not (mb_val (me_fn h__law_is_right gd rm (by decide) (by rfl) (ma_cons (me_var (pv 4)) (ma_cons (me_fn h__law_few gd rm (by decide) (by rfl) (ma_cons (me_var (pv 1)) (ma_cons (me_var (pv 3)) (ma_cons (me_ite (mb_lt (me_var (pv 3)) me_int) me_int me_int) ma_nil)))) (ma_cons (me_eq rm (me_var (pv 2)) me_int) ma_nil)))))) (mss_one (ms_ret me_bl)) mss_nil)))))
    (mss_cons (ms_set (i := 5) sc_law.nd rfl (by first | exact .inl rfl | exact .inr rfl) (me_lst (ma_cons (me_tup (ma_cons me_int (ma_cons me_int ma_nil))) (ma_cons (me_tup (ma_cons me_int (ma_cons me_int ma_nil))) (ma_cons (me_tup (ma_cons me_int (ma_cons me_int ma_nil))) (ma_cons (me_tup (ma_cons me_int (ma_cons me_int ma_nil))) (ma_cons (me_tup (ma_cons me_int (ma_cons me_int ma_nil))) (ma_cons (me_tup (ma_cons me_int ma_nil)) (ma_cons (me_tup (ma_cons me_int (ma_cons me_int (ma_cons me_int ma_nil)))) (ma_cons (me_tup (ma_cons me_int (ma_cons me_int (ma_cons me_int (ma_cons me_int ma_nil))))) (ma_cons (me_tup (ma_cons me_int (ma_cons me_int (ma_cons me_int ma_nil)))) (ma_cons (me_repT (me_tup (ma_cons me_int ma_nil)) me_int) ma_nil))))))))))))
    (mss_cons (ms_set (i := 5) sc_law.nd rfl (by first | exact .inl rfl | exact .inr rfl) (me_add (me_var (pv 5)) (me_lst (ma_cons (me_tup (ma_cons me_int (ma_cons me_int (ma_cons me_int ma_nil)))) ma_nil))))
    (mss_cons (ms_set (i := 6) sc_law.nd rfl (by first | exact .inl rfl | exact .inr rfl) (me_fn h__law_pick gd rm (by decide) (by rfl) (ma_cons (me_var (pv 1)) (ma_cons (me_var (pv 5)) ma_nil))))
    (mss_cons (ms_set (i := 4) sc_law.nd rfl (by first | exact .inl rfl | exact .inr rfl) (me_fn h__law_book gd rm (by decide) (by rfl) (ma_cons (me_var (pv 1)) (ma_cons (me_len (by rfl) Z.z_len (ma_cons (me_var (pv 6)) ma_nil)) (ma_cons (me_fn h__law_steps gd rm (by decide) (by rfl) (ma_cons (me_var (pv 1)) ma_nil)) (ma_cons (me_eq rm (me_fn h__law_draw gd rm (by decide) (by rfl) (ma_cons (me_var (pv 1)) (ma_cons me_int ma_nil))) me_int) ma_nil))))))
    (mss_one (ms_ret (me_fn h__law_is_right gd rm (by decide) (by rfl) (ma_cons (me_var (pv 4)) (ma_cons (me_var (pv 6)) (ma_cons me_bl ma_nil)))))))))))) : MSs _ (defBody s_law) b_law)
end
/-- what the top has written -/
theorem all_mk {P : Program} {w : World} {K : PySem.W.Frag} {h : Heap} {mg : Str → Option Value} {fa : Addr} (X : K.In h) (G : h.Ns mainGlobals mg) (hfa : mg "law" = some (.ref fa))
    {f0 : Addr} {od0 an0 : Option Addr} {sl0 : Array (Option Value)} {oc0 kV0 dc0 pm0 cd0 ct0 : Value}
    (a0 : PySem.W.nsIn K mainGlobals "_law_pool" = some (some (.ref f0))) (l0 : K.lookup f0 = some ⟨oc0, od0, .func (PySem.W.fnOf "_law_pool" "_law_pool" (defArgs s__law_pool) (defBody s__law_pool) (defScope s__law_pool) .none kV0 dc0 pm0 an0 cd0 ct0), sl0⟩) (c0 : PySem.W.codeIn K cd0 "_law_pool" = true) (k0 : PySem.W.keepIn K (.ref f0) = true)
    {f1 : Addr} {od1 an1 : Option Addr} {sl1 : Array (Option Value)} {oc1 kV1 dc1 pm1 cd1 ct1 : Value}
    (a1 : PySem.W.nsIn K mainGlobals "_law_draw" = some (some (.ref f1))) (l1 : K.lookup f1 = some ⟨oc1, od1, .func (PySem.W.fnOf "_law_draw" "_law_draw" (defArgs s__law_draw) (defBody s__law_draw) (defScope s__law_draw) .none kV1 dc1 pm1 an1 cd1 ct1), sl1⟩) (c1 : PySem.W.codeIn K cd1 "_law_draw" = true) (k1 : PySem.W.keepIn K (.ref f1) = true)
    {f2 : Addr} {od2 an2 : Option Addr} {sl2 : Array (Option Value)} {oc2 kV2 dc2 pm2 cd2 ct2 : Value}
    (a2 : PySem.W.nsIn K mainGlobals "_law_pick" = some (some (.ref f2))) (l2 : K.lookup f2 = some ⟨oc2, od2, .func (PySem.W.fnOf "_law_pick" "_law_pick" (defArgs s__law_pick) (defBody s__law_pick) (defScope s__law_pick) .none kV2 dc2 pm2 an2 cd2 ct2), sl2⟩) (c2 : PySem.W.codeIn K cd2 "_law_pick" = true) (k2 : PySem.W.keepIn K (.ref f2) = true)
    {f3 : Addr} {od3 an3 : Option Addr} {sl3 : Array (Option Value)} {oc3 kV3 dc3 pm3 cd3 ct3 : Value}
    (a3 : PySem.W.nsIn K mainGlobals "_law_kind" = some (some (.ref f3))) (l3 : K.lookup f3 = some ⟨oc3, od3, .func (PySem.W.fnOf "_law_kind" "_law_kind" (defArgs s__law_kind) (defBody s__law_kind) (defScope s__law_kind) .none kV3 dc3 pm3 an3 cd3 ct3), sl3⟩) (c3 : PySem.W.codeIn K cd3 "_law_kind" = true) (k3 : PySem.W.keepIn K (.ref f3) = true)
    {f4 : Addr} {od4 an4 : Option Addr} {sl4 : Array (Option Value)} {oc4 kV4 dc4 pm4 cd4 ct4 : Value}
    (a4 : PySem.W.nsIn K mainGlobals "_law_book" = some (some (.ref f4))) (l4 : K.lookup f4 = some ⟨oc4, od4, .func (PySem.W.fnOf "_law_book" "_law_book" (defArgs s__law_book) (defBody s__law_book) (defScope s__law_book) .none kV4 dc4 pm4 an4 cd4 ct4), sl4⟩) (c4 : PySem.W.codeIn K cd4 "_law_book" = true) (k4 : PySem.W.keepIn K (.ref f4) = true)
    {f5 : Addr} {od5 an5 : Option Addr} {sl5 : Array (Option Value)} {oc5 kV5 dc5 pm5 cd5 ct5 : Value}
    (a5 : PySem.W.nsIn K mainGlobals "_law_steps" = some (some (.ref f5))) (l5 : K.lookup f5 = some ⟨oc5, od5, .func (PySem.W.fnOf "_law_steps" "_law_steps" (defArgs s__law_steps) (defBody s__law_steps) (defScope s__law_steps) .none kV5 dc5 pm5 an5 cd5 ct5), sl5⟩) (c5 : PySem.W.codeIn K cd5 "_law_steps" = true) (k5 : PySem.W.keepIn K (.ref f5) = true)
    {f6 : Addr} {od6 an6 : Option Addr} {sl6 : Array (Option Value)} {oc6 kV6 dc6 pm6 cd6 ct6 : Value}
    (a6 : PySem.W.nsIn K mainGlobals "require_few" = some (some (.ref f6))) (l6 : K.lookup f6 = some ⟨oc6, od6, .func (PySem.W.fnOf "require_few" "require_few" (defArgs s_require_few) (defBody s_require_few) (defScope s_require_few) .none kV6 dc6 pm6 an6 cd6 ct6), sl6⟩) (c6 : PySem.W.codeIn K cd6 "require_few" = true) (k6 : PySem.W.keepIn K (.ref f6) = true)
    {f7 : Addr} {od7 an7 : Option Addr} {sl7 : Array (Option Value)} {oc7 kV7 dc7 pm7 cd7 ct7 : Value}
    (a7 : PySem.W.nsIn K mainGlobals "parts_of" = some (some (.ref f7))) (l7 : K.lookup f7 = some ⟨oc7, od7, .func (PySem.W.fnOf "parts_of" "parts_of" (defArgs s_parts_of) (defBody s_parts_of) (defScope s_parts_of) .none kV7 dc7 pm7 an7 cd7 ct7), sl7⟩) (c7 : PySem.W.codeIn K cd7 "parts_of" = true) (k7 : PySem.W.keepIn K (.ref f7) = true)
    {f8 : Addr} {od8 an8 : Option Addr} {sl8 : Array (Option Value)} {oc8 kV8 dc8 pm8 cd8 ct8 : Value}
    (a8 : PySem.W.nsIn K mainGlobals "places_there" = some (some (.ref f8))) (l8 : K.lookup f8 = some ⟨oc8, od8, .func (PySem.W.fnOf "places_there" "places_there" (defArgs s_places_there) (defBody s_places_there) (defScope s_places_there) .none kV8 dc8 pm8 an8 cd8 ct8), sl8⟩) (c8 : PySem.W.codeIn K cd8 "places_there" = true) (k8 : PySem.W.keepIn K (.ref f8) = true)
    {f9 : Addr} {od9 an9 : Option Addr} {sl9 : Array (Option Value)} {oc9 kV9 dc9 pm9 cd9 ct9 : Value}
    (a9 : PySem.W.nsIn K mainGlobals "round_up" = some (some (.ref f9))) (l9 : K.lookup f9 = some ⟨oc9, od9, .func (PySem.W.fnOf "round_up" "round_up" (defArgs s_round_up) (defBody s_round_up) (defScope s_round_up) .none kV9 dc9 pm9 an9 cd9 ct9), sl9⟩) (c9 : PySem.W.codeIn K cd9 "round_up" = true) (k9 : PySem.W.keepIn K (.ref f9) = true)
    {f10 : Addr} {od10 an10 : Option Addr} {sl10 : Array (Option Value)} {oc10 kV10 dc10 pm10 cd10 ct10 : Value}
    (a10 : PySem.W.nsIn K mainGlobals "span_behind" = some (some (.ref f10))) (l10 : K.lookup f10 = some ⟨oc10, od10, .func (PySem.W.fnOf "span_behind" "span_behind" (defArgs s_span_behind) (defBody s_span_behind) (defScope s_span_behind) .none kV10 dc10 pm10 an10 cd10 ct10), sl10⟩) (c10 : PySem.W.codeIn K cd10 "span_behind" = true) (k10 : PySem.W.keepIn K (.ref f10) = true)
    {f11 : Addr} {od11 an11 : Option Addr} {sl11 : Array (Option Value)} {oc11 kV11 dc11 pm11 cd11 ct11 : Value}
    (a11 : PySem.W.nsIn K mainGlobals "row_end" = some (some (.ref f11))) (l11 : K.lookup f11 = some ⟨oc11, od11, .func (PySem.W.fnOf "row_end" "row_end" (defArgs s_row_end) (defBody s_row_end) (defScope s_row_end) .none kV11 dc11 pm11 an11 cd11 ct11), sl11⟩) (c11 : PySem.W.codeIn K cd11 "row_end" = true) (k11 : PySem.W.keepIn K (.ref f11) = true)
    {f12 : Addr} {od12 an12 : Option Addr} {sl12 : Array (Option Value)} {oc12 kV12 dc12 pm12 cd12 ct12 : Value}
    (a12 : PySem.W.nsIn K mainGlobals "one_fewer" = some (some (.ref f12))) (l12 : K.lookup f12 = some ⟨oc12, od12, .func (PySem.W.fnOf "one_fewer" "one_fewer" (defArgs s_one_fewer) (defBody s_one_fewer) (defScope s_one_fewer) .none kV12 dc12 pm12 an12 cd12 ct12), sl12⟩) (c12 : PySem.W.codeIn K cd12 "one_fewer" = true) (k12 : PySem.W.keepIn K (.ref f12) = true)
    {f13 : Addr} {od13 an13 : Option Addr} {sl13 : Array (Option Value)} {oc13 kV13 dc13 pm13 cd13 ct13 : Value}
    (a13 : PySem.W.nsIn K mainGlobals "last_places" = some (some (.ref f13))) (l13 : K.lookup f13 = some ⟨oc13, od13, .func (PySem.W.fnOf "last_places" "last_places" (defArgs s_last_places) (defBody s_last_places) (defScope s_last_places) .none kV13 dc13 pm13 an13 cd13 ct13), sl13⟩) (c13 : PySem.W.codeIn K cd13 "last_places" = true) (k13 : PySem.W.keepIn K (.ref f13) = true)
    {f14 : Addr} {od14 an14 : Option Addr} {sl14 : Array (Option Value)} {oc14 kV14 dc14 pm14 cd14 ct14 : Value}
    (a14 : PySem.W.nsIn K mainGlobals "least_row" = some (some (.ref f14))) (l14 : K.lookup f14 = some ⟨oc14, od14, .func (PySem.W.fnOf "least_row" "least_row" (defArgs s_least_row) (defBody s_least_row) (defScope s_least_row) .none kV14 dc14 pm14 an14 cd14 ct14), sl14⟩) (c14 : PySem.W.codeIn K cd14 "least_row" = true) (k14 : PySem.W.keepIn K (.ref f14) = true)
    {f15 : Addr} {od15 an15 : Option Addr} {sl15 : Array (Option Value)} {oc15 kV15 dc15 pm15 cd15 ct15 : Value}
    (a15 : PySem.W.nsIn K mainGlobals "_law_up" = some (some (.ref f15))) (l15 : K.lookup f15 = some ⟨oc15, od15, .func (PySem.W.fnOf "_law_up" "_law_up" (defArgs s__law_up) (defBody s__law_up) (defScope s__law_up) .none kV15 dc15 pm15 an15 cd15 ct15), sl15⟩) (c15 : PySem.W.codeIn K cd15 "_law_up" = true) (k15 : PySem.W.keepIn K (.ref f15) = true)
    {f16 : Addr} {od16 an16 : Option Addr} {sl16 : Array (Option Value)} {oc16 kV16 dc16 pm16 cd16 ct16 : Value}
    (a16 : PySem.W.nsIn K mainGlobals "_law_end" = some (some (.ref f16))) (l16 : K.lookup f16 = some ⟨oc16, od16, .func (PySem.W.fnOf "_law_end" "_law_end" (defArgs s__law_end) (defBody s__law_end) (defScope s__law_end) .none kV16 dc16 pm16 an16 cd16 ct16), sl16⟩) (c16 : PySem.W.codeIn K cd16 "_law_end" = true) (k16 : PySem.W.keepIn K (.ref f16) = true)
    {f17 : Addr} {od17 an17 : Option Addr} {sl17 : Array (Option Value)} {oc17 kV17 dc17 pm17 cd17 ct17 : Value}
    (a17 : PySem.W.nsIn K mainGlobals "_law_size" = some (some (.ref f17))) (l17 : K.lookup f17 = some ⟨oc17, od17, .func (PySem.W.fnOf "_law_size" "_law_size" (defArgs s__law_size) (defBody s__law_size) (defScope s__law_size) .none kV17 dc17 pm17 an17 cd17 ct17), sl17⟩) (c17 : PySem.W.codeIn K cd17 "_law_size" = true) (k17 : PySem.W.keepIn K (.ref f17) = true)
    {f18 : Addr} {od18 an18 : Option Addr} {sl18 : Array (Option Value)} {oc18 kV18 dc18 pm18 cd18 ct18 : Value}
    (a18 : PySem.W.nsIn K mainGlobals "_law_parts" = some (some (.ref f18))) (l18 : K.lookup f18 = some ⟨oc18, od18, .func (PySem.W.fnOf "_law_parts" "_law_parts" (defArgs s__law_parts) (defBody s__law_parts) (defScope s__law_parts) .none kV18 dc18 pm18 an18 cd18 ct18), sl18⟩) (c18 : PySem.W.codeIn K cd18 "_law_parts" = true) (k18 : PySem.W.keepIn K (.ref f18) = true)
    {f19 : Addr} {od19 an19 : Option Addr} {sl19 : Array (Option Value)} {oc19 kV19 dc19 pm19 cd19 ct19 : Value}
    (a19 : PySem.W.nsIn K mainGlobals "_law_there" = some (some (.ref f19))) (l19 : K.lookup f19 = some ⟨oc19, od19, .func (PySem.W.fnOf "_law_there" "_law_there" (defArgs s__law_there) (defBody s__law_there) (defScope s__law_there) .none kV19 dc19 pm19 an19 cd19 ct19), sl19⟩) (c19 : PySem.W.codeIn K cd19 "_law_there" = true) (k19 : PySem.W.keepIn K (.ref f19) = true)
    {f20 : Addr} {od20 an20 : Option Addr} {sl20 : Array (Option Value)} {oc20 kV20 dc20 pm20 cd20 ct20 : Value}
    (a20 : PySem.W.nsIn K mainGlobals "_law_top" = some (some (.ref f20))) (l20 : K.lookup f20 = some ⟨oc20, od20, .func (PySem.W.fnOf "_law_top" "_law_top" (defArgs s__law_top) (defBody s__law_top) (defScope s__law_top) .none kV20 dc20 pm20 an20 cd20 ct20), sl20⟩) (c20 : PySem.W.codeIn K cd20 "_law_top" = true) (k20 : PySem.W.keepIn K (.ref f20) = true)
    {f21 : Addr} {od21 an21 : Option Addr} {sl21 : Array (Option Value)} {oc21 kV21 dc21 pm21 cd21 ct21 : Value}
    (a21 : PySem.W.nsIn K mainGlobals "_law_least" = some (some (.ref f21))) (l21 : K.lookup f21 = some ⟨oc21, od21, .func (PySem.W.fnOf "_law_least" "_law_least" (defArgs s__law_least) (defBody s__law_least) (defScope s__law_least) .none kV21 dc21 pm21 an21 cd21 ct21), sl21⟩) (c21 : PySem.W.codeIn K cd21 "_law_least" = true) (k21 : PySem.W.keepIn K (.ref f21) = true)
    {f22 : Addr} {od22 an22 : Option Addr} {sl22 : Array (Option Value)} {oc22 kV22 dc22 pm22 cd22 ct22 : Value}
    (a22 : PySem.W.nsIn K mainGlobals "_law_is_right" = some (some (.ref f22))) (l22 : K.lookup f22 = some ⟨oc22, od22, .func (PySem.W.fnOf "_law_is_right" "_law_is_right" (defArgs s__law_is_right) (defBody s__law_is_right) (defScope s__law_is_right) .none kV22 dc22 pm22 an22 cd22 ct22), sl22⟩) (c22 : PySem.W.codeIn K cd22 "_law_is_right" = true) (k22 : PySem.W.keepIn K (.ref f22) = true)
    {f23 : Addr} {od23 an23 : Option Addr} {sl23 : Array (Option Value)} {oc23 kV23 dc23 pm23 cd23 ct23 : Value}
    (a23 : PySem.W.nsIn K mainGlobals "_law_few" = some (some (.ref f23))) (l23 : K.lookup f23 = some ⟨oc23, od23, .func (PySem.W.fnOf "_law_few" "_law_few" (defArgs s__law_few) (defBody s__law_few) (defScope s__law_few) .none kV23 dc23 pm23 an23 cd23 ct23), sl23⟩) (c23 : PySem.W.codeIn K cd23 "_law_few" = true) (k23 : PySem.W.keepIn K (.ref f23) = true)
    {f24 : Addr} {od24 an24 : Option Addr} {sl24 : Array (Option Value)} {oc24 kV24 dc24 pm24 cd24 ct24 : Value}
    (a24 : PySem.W.nsIn K mainGlobals "law" = some (some (.ref f24))) (l24 : K.lookup f24 = some ⟨oc24, od24, .func (PySem.W.fnOf "law" "law" (defArgs s_law) (defBody s_law) (defScope s_law) .none kV24 dc24 pm24 an24 cd24 ct24), sl24⟩) (c24 : PySem.W.codeIn K cd24 "law" = true) (k24 : PySem.W.keepIn K (.ref f24) = true)
    (z_enumerate : PySem.W.nsIn K mainGlobals "enumerate" = some none)
    (z_tuple : PySem.W.nsIn K mainGlobals "tuple" = some none)
    (z_sum : PySem.W.nsIn K mainGlobals "sum" = some none)
    (z_min : PySem.W.nsIn K mainGlobals "min" = some none)
    (z_range : PySem.W.nsIn K mainGlobals "range" = some none)
    (z_abs : PySem.W.nsIn K mainGlobals "abs" = some none)
    (z_int : PySem.W.nsIn K mainGlobals "int" = some none)
    (z_len : PySem.W.nsIn K mainGlobals "len" = some none)
    (z_max : PySem.W.nsIn K mainGlobals "max" = some none)
    (z_repr : PySem.W.nsIn K mainGlobals "repr" = some none)
    (z_isinstance : PySem.W.nsIn K mainGlobals "isinstance" = some none)
    (z_bool : PySem.W.nsIn K mainGlobals "bool" = some none)
    {gt_MAX_ROW : Tok} (g_MAX_ROW : PySem.W.nsIn K mainGlobals "MAX_ROW" = some (some (.int 100 gt_MAX_ROW)))
    {gt_MAX_STATES : Tok} (g_MAX_STATES : PySem.W.nsIn K mainGlobals "MAX_STATES" = some (some (.int 256 gt_MAX_STATES)))
    : ∃ fd : FuncData, (∀ (s : Shared) (v : Value), BindsTo s fd ⟨[v], []⟩ [("script", v)]) ∧ ∀ base : Heap, K.In base → base.Ns mainGlobals mg → FnG P w K mg base 7 fa fd ["script"] (spM K d_law) := by
  cases hfa.symm.trans (PySem.W.mg_of X G a24)
  have Z : Zs K mg := ⟨PySem.W.mg_none_of X G z_enumerate, PySem.W.mg_none_of X G z_tuple, PySem.W.mg_none_of X G z_sum, PySem.W.mg_none_of X G z_min, PySem.W.mg_none_of X G z_range, PySem.W.mg_none_of X G z_abs, PySem.W.mg_none_of X G z_int, PySem.W.mg_none_of X G z_len, PySem.W.mg_none_of X G z_max, PySem.W.mg_none_of X G z_repr, PySem.W.mg_none_of X G z_isinstance, PySem.W.mg_none_of X G z_bool, glc_int X G g_MAX_ROW, glc_int X G g_MAX_STATES⟩
  refine ⟨PySem.W.fnOf "law" "law" (defArgs s_law) (defBody s_law) (defScope s_law) .none kV24 dc24 pm24 an24 cd24 ct24, fun s v => .of_eq rfl, fun base _ _ => ?_⟩
  have F0 := fun_mk (st := s__law_pool) l0 c0 k0
  have h0 : Kn P w K mg base 1 "_law_pool" s__law_pool ["script"] d__law_pool := ⟨_, _, ok__law_pool Z  F0, PySem.W.mg_of X G a0, F0, F0.binds fun _ _ _ _ _ _ us hl => match us, hl with | [_], _ => rfl⟩
  have F1 := fun_mk (st := s__law_draw) l1 c1 k1
  have h1 : Kn P w K mg base 1 "_law_draw" s__law_draw ["pool", "many"] d__law_draw := ⟨_, _, ok__law_draw Z  F1, PySem.W.mg_of X G a1, F1, F1.binds fun _ _ _ _ _ _ us hl => match us, hl with | [_, _], _ => rfl⟩
  have F2 := fun_mk (st := s__law_pick) l2 c2 k2
  have h2 : Kn P w K mg base 2 "_law_pick" s__law_pick ["pool", "items"] d__law_pick := ⟨_, _, ok__law_pick Z h1 F2, PySem.W.mg_of X G a2, F2, F2.binds fun _ _ _ _ _ _ us hl => match us, hl with | [_, _], _ => rfl⟩
  have F3 := fun_mk (st := s__law_kind) l3 c3 k3
  have h3 : Kn P w K mg base 3 "_law_kind" s__law_kind ["pool", "steps", "is_great"] d__law_kind := ⟨_, _, ok__law_kind Z h2 h1 F3, PySem.W.mg_of X G a3, F3, F3.binds fun _ _ _ _ _ _ us hl => match us, hl with | [_, _, _], _ => rfl⟩
  have F4 := fun_mk (st := s__law_book) l4 c4 k4
  have h4 : Kn P w K mg base 4 "_law_book" s__law_book ["pool", "many", "steps", "is_great"] d__law_book := ⟨_, _, ok__law_book Z h3 h1 F4, PySem.W.mg_of X G a4, F4, F4.binds fun _ _ _ _ _ _ us hl => match us, hl with | [_, _, _, _], _ => rfl⟩
  have F5 := fun_mk (st := s__law_steps) l5 c5 k5
  have h5 : Kn P w K mg base 3 "_law_steps" s__law_steps ["pool"] d__law_steps := ⟨_, _, ok__law_steps Z h2 F5, PySem.W.mg_of X G a5, F5, F5.binds fun _ _ _ _ _ _ us hl => match us, hl with | [_], _ => rfl⟩
  have F6 := fun_mk (st := s_require_few) l6 c6 k6
  have h6 : Kn P w K mg base 1 "require_few" s_require_few ["record"] d_require_few := ⟨_, _, ok_require_few Z  F6, PySem.W.mg_of X G a6, F6, F6.binds fun _ _ _ _ _ _ us hl => match us, hl with | [_], _ => rfl⟩
  have F7 := fun_mk (st := s_parts_of) l7 c7 k7
  have h7 : Kn P w K mg base 1 "parts_of" s_parts_of ["record"] d_parts_of := ⟨_, _, ok_parts_of Z  F7, PySem.W.mg_of X G a7, F7, F7.binds fun _ _ _ _ _ _ us hl => match us, hl with | [_], _ => rfl⟩
  have F8 := fun_mk (st := s_places_there) l8 c8 k8
  have h8 : Kn P w K mg base 1 "places_there" s_places_there ["record"] d_places_there := ⟨_, _, ok_places_there Z  F8, PySem.W.mg_of X G a8, F8, F8.binds fun _ _ _ _ _ _ us hl => match us, hl with | [_], _ => rfl⟩
  have F9 := fun_mk (st := s_round_up) l9 c9 k9
  have h9 : Kn P w K mg base 1 "round_up" s_round_up ["number", "multiple"] d_round_up := ⟨_, _, ok_round_up Z  F9, PySem.W.mg_of X G a9, F9, F9.binds fun _ _ _ _ _ _ us hl => match us, hl with | [_, _], _ => rfl⟩
  have F10 := fun_mk (st := s_span_behind) l10 c10 k10
  have h10 : Kn P w K mg base 2 "span_behind" s_span_behind ["kind", "end"] d_span_behind := ⟨_, _, ok_span_behind Z h9 F10, PySem.W.mg_of X G a10, F10, F10.binds fun _ _ _ _ _ _ us hl => match us, hl with | [_, _], _ => rfl⟩
  have F11 := fun_mk (st := s_row_end) l11 c11 k11
  have h11 : Kn P w K mg base 3 "row_end" s_row_end ["book", "row", "end"] d_row_end := ⟨_, _, ok_row_end Z h10 F11, PySem.W.mg_of X G a11, F11, F11.binds fun _ _ _ _ _ _ us hl => match us, hl with | [_, _, _], _ => rfl⟩
  have F12 := fun_mk (st := s_one_fewer) l12 c12 k12
  have h12 : Kn P w K mg base 1 "one_fewer" s_one_fewer ["part", "place"] d_one_fewer := ⟨_, _, ok_one_fewer Z  F12, PySem.W.mg_of X G a12, F12, F12.binds fun _ _ _ _ _ _ us hl => match us, hl with | [_, _], _ => rfl⟩
  have F13 := fun_mk (st := s_last_places) l13 c13 k13
  have h13 : Kn P w K mg base 4 "last_places" s_last_places ["book", "record"] d_last_places := ⟨_, _, ok_last_places Z h7 h8 h11 h12 F13, PySem.W.mg_of X G a13, F13, F13.binds fun _ _ _ _ _ _ us hl => match us, hl with | [_, _], _ => rfl⟩
  have F14 := fun_mk (st := s_least_row) l14 c14 k14
  have h14 : Kn P w K mg base 5 "least_row" s_least_row ["book", "record"] d_least_row := ⟨_, _, ok_least_row Z h6 h13 h12 F14, PySem.W.mg_of X G a14, F14, F14.binds fun _ _ _ _ _ _ us hl => match us, hl with | [_, _], _ => rfl⟩
  have F15 := fun_mk (st := s__law_up) l15 c15 k15
  have h15 : Kn P w K mg base 1 "_law_up" s__law_up ["number", "step"] d__law_up := ⟨_, _, ok__law_up Z  F15, PySem.W.mg_of X G a15, F15, F15.binds fun _ _ _ _ _ _ us hl => match us, hl with | [_, _], _ => rfl⟩
  have F16 := fun_mk (st := s__law_end) l16 c16 k16
  have h16 : Kn P w K mg base 2 "_law_end" s__law_end ["book", "row", "end"] d__law_end := ⟨_, _, ok__law_end Z h15 F16, PySem.W.mg_of X G a16, F16, F16.binds fun _ _ _ _ _ _ us hl => match us, hl with | [_, _, _], _ => rfl⟩
  have F17 := fun_mk (st := s__law_size) l17 c17 k17
  have h17 : Kn P w K mg base 3 "_law_size" s__law_size ["book", "row"] d__law_size := ⟨_, _, ok__law_size Z h15 h16 F17, PySem.W.mg_of X G a17, F17, F17.binds fun _ _ _ _ _ _ us hl => match us, hl with | [_, _], _ => rfl⟩
  have F18 := fun_mk (st := s__law_parts) l18 c18 k18
  have h18 : Kn P w K mg base 1 "_law_parts" s__law_parts ["record"] d__law_parts := ⟨_, _, ok__law_parts Z  F18, PySem.W.mg_of X G a18, F18, F18.binds fun _ _ _ _ _ _ us hl => match us, hl with | [_], _ => rfl⟩
  have F19 := fun_mk (st := s__law_there) l19 c19 k19
  have h19 : Kn P w K mg base 1 "_law_there" s__law_there ["record"] d__law_there := ⟨_, _, ok__law_there Z  F19, PySem.W.mg_of X G a19, F19, F19.binds fun _ _ _ _ _ _ us hl => match us, hl with | [_], _ => rfl⟩
  have F20 := fun_mk (st := s__law_top) l20 c20 k20
  have h20 : Kn P w K mg base 2 "_law_top" s__law_top ["book", "record"] d__law_top := ⟨_, _, ok__law_top Z h19 F20, PySem.W.mg_of X G a20, F20, F20.binds fun _ _ _ _ _ _ us hl => match us, hl with | [_, _], _ => rfl⟩
  have F21 := fun_mk (st := s__law_least) l21 c21 k21
  have h21 : Kn P w K mg base 3 "_law_least" s__law_least ["book", "record"] d__law_least := ⟨_, _, ok__law_least Z h18 h19 h15 h20 F21, PySem.W.mg_of X G a21, F21, F21.binds fun _ _ _ _ _ _ us hl => match us, hl with | [_, _], _ => rfl⟩
  have F22 := fun_mk (st := s__law_is_right) l22 c22 k22
  have h22 : Kn P w K mg base 6 "_law_is_right" s__law_is_right ["book", "record", "is_named"] d__law_is_right := ⟨_, _, ok__law_is_right Z h14 h17 h21 F22, PySem.W.mg_of X G a22, F22, F22.binds fun _ _ _ _ _ _ us hl => match us, hl with | [_, _, _], _ => rfl⟩
  have F23 := fun_mk (st := s__law_few) l23 c23 k23
  have h23 : Kn P w K mg base 2 "_law_few" s__law_few ["pool", "many", "most"] d__law_few := ⟨_, _, ok__law_few Z h1 F23, PySem.W.mg_of X G a23, F23, F23.binds fun _ _ _ _ _ _ us hl => match us, hl with | [_, _, _], _ => rfl⟩
  have F24 := fun_mk (st := s_law) l24 c24 k24
  exact ok_law Z h0 h1 h4 h5 h22 h23 h2 F24
end K36

set_option Elab.async false
set_option linter.all false
set_option maxRecDepth 100000
set_option maxHeartbeats 1000000
namespace K36
open PySem PySem.Spec L2 L3 Sh Pl Pq Wm Lw Ll
theorem w_eqFI {a b : Int} {M : Mem} {Q : Kt} (h : Q (.bl (decide (a = b))) M) : oEq false (.d (.int a)) (.d (.int b)) M Q := by
  rw [x_eqi]
  exact h
theorem count_ix (r : List Nat) (i : Nat) : (r.map fun (j : Nat) => (j : Int)).count (i : Int) = r.count i := by
  induction r with
  | nil => rfl
  | cons a r ih =>
    rw [List.map_cons, List.count_cons, List.count_cons, ih]
    congr 1
    by_cases h : a = i
    · subst h; simp
    · have : ¬ (a : Int) = (i : Int) := by omega
      simp [h, this]
theorem ct_list {K : Bk6} {N : List Int} {r : List Nat} (hl : N.length = K.length) (ct : Ct K N r) : ((List.range K.length).map fun p => ((r.count p : Nat) : Int)) = N := by
  refine List.ext_getElem (by simp [hl]) fun i h1 h2 => ?_
  rw [List.getElem_map, List.getElem_range, ct i (by simpa using h1), num_at h2]
theorem row_ok {K : Bk6} {r : List Nat} (g : GB K) (gr : GR K r) : OkShow (rowD r) := (sw_row g gr).ok (by omega) (by omega)
abbrev Rv (K : Bk6) (N : List Int) (nm : Bool) (s : Str) (a b : Option T) : En := [some (.d (bkD K)), some (.d (recD N)), some (.bl nm), some (.d (.str s)), a, b]
theorem right_5 {E : Es} {K : Bk6} {N : List Int} {nm : Bool} {s : Str} {D : List Cell} (g : GB K) (gf : GF K N) (q : E.rt (.bl true) ⟨D, []⟩) :
    b__law_is_right_5 E (Rv K N nm s (some (.d (rowD (lrow K N)))) none) ⟨D, []⟩ := by
  have lr := lrow_ok gf.gn
  have gr := lrow_gr gf.gn gf.hd
  have h6 := g.six
  refine w_seq (w_if (w_test (w_op (w_call (w_ac (w_lc ?_))))))
  rw [x_irange]
  refine w_ac (w_call (w_ac ⟨_, rfl, w_an (w_lenK (w_an ?_))⟩))
  refine ⟨⟨by omega, by omega⟩, ?_⟩
  rw [Int.toNat_natCast]
  unfold rangeT
  show goLc _ _ _ (Rv K N nm s (some (.d (rowD (lrow K N)))) none) _ _ _ _
  refine lc_pure (ts := List.range K.length) (fun p => .int (((lrow K N).count p : Nat) : Int)) (sz64' (by simp; omega)) (fun p acc R3 hp ha hr3 => ?_) ?_
  · show gN 5 (.int (p : Int)) _ _ _
    rw [x_gn]
    refine ⟨.d (rowD (lrow K N)), rfl, .int (p : Int), rfl, ((lrow K N).map fun (j : Nat) => (j : Int)), ?_, ?_⟩
    · have := intsOf_map ((lrow K N).map fun (j : Nat) => (j : Int))
      rw [List.map_map] at this
      exact this
    · rw [count_ix]
      exact ⟨ha, hr3⟩
  · have e : (List.range K.length).map (fun p => PyData.int (((lrow K N).count p : Nat) : Int)) = N.map .int := by
      have := congrArg (List.map PyData.int) (ct_list gf.gn.len lr.2.1)
      rw [List.map_map] at this
      exact this
    rw [e]
    refine w_an (w_tupl ?_)
    refine ⟨_, rfl, w_neRec rfl ⟨_, rfl, ifF (by simp) (w_next ?_)⟩⟩
    suffices key : b__law_is_right_4 E (Rv K N nm s (some (.d (rowD (lrow K N)))) none) ⟨D, []⟩ from key
    refine w_ret (w_op (w_call (w_ac ⟨_, rfl, w_ac ⟨_, rfl, w_an ⟨by simp, sp_size g gr ?_⟩⟩⟩)))
    refine w_call (w_ac ⟨_, rfl, w_ac ⟨_, rfl, w_an ⟨by simp, sp_law_least g gf (w_eqFI ?_)⟩⟩⟩)
    rw [lrow_whole gf.gn]
    simpa using q
theorem right_7 {E : Es} {K : Bk6} {N : List Int} {nm : Bool} {s : Str} {D : List Cell} (g : GB K) (gf : GF K N) (q : E.rt (.bl true) ⟨D, []⟩) :
    b__law_is_right_7 E (Rv K N nm s (some (.d (rowD (lrow K N)))) none) ⟨D, []⟩ := by
  have lr := lrow_ok gf.gn
  have gr := lrow_gr gf.gn gf.hd
  have nn := gn_nn gf.gn
  have ht := gf.hd
  refine w_seq (w_if (w_bor (w_bnot (w_test ?_))))
  rw [x_isi]
  refine ⟨.d (rowD (lrow K N)), rfl, "tuple", true, rfl, rfl, true, rfl, ifF (by simp) (w_test ?_)⟩
  refine w_op (w_call (w_ac ⟨.d (rowD (lrow K N)), rfl, w_an (w_lenR ?_)⟩))
  refine w_call (w_ac ⟨.d (recD N), rfl, w_an (Ll.w_sumT (w_eqI ⟨false, ?_, ifF (by simp) (w_next ?_)⟩))⟩)
  · have : (((lrow K N).length : Nat) : Int) = N.sum := by
      rw [lr.2.2.2]
      have := gn_tl gf.gn
      unfold tl at this ⊢
      omega
    simp [this]
  suffices key : b__law_is_right_6 E (Rv K N nm s (some (.d (rowD (lrow K N)))) none) ⟨D, []⟩ from key
  refine w_seq (w_if (w_test (w_op (w_lc ⟨.d (rowD (lrow K N)), rfl, ?_⟩))))
  show goLc _ _ _ (Rv K N nm s (some (.d (rowD (lrow K N)))) none) _ (((lrow K N).map ix).map T.d) [] _
  rw [List.map_map]
  refine lc_pf (ts := lrow K N) (fun _ => false) (fun _ => .int 1) (sz64' (by have := gr.hd; omega)) (fun n acc R hi ha hr => ?_) ?_
  · show gN 5 (.int (n : Int)) _ _ _
    rw [x_gn]
    refine w_bor (w_test ?_)
    rw [x_isi]
    refine ⟨.int (n : Int), rfl, "int", false, rfl, rfl, false, rfl, ifF (by simp) (w_bnot (w_test ?_))⟩
    rw [x_isi]
    refine ⟨.int (n : Int), rfl, "int", true, rfl, rfl, true, rfl, ?_⟩
    refine ifF (by simp) ?_
    rw [if_neg (by simp)] at hr
    exact hr
  · rw [filter_none]
    rw [List.map_nil]
    refine ⟨Nat.zero_le _, w_neNil ⟨false, rfl, ifF (by simp) (w_next ?_)⟩⟩
    exact right_5 g gf q
theorem sp_is_right {K : Bk6} {N : List Int} {nm : Bool} {D : List Cell} {Q : T → List Cell → Prop} (g : GB K) (gf : GF K N) (q : Q (.bl true) D) : d__law_is_right [.d (bkD K), .d (recD N), .bl nm] D Q := by
  have gr := lrow_gr gf.gn gf.hd
  refine ⟨rfl, w_seq (w_set (w_call (w_ac ?_)))⟩
  rw [x_lst]
  refine w_ac ⟨_, rfl, w_ac ⟨_, rfl, w_an ⟨two_ok, w_an (w_shw (two_okB g gf.gn) ?_)⟩⟩⟩
  suffices key : b__law_is_right_9 { nx := fun _ M => Q .non M.D, rt := fun t M => noL t = true ∧ Q t M.D } (Rv K N nm (PyData.list [bkD K, recD N]).shown none none) ⟨D, []⟩ from key
  refine w_seq (w_set ?_)
  have fin : b__law_is_right_8 { nx := fun _ M => Q .non M.D, rt := fun t M => noL t = true ∧ Q t M.D } (Rv K N nm (PyData.list [bkD K, recD N]).shown (some (.d (rowD (lrow K N)))) none) ⟨D, []⟩ := by
    refine w_seq (w_if (w_bor (w_test (w_op (w_call (w_ac ?_))))))
    rw [x_lst]
    refine w_ac ⟨_, rfl, w_ac ⟨_, rfl, w_an ⟨two_ok, w_an (w_shw (two_okB g gf.gn) ⟨_, rfl, w_neS ⟨_, rfl, ifF (by simp) ?_⟩⟩)⟩⟩⟩
    refine w_test (w_op (w_call (w_ac (w_call (w_ac ⟨_, rfl, w_ac ⟨_, rfl, w_an ⟨by simp, sp_least_row g gf (w_an (w_shw (row_ok g gr) ?_))⟩⟩⟩)))))
    refine w_call (w_ac ⟨_, rfl, w_an (w_shw (row_ok g gr) (w_neS ⟨_, rfl, ifF (by simp) (w_next ?_)⟩))⟩)
    exact right_7 g gf ⟨rfl, q⟩
  rw [x_ite]
  refine w_test ⟨.bl nm, rfl, nm, rfl, ?_⟩
  cases nm with
  | true =>
    refine ifT rfl ?_
    simp only [x_callk]
    refine w_ac ⟨_, rfl, w_ac ⟨_, rfl, w_an ⟨rfl, by simp [kb_least_row_0_g], ?_⟩⟩⟩
    exact sp_least_row g gf fin
  | false =>
    refine ifF (by simp) ?_
    exact w_call (w_ac ⟨_, rfl, w_ac ⟨_, rfl, w_an ⟨by simp, sp_least_row g gf fin⟩⟩⟩)
def menu : List (List Int) := [[99, 1], [84, 2], [49, 4], [15, 15], [63, 3], [100], [1, 1, 31], [3, 3, 3, 3], [5, 5, 6]] ++ [List.replicate 6 1] ++ [[7, 7, 3]]
theorem menu_ok : ∀ N ∈ menu, 1 ≤ N.length ∧ N.length ≤ 6 ∧ (∀ n ∈ N, 0 ≤ n ∧ n ≤ 1000000000000000000000000000000) ∧ 0 < N.sum ∧ N.sum ≤ 100 ∧ prd N ≤ 256 := by decide +kernel
abbrev Ev (ns : List Int) (a b c d e : Option T) : En := [some (.scr ns), some (.mr 1), a, b, c, d, e]
theorem law_3 {E : Es} {ns : List Int} {i : Nat} {D : List Cell} {b c d e : Option T} (hD : Pl.RI D)
    (q : ∀ D' b c, Pl.RI D' → E.nx (Ev ns (some (.int (i : Int))) b c d e) ⟨D', []⟩) :
    b_law_3 E (Ev ns (some (.int (i : Int))) b c d e) ⟨D, []⟩ := by
  refine w_seq (w_set (w_op (w_c (w_call (w_ac ⟨.mr 1, rfl, w_ac (w_c (w_an ⟨by simp, sp_draw hD (by omega) (by omega) fun m D1 d0 d1 hD1 => w_add ?_⟩))⟩)))))
  suffices key : b_law_2 E (Ev ns (some (.int (i : Int))) (some (.int (1 + m))) c d e) ⟨D1, []⟩ from key
  refine w_seq (w_set (w_call (w_ac ⟨.mr 1, rfl, w_ac ⟨.int (1 + m), rfl, w_ac (w_call (w_ac ⟨.mr 1, rfl, w_an ⟨by simp, sp_steps hD1 fun S D2 s1 s2 s3 hD2 => ?_⟩⟩))⟩⟩)))
  refine w_ac (w_op ⟨.int (i : Int), rfl, w_c (w_eqFI ?_)⟩)
  refine w_an ⟨by simp, sp_book hD2 s1 s2 s3 (by omega) (by omega) fun K D3 g hK hD3 => ?_⟩
  rw [← hK]
  suffices key : b_law_1 E (Ev ns (some (.int (i : Int))) (some (.int (K.length : Int))) (some (.d (bkD K))) d e) ⟨D3, []⟩ from key
  refine w_if (w_bnot (w_test (w_call (w_ac ⟨_, rfl, w_ac (w_call (w_ac ⟨.mr 1, rfl, w_ac ⟨.int (K.length : Int), rfl, w_ac ?_⟩⟩))⟩))))
  have fin : ∀ most : Int, 1 ≤ most → most ≤ 7 → d__law_few [.mr 1, .int (K.length : Int), .int most] D3 fun t D' =>
      aCons (mOp (oEq false) (mVar 2) (mC (.int 1))) aNil (Ev ns (some (.int (i : Int))) (some (.int (K.length : Int))) (some (.d (bkD K))) d e) ⟨D', []⟩ fun xs M2 =>
        fDef d__law_is_right (.d (bkD K) :: t :: xs) M2 fun x M1 => ∃ k, x = .d (.bool k) ∧ if (!k) = true then b_law_0 E (Ev ns (some (.int (i : Int))) (some (.int (K.length : Int))) (some (.d (bkD K))) d e) M1 else mNext E (Ev ns (some (.int (i : Int))) (some (.int (K.length : Int))) (some (.d (bkD K))) d e) M1 := by
    intro most h1 h2
    refine sp_few hD3 g (by omega) (by omega) fun N D4 gn n1 n2 hD4 => ?_
    have gf : GF K N := gf_few gn (by omega)
    refine w_ac (w_op ⟨.int (i : Int), rfl, w_c (w_eqFI (w_an ⟨by simp, sp_is_right g gf ⟨_, rfl, ?_⟩⟩))⟩)
    exact ifF (by simp) (w_next (q D4 _ _ hD4))
  rw [x_ite]
  refine w_test (w_op ⟨.int (K.length : Int), rfl, w_c (w_lt ⟨_, rfl, ?_⟩)⟩)
  by_cases z : decide ((K.length : Int) < 4) = true
  · exact ifT z (w_c (w_an ⟨by simp, fin 7 (by omega) (by omega)⟩))
  · exact ifF z (w_c (w_an ⟨by simp, fin 5 (by omega) (by omega)⟩))
theorem law_true (ns : List Int) (h : ns.length ≤ 63) : d_law [.scr ns] [] fun t _ => t = T.bl true := by
  refine ⟨rfl, w_seq (w_set (w_call (w_ac ⟨.scr ns, rfl, w_an ⟨by simp, sp_pool h fun D hD => ?_⟩⟩)))⟩
  suffices key : b_law_9 { nx := fun _ M => T.non = T.bl true, rt := fun t M => noL t = true ∧ t = T.bl true } (Ev ns none none none none none) ⟨D, []⟩ from key
  refine w_seq (w_for ?_)
  rw [x_irange]
  refine w_ac (w_c (w_an ⟨by decide, ?_⟩))
  refine for_all (fun i τ M => ∃ D' a b c, M = ⟨D', []⟩ ∧ Pl.RI D' ∧ τ = Ev ns a b c none none) ⟨D, _, _, _, rfl, hD, rfl⟩ ?_ ?_
  · rintro i τ M t R ht ⟨D', a, b, c, rfl, hD', rfl⟩ k
    obtain ⟨hi, rfl⟩ := range_at ht
    rw [x_gn]
    suffices key : ∀ E : Es, (∀ D' b c, Pl.RI D' → E.nx (Ev ns (some (.int (i : Int))) b c none none) ⟨D', []⟩) → b_law_3 E (Ev ns (some (.int (i : Int))) b c none none) ⟨D', []⟩ from key _ fun D' b c hD' => k _ _ ⟨D', _, _, _, rfl, hD', rfl⟩
    intro E q
    exact law_3 hD' q
  · rintro τ M ⟨D', a, b, c, rfl, hD', rfl⟩
    · suffices key : b_law_8 { nx := fun _ M => T.non = T.bl true, rt := fun t M => noL t = true ∧ t = T.bl true } (Ev ns a b c none none) ⟨D', []⟩ from key
      refine w_seq (w_set ?_)
      suffices key : mLst (ms [[99, 1], [84, 2], [49, 4], [15, 15], [63, 3], [100], [1, 1, 31], [3, 3, 3, 3], [5, 5, 6]] (aCons (mOp oRepT (mTup (aCons (mC (.int 1)) aNil)) (mC (.int ((6 : Nat) : Int)))) aNil)) (Ev ns a b c none none) ⟨D', []⟩ fun t M => b_law_7 { nx := fun _ M => T.non = T.bl true, rt := fun t M => noL t = true ∧ t = T.bl true } (Ev ns a b c (some t) none) M from key
      refine w_menu1 (by decide) (by decide) (by decide) (by decide) ?_
      refine w_seq (w_set (w_op ⟨_, rfl, ?_⟩))
      refine (?_ : mLst (ms [[7, 7, 3]] aNil) _ _ _)
      refine w_menu (by decide) (by decide) (w_catL (sz64' (by decide)) ?_)
      rw [← List.map_append]
      suffices key : b_law_6 { nx := fun _ M => T.non = T.bl true, rt := fun t M => noL t = true ∧ t = T.bl true } (Ev ns a b c (some (.d (.list (menu.map recD)))) none) ⟨D', []⟩ from key
      refine w_seq (w_set (w_call (w_ac ⟨.mr 1, rfl, w_ac ⟨_, rfl, w_an ⟨by simp, sp_pick hD' (by decide) (by decide) fun x D1 hx hD1 => ?_⟩⟩⟩)))
      obtain ⟨N, hN, rfl⟩ := List.mem_map.mp hx
      obtain ⟨l1, l6, r2, r3, r4, r5⟩ := menu_ok N hN
      suffices key : b_law_5 { nx := fun _ M => T.non = T.bl true, rt := fun t M => noL t = true ∧ t = T.bl true } (Ev ns a b c (some (.d (.list (menu.map recD)))) (some (.d (recD N)))) ⟨D1, []⟩ from key
      refine w_seq (w_set (w_call (w_ac ⟨.mr 1, rfl, w_ac (w_call (w_ac ⟨.d (recD N), rfl, w_an ?_⟩))⟩)))
      show fLen [.d (.tuple (N.map .int))] _ _
      rw [x_lent, List.length_map]
      refine w_ac (w_call (w_ac ⟨.mr 1, rfl, w_an ⟨by simp, sp_steps hD1 fun S D3 s1 s2 s3 hD3 => ?_⟩⟩))
      refine w_ac (w_op (w_call (w_ac ⟨.mr 1, rfl, w_ac (w_c (w_an ⟨by simp, sp_draw hD3 (by omega) (by omega) fun d' D4 d0 d1 hD4 => w_c (w_eqFI ?_)⟩))⟩)))
      refine w_an ⟨by simp, sp_book hD4 s1 s2 s3 (by omega) (by omega) fun K D5 g hK hD5 => ?_⟩
      have gf : GF K N := ⟨⟨by omega, r2, pos_ex (fun n hn => (r2 n hn).1) r3⟩, r4, r5⟩
      suffices key : b_law_4 { nx := fun _ M => T.non = T.bl true, rt := fun t M => noL t = true ∧ t = T.bl true } (Ev ns a b (some (.d (bkD K))) (some (.d (.list (menu.map recD)))) (some (.d (recD N)))) ⟨D5, []⟩ from key
      refine w_ret (w_call (w_ac ⟨_, rfl, w_ac ⟨_, rfl, w_ac (w_c (w_an ⟨by simp, sp_is_right g gf ?_⟩))⟩⟩))
      exact ⟨rfl, rfl⟩
end K36

set_option Elab.async false
set_option linter.all false
set_option maxRecDepth 100000
open PySem PySem.W PyProof.Rows
set_option maxHeartbeats 0 in
theorem PySem.Challenge.cw_fallingfields_k36_whole_least_rows_judge_holds : PySem.Challenge.rw_fallingfields_k36_whole_least_rows_judge.Holds := by
  w_on; o_law; k_head; (case hw => w_witness2)
  k_fill
  refine L3.walkG (l := PySem.Challenge.rw_fallingfields_k36_whole_least_rows_judge) (n := 63) (k := 7) (x := "script") (m := K36.d_law) rfl (by decide) rfl ⟨rfl, by decide, by decide⟩ (fun w h Y => PySem.W.kIn_of Y) ?F K36.law_true
  case F =>
    intro w mg fa h KX G hmg
    refine' K36.all_mk KX G hmg ?a0 ?l0 ?c0 ?k0 ?a1 ?l1 ?c1 ?k1 ?a2 ?l2 ?c2 ?k2 ?a3 ?l3 ?c3 ?k3 ?a4 ?l4 ?c4 ?k4 ?a5 ?l5 ?c5 ?k5 ?a6 ?l6 ?c6 ?k6 ?a7 ?l7 ?c7 ?k7 ?a8 ?l8 ?c8 ?k8 ?a9 ?l9 ?c9 ?k9 ?a10 ?l10 ?c10 ?k10 ?a11 ?l11 ?c11 ?k11 ?a12 ?l12 ?c12 ?k12 ?a13 ?l13 ?c13 ?k13 ?a14 ?l14 ?c14 ?k14 ?a15 ?l15 ?c15 ?k15 ?a16 ?l16 ?c16 ?k16 ?a17 ?l17 ?c17 ?k17 ?a18 ?l18 ?c18 ?k18 ?a19 ?l19 ?c19 ?k19 ?a20 ?l20 ?c20 ?k20 ?a21 ?l21 ?c21 ?k21 ?a22 ?l22 ?c22 ?k22 ?a23 ?l23 ?c23 ?k23 ?a24 ?l24 ?c24 ?k24 ?z_enumerate ?z_tuple ?z_sum ?z_min ?z_range ?z_abs ?z_int ?z_len ?z_max ?z_repr ?z_isinstance ?z_bool ?g_MAX_ROW ?g_MAX_STATES
    (case a0 => k_is); (case l0 => k_is); (case c0 => k_is); (case k0 => k_is); (case a1 => k_is); (case l1 => k_is); (case c1 => k_is); (case k1 => k_is); (case a2 => k_is); (case l2 => k_is); (case c2 => k_is); (case k2 => k_is); (case a3 => k_is); (case l3 => k_is); (case c3 => k_is); (case k3 => k_is); (case a4 => k_is); (case l4 => k_is); (case c4 => k_is); (case k4 => k_is); (case a5 => k_is); (case l5 => k_is); (case c5 => k_is); (case k5 => k_is); (case a6 => k_is); (case l6 => k_is); (case c6 => k_is); (case k6 => k_is); (case a7 => k_is); (case l7 => k_is); (case c7 => k_is); (case k7 => k_is); (case a8 => k_is); (case l8 => k_is); (case c8 => k_is); (case k8 => k_is); (case a9 => k_is); (case l9 => k_is); (case c9 => k_is); (case k9 => k_is); (case a10 => k_is); (case l10 => k_is); (case c10 => k_is); (case k10 => k_is); (case a11 => k_is); (case l11 => k_is); (case c11 => k_is); (case k11 => k_is); (case a12 => k_is); (case l12 => k_is); (case c12 => k_is); (case k12 => k_is); (case a13 => k_is); (case l13 => k_is); (case c13 => k_is); (case k13 => k_is); (case a14 => k_is); (case l14 => k_is); (case c14 => k_is); (case k14 => k_is); (case a15 => k_is); (case l15 => k_is); (case c15 => k_is); (case k15 => k_is); (case a16 => k_is); (case l16 => k_is); (case c16 => k_is); (case k16 => k_is); (case a17 => k_is); (case l17 => k_is); (case c17 => k_is); (case k17 => k_is); (case a18 => k_is); (case l18 => k_is); (case c18 => k_is); (case k18 => k_is); (case a19 => k_is); (case l19 => k_is); (case c19 => k_is); (case k19 => k_is); (case a20 => k_is); (case l20 => k_is); (case c20 => k_is); (case k20 => k_is); (case a21 => k_is); (case l21 => k_is); (case c21 => k_is); (case k21 => k_is); (case a22 => k_is); (case l22 => k_is); (case c22 => k_is); (case k22 => k_is); (case a23 => k_is); (case l23 => k_is); (case c23 => k_is); (case k23 => k_is); (case a24 => k_is); (case l24 => k_is); (case c24 => k_is); (case k24 => k_is); (case z_enumerate => k_is); (case z_tuple => k_is); (case z_sum => k_is); (case z_min => k_is); (case z_range => k_is); (case z_abs => k_is); (case z_int => k_is); (case z_len => k_is); (case z_max => k_is); (case z_repr => k_is); (case z_isinstance => k_is); (case z_bool => k_is); (case g_MAX_ROW => k_is); (case g_MAX_STATES => k_is)

