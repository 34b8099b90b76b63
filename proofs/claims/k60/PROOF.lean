import PyProof.Rows.All
import Wide.All
import OpenK.AllK
import Wide.FinOn
import PySem.Challenge.RW_crestjoin_k60_errors_of_tables_made_of_b
import HandS.ForMost
import HandS.ForExc
import KE.KDictCopyH
import HandS.Zip
import HandS.RevRange
import HandS.Rev
import HandS.ExcInit
import HandS.ExcField
import HandS.TryMany
import HandS.Wide
import HandS.WideBits
import HandS.TupAny
import HandS.TupMul
import HandS.IsInst
import HandS.Gcd
import HandS.Strs
import HandS.SetFor
import HandS.SortInts
import HandS.Style
import HandS.TupSets
import PyProof.Rows.SetFrom
import HandS.NamedTupSort
import HandS.Lambda
import HandS.CallLocal
import PyProof.ReprRoads
import PyProof.Rows.NestShow
import HandS.EndTab
import HandS.Ends
import HandS.Defaults
import Open.SpecLaws
import HandS.DictComp
import KE.KDictDisplayH
import KE.KDictWalk
import KE.KDictSum
import KE.KDictPairs
import HandS.Property
import HandS.Codes
import HandS.Conv
import HandS.SortKw
import PyProof.SeqI3
import KE.GoesMore
import KE.GoesEnum
import KE.KDictZip
import PyProof.SumWalkG
set_option Elab.async false
set_option linter.all false
set_option maxRecDepth 100000
/-! EvA0: dicts some of whose keys are bools (or None): which of 0 and 1 are bools is told. -/
namespace EV
open PySem L2
def isBlV : Value → Bool
  | .bool _ => true
  | _ => false
def okB (b0 b1 : Bool) : Leaf → Value → Bool
  | .num i, v => isBlV v == ((decide (i = 0) && b0) || (decide (i = 1) && b1))
  | _, _ => true
def bKind (P : Program) (w : World) (b0 b1 : Bool) : KeyKind P w Leaf where
  is := fun k v => (leafKind P w).is k v && okB b0 b1 k v
  hash := (leafKind P w).hash
  inj := fun v a b ha hb => (leafKind P w).inj v a b (Bool.and_eq_true _ _ ▸ ha).1 (Bool.and_eq_true _ _ ▸ hb).1
  byValue := fun k v h => (leafKind P w).byValue k v (Bool.and_eq_true _ _ ▸ h).1
  pyHash := fun hv h => (leafKind P w).pyHash (Bool.and_eq_true _ _ ▸ hv).1 h
  eqBool := fun hu hv h => (leafKind P w).eqBool (Bool.and_eq_true _ _ ▸ hu).1 (Bool.and_eq_true _ _ ▸ hv).1 h
  «strs» := fun k x t v h => by
    have h1 := (Bool.and_eq_true _ _ ▸ h).1
    have e := (leafKind P w).strs k x t v h1
    rw [e]
    cases k with
    | none => exact absurd h1 Bool.false_ne_true
    | num i => exact absurd h1 Bool.false_ne_true
    | text y => show (v.isStr x && true) = _; rw [Bool.and_true]
/-- the key as it was written -/
def kB (b0 b1 : Bool) : Leaf → V
  | .none => .non
  | .num i => if i = 0 ∧ b0 = true then .bl false else if i = 1 ∧ b1 = true then .bl true else .int i
  | .text x => .str x
theorem kB_rel {P : Program} {w : World} {b0 b1 : Bool} {k : Leaf} {v : Value} (h : (bKind P w b0 b1).is k v = true) : RelV (kB b0 b1 k) v := by
  obtain ⟨h1, h2⟩ := (Bool.and_eq_true _ _).mp h
  cases k with
  | none => cases v <;> first | rfl | exact absurd h1 Bool.false_ne_true
  | text x =>
    obtain ⟨t, e⟩ := Value.isStrOf_shape (show Value.isStrOf x v = true from h1)
    exact ⟨t, e⟩
  | num i =>
    have h2 : isBlV v = ((decide (i = 0) && b0) || (decide (i = 1) && b1)) := beq_iff_eq.mp h2
    cases v with
    | int j t =>
      have e : j = i := of_decide_eq_true h1
      subst e
      have h2 : false = ((decide (j = 0) && b0) || (decide (j = 1) && b1)) := h2
      have h3 := (Bool.or_eq_false_iff.mp h2.symm)
      show RelV (if j = 0 ∧ b0 = true then V.bl false else if j = 1 ∧ b1 = true then V.bl true else V.int j) (Value.int j t)
      rw [if_neg, if_neg]
      · exact ⟨t, rfl⟩
      · rintro ⟨e, e2⟩; rw [decide_eq_true e, e2] at h3; exact absurd h3.2 (by decide)
      · rintro ⟨e, e2⟩; rw [decide_eq_true e, e2] at h3; exact absurd h3.1 (by decide)
    | bool b =>
      have e : (if b = true then 1 else 0 : Int) = i := of_decide_eq_true h1
      subst e
      have h2 : true = _ := h2
      cases b with
      | false =>
        cases b0 with
        | true => rfl
        | false => cases b1 <;> exact absurd h2 (by decide)
      | true =>
        cases b1 with
        | true => rfl
        | false => cases b0 <;> exact absurd h2 (by decide)
    | _ => exact absurd h1 Bool.false_ne_true
def LV : List (Leaf × V) → List (Leaf × Value) → Prop := Paired fun p q => p.1 = q.1 ∧ RelV p.2 q.2
/-- the dict at a, as one thing -/
def dXo (P : Program) (w : World) (b0 b1 : Bool) (a : Addr) (vs : List (Leaf × V)) : HO := .ext fun h => vs.length ≤ sizeLine ∧ (a == sysModules) = false ∧ ∃ us, LV vs us ∧ h.DictOf (bKind P w b0 b1) a us
theorem dXo_ok {P : Program} {w : World} {b0 b1 : Bool} {a : Addr} {vs : List (Leaf × V)} {us : List (Leaf × Value)} {H : Hp} {h : Heap} (hz : vs.length ≤ sizeLine) (lo : (a == sysModules) = false) (r : LV vs us) (d : h.DictOf (bKind P w b0 b1) a us) : ObjOk P w H h a (dXo P w b0 b1 a vs) :=
  ⟨⟨hz, lo, us, r, d⟩, (let ⟨o, _, _, e, _⟩ := d; ⟨o, e⟩), fun h1 h2 ⟨z, l, us, r, o, es, ep, e, c⟩ k => ⟨z, l, us, r, o, es, ep, k o e, c⟩⟩
end EV

set_option Elab.async false
set_option linter.all false
set_option maxRecDepth 100000
/-! EvA: data as trees, results, and what a piece of the text is worth as a plain function of slots and cells. -/
namespace EV
open PySem L2

inductive Dt where
  | non | bl (b : Bool) | int (i : Int) | str (s : Str) | tup (ds : List Dt) | lst (ds : List Dt) | dct (ks : List Key) (ds : List Dt) | fn (i : Nat) | fro (ds : List Dt) | dtt (ks : List (List Key)) (ds : List Dt) | obj (c m : Nat) (ds : List Dt) | tux (ds : List Dt) | dcx (b0 b1 : Bool) (ks : List Leaf) (ds : List Dt)
  deriving Inhabited
/-- a value: data that stay, or the cell n of the store -/
inductive Vl where
  | p (d : Dt) | loc (n : Nat)
  deriving Inhabited
abbrev Sto := List Dt
/-- what a cell may hold -/
def Cel : HO → Prop
  | .lst _ => True
  | .dK _ => True
  | .dT _ => True
  | .ins _ _ _ => True
  | _ => False
inductive Rz (α : Type) where
  | ok (a : α) (S : Sto) | exc (c : Nat) (p : Dt) (S : Sto) | bad
abbrev Slo := List (Option Vl)
abbrev Mx := Slo → Sto → Rz Vl
abbrev Mb := Slo → Sto → Rz Bool
abbrev Ma := Slo → Sto → Rz (List Vl)
abbrev Mi := Slo → Sto → Rz (List Dt)
def Rz.bind {α β : Type} (r : Rz α) (f : α → Sto → Rz β) : Rz β := match r with
  | .ok a S => f a S
  | .exc c p S => .exc c p S
  | .bad => .bad

/-- what is fixed: the written part, where the defs and classes stand, the field of an exception class -/
structure Stat where
  P : Program
  w : World
  K : PySem.W.Frag
  mg : Str → Option Value
  base : Heap
  fa : Nat → Addr
  ca : Nat → Addr
  cf : Nat → Option Str
  /-- the fields of an own class, as its __init__ lays them -/
  fl : Nat → List Str
  /-- what is told of the tables, and it hangs on no list -/
  tbs : Hp → Prop
  tbm : ∀ H H' : Hp, (∀ a o, H a = some o → ¬ Cel o → H' a = some o) → (∀ a ps, H' a = some (.tbl ps) → H a = some (.tbl ps)) → tbs H → tbs H'
/-- the cells' addresses; other addresses that change -/
structure Wd where
  rho : List Addr
  xi : List Addr

/-- nothing is told of a, but that it may be a table -/
def Nn (H : Hp) (a : Addr) : Prop := ∀ o, H a = some o → ∃ ps, o = HO.tbl ps
theorem Nn.of {H : Hp} {a : Addr} (h : H a = none) : Nn H a := fun o e => by rw [h] at e; cases e
theorem Nn.ne {H : Hp} {a b : Addr} {o : HO} (h : Nn H a) (e : H b = some o) (nt : ∀ ps, o ≠ .tbl ps) : b ≠ a := fun z => by
  subst z
  obtain ⟨ps, e2⟩ := h o e
  exact nt ps e2
theorem Nn.back {H H1 : Hp} {a : Addr} (h : Nn H1 a) (k : ∀ o, H a = some o → (∀ ps, o ≠ .tbl ps) → H1 a = some o) : Nn H a := fun o e => by
  rcases Classical.em (∃ ps, o = HO.tbl ps) with t | t
  · exact t
  · exact h o (k o e fun ps z => t ⟨ps, z⟩)
structure Grow (w : Wd) (H : Hp) (w' : Wd) (H' : Hp) : Prop where
  pre : ∃ t, w'.rho = w.rho ++ t
  xi : ∀ a ∈ w.xi, a ∈ w'.xi
  newx : ∀ a ∈ w'.xi, a ∉ w.xi → Nn H a ∧ a ∉ w.rho
  new : ∀ a ∈ w'.rho, a ∉ w.rho → Nn H a
  keep' : ∀ a o, H a = some o → a ∉ w.rho → (∀ ps, o ≠ .tbl ps) → H' a = some o
  tups : ∀ a xs, H a = some (.tup xs) → H' a = some (.tup xs)
  frzs : ∀ a o u, H a = some (.frz o u) → H' a = some (.frz o u)
/-- .. but for what is put aside -/
structure GrowX (w : Wd) (H : Hp) (w' : Wd) (H' : Hp) : Prop where
  pre : ∃ t, w'.rho = w.rho ++ t
  xi : ∀ a ∈ w.xi, a ∈ w'.xi
  newx : ∀ a ∈ w'.xi, a ∉ w.xi → Nn H a ∧ a ∉ w.rho
  new : ∀ a ∈ w'.rho, a ∉ w.rho → a ∉ w.xi → Nn H a
  keep' : ∀ a o, H a = some o → a ∉ w.rho → a ∉ w.xi → (∀ ps, o ≠ .tbl ps) → H' a = some o
  tups : ∀ a xs, H a = some (.tup xs) → H' a = some (.tup xs)
  frzs : ∀ a o u, H a = some (.frz o u) → H' a = some (.frz o u)
theorem Grow.keep {w w' : Wd} {H H' : Hp} (g : Grow w H w' H') (a : Addr) (o : HO) (h : H a = some o) (n : a ∉ w.rho) (nt : ∀ ps, o ≠ .tbl ps := by intro ps e; cases e) : H' a = some o := g.keep' a o h n nt
theorem GrowX.keep {w w' : Wd} {H H' : Hp} (g : GrowX w H w' H') (a : Addr) (o : HO) (h : H a = some o) (n : a ∉ w.rho) (nx : a ∉ w.xi) (nt : ∀ ps, o ≠ .tbl ps := by intro ps e; cases e) : H' a = some o := g.keep' a o h n nx nt
theorem Grow.x {w w' : Wd} {H H' : Hp} (g : Grow w H w' H') : GrowX w H w' H' := ⟨g.pre, g.xi, g.newx, fun a m n _ => g.new a m n, fun a o h n _ nt => g.keep' a o h n nt, g.tups, g.frzs⟩
theorem GrowX.trans {w w1 w2 : Wd} {H H1 H2 : Hp} (g : GrowX w H w1 H1) (g2 : Grow w1 H1 w2 H2) : GrowX w H w2 H2 := by
  obtain ⟨t, e⟩ := g.pre
  obtain ⟨t2, e2⟩ := g2.pre
  have up : ∀ a, a ∉ w1.rho → a ∉ w.rho := fun a h z => h (by rw [e]; exact List.mem_append_left _ z)
  refine ⟨⟨t ++ t2, by rw [e2, e, List.append_assoc]⟩, fun a m => g2.xi a (g.xi a m), fun a m n => ?_, fun a m n nx => ?_, fun a o h n nx => ?_, fun a xs h => g2.tups a xs (g.tups a xs h), fun a o u h => g2.frzs a o u (g.frzs a o u h)⟩
  · by_cases q : a ∈ w1.xi
    · exact g.newx a q n
    · obtain ⟨h1, h2⟩ := g2.newx a m q
      refine ⟨?_, up a h2⟩
      exact h1.back fun o e nt => g.keep' a o e (up a h2) n nt
  · by_cases q : a ∈ w1.rho
    · exact g.new a q n nx
    · have h1 := g2.new a m q
      exact h1.back fun o e nt => g.keep' a o e n nx nt
  · exact fun nt => g2.keep' a o (g.keep' a o h n nx nt) (fun q => (g.new a q n nx).ne h nt rfl) nt
/-- what is to stay true of the world -/
structure An where
  p : Wd → Hp → Prop
  m : ∀ w H w' H', Grow w H w' H' → p w H → p w' H'
section
variable (G : Stat)
mutual
inductive Per (w : Wd) (H : Hp) : Dt → V → Prop
  | non : Per w H .non .non
  | bl (b : Bool) : Per w H (.bl b) (.bl b)
  | int (i : Int) : Per w H (.int i) (.int i)
  | str (s : Str) : Per w H (.str s) (.str s)
  | tup {a : Addr} {xs : List V} {ds : List Dt} (h : H a = some (.tup xs)) (k : PerL w H ds xs) : Per w H (.tup ds) (.ref a)
  | lst {a : Addr} {xs : List V} {ds : List Dt} (h : H a = some (.lst xs)) (n1 : a ∉ w.rho) (n2 : a ∉ w.xi) (k : PerL w H ds xs) : Per w H (.lst ds) (.ref a)
  | frz {a : Addr} {o : Obj} {xs : List V} {ds : List Dt} (h : H a = some (.frz o (.lst xs))) (k : PerL w H ds xs) : Per w H (.fro ds) (.ref a)
  | wri {a : Addr} {xs : List V} {ds : List Dt} (h : ∀ H', SqL G.K H' a xs) (k : PerL w H ds xs) : Per w H (.fro ds) (.ref a)
  | dct {a : Addr} {o : Obj} {kvs : List (Key × V)} {ks : List Key} {ds : List Dt} (h : H a = some (.frz o (.dK kvs))) (e : kvs.map (·.1) = ks) (k : PerL w H ds (kvs.map (·.2))) : Per w H (.dct ks ds) (.ref a)
  | fn (i : Nat) : Per w H (.fn i) (.ref (G.fa i))
  | dtt {a : Addr} {o : Obj} {kvs : List (List Key × V)} {ks : List (List Key)} {ds : List Dt} (h : H a = some (.frz o (.dT kvs))) (e : kvs.map (·.1) = ks) (k : PerL w H ds (kvs.map (·.2))) : Per w H (.dtt ks ds) (.ref a)
  | obj {a dx : Addr} {c : Nat} {vs : List V} {ds : List Dt} (h : H a = some (.ins (G.ca c) dx ((G.fl c).zip vs))) (n1 : a ∉ w.rho) (n2 : a ∉ w.xi) (e : ds.length = (G.fl c).length) (k : PerL w H ds vs) : Per w H (.obj c 0 ds) (.ref a)
  | dcx {a : Addr} {o : Obj} {b0 b1 : Bool} {kvs : List (Leaf × V)} {ks : List Leaf} {ds : List Dt} (h : H a = some (.frz o (dXo G.P G.w b0 b1 a kvs))) (e : kvs.map (·.1) = ks) (k : PerL w H ds (kvs.map (·.2))) : Per w H (.dcx b0 b1 ks ds) (.ref a)
  | tux {a : Addr} {o : Obj} {xs : List V} {ds : List Dt} (h : H a = some (.frz o (.tup xs))) (hd : o.dict = none) (k : PerL w H ds xs) : Per w H (.tux ds) (.ref a)
inductive PerL (w : Wd) (H : Hp) : List Dt → List V → Prop
  | nil : PerL w H [] []
  | cons {d : Dt} {v : V} {ds : List Dt} {vs : List V} (h : Per w H d v) (k : PerL w H ds vs) : PerL w H (d :: ds) (v :: vs)
end

inductive Rv (w : Wd) (H : Hp) : Vl → V → Prop
  | p {d : Dt} {v : V} (h : Per G w H d v) : Rv w H (.p d) v
  | loc {n : Nat} {a : Addr} (h : w.rho[n]? = some a) : Rv w H (.loc n) (.ref a)
inductive RvL (w : Wd) (H : Hp) : List Vl → List V → Prop
  | nil : RvL w H [] []
  | cons {x : Vl} {v : V} {xs : List Vl} {vs : List V} (h : Rv G w H x v) (k : RvL w H xs vs) : RvL w H (x :: xs) (v :: vs)
/-- what the cell at a holds -/
inductive CeR (w : Wd) (H : Hp) : Dt → Addr → Prop
  | lst {a : Addr} {xs : List V} {ds : List Dt} (h : H a = some (.lst xs)) (k : PerL G w H ds xs) : CeR w H (.lst ds) a
  | dct {a : Addr} {kvs : List (Key × V)} {ks : List Key} {ds : List Dt} (h : H a = some (.dK kvs)) (e : kvs.map (·.1) = ks) (k : PerL G w H ds (kvs.map (·.2))) : CeR w H (.dct ks ds) a
  | dtt {a : Addr} {kvs : List (List Key × V)} {ks : List (List Key)} {ds : List Dt} (h : H a = some (.dT kvs)) (e : kvs.map (·.1) = ks) (k : PerL G w H ds (kvs.map (·.2))) : CeR w H (.dtt ks ds) a
  | obj {a dx : Addr} {c m : Nat} {vs : List V} {ds : List Dt} (h : H a = some (.ins (G.ca c) dx ((G.fl c).zip vs))) (e : ds.length + m = (G.fl c).length) (k : PerL G w H ds vs) : CeR w H (.obj c m ds) a
structure StoR (an : An) (w : Wd) (S : Sto) (H : Hp) : Prop where
  len : S.length = w.rho.length
  nd : w.rho.Nodup
  at' : ∀ (n : Nat) (a : Addr), w.rho[n]? = some a → ∃ d : Dt, S[n]? = some d ∧ CeR G w H d a
  ax : ∀ a ∈ w.xi, a ∉ w.rho ∧ ∃ o, H a = some o ∧ Cel o
  anc : an.p w H
  tb : G.tbs H
structure EnvR (w : Wd) (H : Hp) (env : Slo) (σ : L2.St) : Prop where
  len : env.length = σ.length
  at' : ∀ (i : Nat) (x : Vl), env[i]? = some (some x) → ∃ v : V, σ[i]? = some (some v) ∧ Rv G w H x v
structure ExR (w : Wd) (H : Hp) (c : Nat) (p : Dt) (cls : Value) (dd : Option Addr) : Prop where
  cls : cls = .ref (G.ca c)
  pay : match G.cf c with
    | none => dd = none ∧ p = .non
    | some f => ∃ d v, dd = some d ∧ H d = some (.xd [(f, v)]) ∧ Per G w H p v

/-- what must hold behind a result -/
def Pst (an : An) {α : Type} (w : Wd) (H : Hp) (r : Rz α) (k : α → Sto → Wd → Hp → Prop) (E : XK) : Prop := match r with
  | .ok a S' => ∀ w' H', Grow w H w' H' → StoR G an w' S' H' → k a S' w' H'
  | .exc c p S' => ∀ w' H' cls dd, Grow w H w' H' → StoR G an w' S' H' → ExR G w' H' c p cls dd → E cls dd H'
  | .bad => False
end

section
variable {G : Stat} {an : An} {w w' w1 w2 : Wd} {H H' H1 H2 : Hp} {S S' : Sto}
theorem Grow.refl : Grow w H w H := ⟨⟨[], by simp⟩, fun _ h => h, fun a h n => absurd h n, fun a h n => absurd h n, fun _ _ h _ _ => h, fun _ _ h => h, fun _ _ _ h => h⟩
theorem Grow.trans (g : Grow w H w1 H1) (g2 : Grow w1 H1 w2 H2) : Grow w H w2 H2 := by
  obtain ⟨t, e⟩ := g.pre
  obtain ⟨t2, e2⟩ := g2.pre
  have sub : ∀ a, a ∉ w.rho → a ∈ w1.rho → Nn H a := fun a n m => g.new a m n
  refine ⟨⟨t ++ t2, by rw [e2, e, List.append_assoc]⟩, fun a m => g2.xi a (g.xi a m), fun a m n => ?_, fun a m n => ?_, fun a o h n => ?_, fun a xs h => g2.tups a xs (g.tups a xs h), fun a o u h => g2.frzs a o u (g.frzs a o u h)⟩
  · by_cases q : a ∈ w1.xi
    · exact g.newx a q n
    · obtain ⟨h1, h2⟩ := g2.newx a m q
      have h3 : a ∉ w.rho := fun z => h2 (by rw [e]; exact List.mem_append_left _ z)
      refine ⟨?_, h3⟩
      exact h1.back fun o e nt => g.keep' a o e h3 nt
  · by_cases q : a ∈ w1.rho
    · exact sub a n q
    · have h1 := g2.new a m q
      exact h1.back fun o e nt => g.keep' a o e n nt
  · exact fun nt => g2.keep' a o (g.keep' a o h n nt) (fun q => (sub a n q).ne h nt rfl) nt
theorem tb_upd (t : G.tbs H) {a : Addr} {o : HO} (h : H a = none) (no : ∀ ps, o ≠ .tbl ps) : G.tbs (upd H a o) :=
  G.tbm _ _ (fun b o e _ => by rw [upd_ne (ne_of_none e h)]; exact e) (fun b ps e => by
    by_cases z : b = a
    · subst z; rw [upd_same] at e; exact absurd (Option.some.inj e) (no ps)
    · rw [upd_ne z] at e; exact e) t
theorem tb_put (t : G.tbs H) {a : Addr} {u o : HO} (h : H a = some u) (cu : Cel u) (no : ∀ ps, o ≠ .tbl ps) : G.tbs (upd H a o) :=
  G.tbm _ _ (fun b o e n => by rw [upd_ne (fun z => by rw [z, h] at e; cases e; exact n cu)]; exact e) (fun b ps e => by
    by_cases z : b = a
    · subst z; rw [upd_same] at e; exact absurd (Option.some.inj e) (no ps)
    · rw [upd_ne z] at e; exact e) t
theorem Cel.ntbl {o : HO} (c : Cel o) : ∀ ps, o ≠ .tbl ps := fun ps e => by subst e; exact c
theorem CeR.ho {d : Dt} {a : Addr} (c : CeR G w H d a) : ∃ o, H a = some o ∧ Cel o := by
  cases c with
  | lst h k => exact ⟨_, h, trivial⟩
  | dct h e k => exact ⟨_, h, trivial⟩
  | dtt h e k => exact ⟨_, h, trivial⟩
  | obj h e k => exact ⟨_, h, trivial⟩
theorem Grow.out (g : Grow w H w' H') {a : Addr} {o : HO} (h : H a = some o) (n : a ∉ w.rho) (nt : ∀ ps, o ≠ .tbl ps := by intro ps e; cases e) : a ∉ w'.rho := fun q => (g.new a q n).ne h nt rfl
theorem Grow.outx (g : Grow w H w' H') {a : Addr} {o : HO} (h : H a = some o) (n : a ∉ w.xi) (nt : ∀ ps, o ≠ .tbl ps := by intro ps e; cases e) : a ∉ w'.xi := fun q => (g.newx a q n).1.ne h nt rfl
theorem GrowX.out (g : GrowX w H w' H') {a : Addr} {o : HO} (h : H a = some o) (n : a ∉ w.rho) (n2 : a ∉ w.xi) (nt : ∀ ps, o ≠ .tbl ps := by intro ps e; cases e) : a ∉ w'.rho := fun q => (g.new a q n n2).ne h nt rfl
theorem GrowX.outx (g : GrowX w H w' H') {a : Addr} {o : HO} (h : H a = some o) (n : a ∉ w.xi) (nt : ∀ ps, o ≠ .tbl ps := by intro ps e; cases e) : a ∉ w'.xi := fun q => (g.newx a q n).1.ne h nt rfl
theorem GrowX.sqT {a : Addr} {xs : List V} (g : GrowX w H w' H') (h : SqT G.K H a xs) : SqT G.K H' a xs := by
  rcases h with (h | ⟨o, h⟩) | h
  · exact .inl (.inl (g.tups _ _ h))
  · exact .inl (.inr ⟨o, g.frzs _ _ _ h⟩)
  · exact .inr h
theorem Grow.sqT {a : Addr} {xs : List V} (g : Grow w H w' H') (h : SqT G.K H a xs) : SqT G.K H' a xs := g.x.sqT h
mutual
theorem Per.monoX (g : GrowX w H w' H') : ∀ {d : Dt} {v : V}, Per G w H d v → Per G w' H' d v
  | _, _, .non => .non
  | _, _, .bl b => .bl b
  | _, _, .int i => .int i
  | _, _, .str s => .str s
  | _, _, .tup h k => .tup (g.tups _ _ h) (PerL.monoX g k)
  | _, _, .lst h n1 n2 k => .lst (g.keep _ _ h n1 n2) (g.out h n1 n2) (g.outx h n2) (PerL.monoX g k)
  | _, _, .frz h k => .frz (g.frzs _ _ _ h) (PerL.monoX g k)
  | _, _, .wri h k => .wri h (PerL.monoX g k)
  | _, _, .tux h hd k => .tux (g.frzs _ _ _ h) hd (PerL.monoX g k)
  | _, _, .dcx h e k => .dcx (g.frzs _ _ _ h) e (PerL.monoX g k)
  | _, _, .dct h e k => .dct (g.frzs _ _ _ h) e (PerL.monoX g k)
  | _, _, .fn i => .fn i
  | _, _, .dtt h e k => .dtt (g.frzs _ _ _ h) e (PerL.monoX g k)
  | _, _, .obj h n1 n2 e k => .obj (g.keep _ _ h n1 n2) (g.out h n1 n2) (g.outx h n2) e (PerL.monoX g k)
theorem PerL.monoX (g : GrowX w H w' H') : ∀ {ds : List Dt} {vs : List V}, PerL G w H ds vs → PerL G w' H' ds vs
  | _, _, .nil => .nil
  | _, _, .cons h k => .cons (Per.monoX g h) (PerL.monoX g k)
end
theorem Per.mono (g : Grow w H w' H') {d : Dt} {v : V} (p : Per G w H d v) : Per G w' H' d v := p.monoX g.x
theorem PerL.mono (g : Grow w H w' H') {ds : List Dt} {vs : List V} (p : PerL G w H ds vs) : PerL G w' H' ds vs := p.monoX g.x
theorem Rv.mono (g : Grow w H w' H') {x : Vl} {v : V} (r : Rv G w H x v) : Rv G w' H' x v := by
  cases r with
  | p h => exact .p (h.mono g)
  | loc h =>
    obtain ⟨t, e⟩ := g.pre
    refine .loc ?_
    rw [e, List.getElem?_append_left (List.getElem?_eq_some_iff.mp h).1]
    exact h
theorem Rv.monoX (g : GrowX w H w' H') {x : Vl} {v : V} (r : Rv G w H x v) : Rv G w' H' x v := by
  cases r with
  | p h => exact .p (h.monoX g)
  | loc h =>
    obtain ⟨t, e⟩ := g.pre
    refine .loc ?_
    rw [e, List.getElem?_append_left (List.getElem?_eq_some_iff.mp h).1]
    exact h
theorem RvL.mono (g : Grow w H w' H') : ∀ {xs : List Vl} {vs : List V}, RvL G w H xs vs → RvL G w' H' xs vs
  | _, _, .nil => .nil
  | _, _, .cons h k => .cons (h.mono g) (RvL.mono g k)
/-- a cell that the other's object kept -/
theorem CeR.monoX (g : GrowX w H w' H') {d : Dt} {a : Addr} (e : H' a = H a) (c : CeR G w H d a) : CeR G w' H' d a := by
  cases c with
  | lst h k => exact .lst (e.trans h) (k.monoX g)
  | dct h e1 k => exact .dct (e.trans h) e1 (k.monoX g)
  | dtt h e1 k => exact .dtt (e.trans h) e1 (k.monoX g)
  | obj h e1 k => exact .obj (e.trans h) e1 (k.monoX g)
theorem CeR.mono (g : Grow w H w' H') {d : Dt} {a : Addr} (e : H' a = H a) (c : CeR G w H d a) : CeR G w' H' d a := c.monoX g.x e
theorem EnvR.mono (g : Grow w H w' H') {env : Slo} {σ : L2.St} (r : EnvR G w H env σ) : EnvR G w' H' env σ :=
  ⟨r.len, fun i x e => let ⟨v, h1, h2⟩ := r.at' i x e; ⟨v, h1, h2.mono g⟩⟩
theorem EnvR.monoX (g : GrowX w H w' H') {env : Slo} {σ : L2.St} (r : EnvR G w H env σ) : EnvR G w' H' env σ :=
  ⟨r.len, fun i x e => let ⟨v, h1, h2⟩ := r.at' i x e; ⟨v, h1, h2.monoX g⟩⟩
theorem PerL.length : ∀ {ds : List Dt} {vs : List V}, PerL G w H ds vs → ds.length = vs.length
  | _, _, .nil => rfl
  | _, _, .cons _ k => congrArg (· + 1) (PerL.length k)
theorem RvL.length : ∀ {xs : List Vl} {vs : List V}, RvL G w H xs vs → xs.length = vs.length
  | _, _, .nil => rfl
  | _, _, .cons _ k => congrArg (· + 1) (RvL.length k)
theorem PerL.get : ∀ {ds : List Dt} {vs : List V} {i : Nat} {d : Dt}, PerL G w H ds vs → ds[i]? = some d → ∃ v, vs[i]? = some v ∧ Per G w H d v
  | _, _, _, _, .nil, e => by simp at e
  | _, _, 0, _, .cons h _, e => by simp at e; subst e; exact ⟨_, rfl, h⟩
  | _, _, i + 1, _, .cons _ k, e => by
    obtain ⟨v, h1, h2⟩ := PerL.get (i := i) k (by simpa using e)
    exact ⟨v, by simpa using h1, h2⟩
theorem PerL.append : ∀ {ds es : List Dt} {vs us : List V}, PerL G w H ds vs → PerL G w H es us → PerL G w H (ds ++ es) (vs ++ us)
  | _, _, _, _, .nil, k => k
  | _, _, _, _, .cons h r, k => .cons h (PerL.append r k)
theorem PerL.drop : ∀ {ds : List Dt} {vs : List V} (n : Nat), PerL G w H ds vs → PerL G w H (ds.drop n) (vs.drop n)
  | _, _, 0, r => r
  | _, _, _ + 1, .nil => .nil
  | _, _, n + 1, .cons _ k => PerL.drop n k
theorem PerL.take : ∀ {ds : List Dt} {vs : List V} (n : Nat), PerL G w H ds vs → PerL G w H (ds.take n) (vs.take n)
  | _, _, 0, _ => .nil
  | _, _, _ + 1, .nil => .nil
  | _, _, n + 1, .cons h k => .cons h (PerL.take n k)
theorem PerL.set : ∀ {ds : List Dt} {vs : List V} {d : Dt} {v : V} (n : Nat), PerL G w H ds vs → Per G w H d v → PerL G w H (ds.set n d) (vs.set n v)
  | _, _, _, _, _, .nil, _ => .nil
  | _, _, _, _, 0, .cons _ k, h => .cons h k
  | _, _, _, _, n + 1, .cons h k, h' => .cons h (PerL.set n k h')
theorem EnvR.set {env : Slo} {σ : L2.St} {x : Vl} {v : V} (i : Nat) (r : EnvR G w H env σ) (h : Rv G w H x v) : EnvR G w H (env.set i (some x)) (σ.set i (some v)) := by
  refine ⟨by simpa using r.len, fun j y e => ?_⟩
  by_cases q : i = j
  · subst q
    by_cases hl : i < env.length
    · rw [List.getElem?_set_self hl] at e
      cases e
      exact ⟨v, by rw [List.getElem?_set_self (by rw [← r.len]; exact hl)], h⟩
    · rw [List.getElem?_eq_none (by simpa using hl)] at e; cases e
  · rw [List.getElem?_set_ne q] at e
    obtain ⟨u, h1, h2⟩ := r.at' j y e
    exact ⟨u, by rw [List.getElem?_set_ne q]; exact h1, h2⟩

variable {α β : Type} {r : Rz α} {k k' : α → Sto → Wd → Hp → Prop} {E E' : XK}
theorem Pst.imp (h : Pst G an w H r k E) (hk : ∀ a S' w' H', r = .ok a S' → Grow w H w' H' → StoR G an w' S' H' → k a S' w' H' → k' a S' w' H') (hE : ∀ c d H', E c d H' → E' c d H') : Pst G an w H r k' E' := by
  cases r with
  | ok a S' => exact fun w' H' g s => hk a S' w' H' rfl g s (h w' H' g s)
  | exc c p S' => exact fun w' H' cls dd g s x => hE _ _ _ (h w' H' cls dd g s x)
  | bad => exact h
theorem Pst.from (h : Pst G an w H r k E) (g : Grow w H w' H') : Pst G an w' H' r k E := by
  cases r with
  | ok a S' => exact fun w2 H2 g2 s => h w2 H2 (g.trans g2) s
  | exc c p S' => exact fun w2 H2 cls dd g2 s x => h w2 H2 cls dd (g.trans g2) s x
  | bad => exact h
theorem Pst.bind {f : α → Sto → Rz β} {k : β → Sto → Wd → Hp → Prop} (h : Pst G an w H (r.bind f) k E) : Pst G an w H r (fun a S' w' H' => Pst G an w' H' (f a S') k E) E := by
  cases r with
  | ok a S' => exact fun w' H' g s => Pst.from (show Pst G an w H (f a S') k E from h) g
  | exc c p S' => exact h
  | bad => exact h
end
end EV

set_option Elab.async false
set_option linter.all false
set_option maxRecDepth 100000
/-! EvB: the judgements over plain functions, and the rules of expressions, tests, operators. -/
namespace EV
open PySem L2

structure Gd (G : Stat) (X : Cx) (W : WX) (k : Nat) : Prop where
  P : X.prog = G.P
  w : X.w = G.w
  K : X.K = G.K
  mg : X.mg = G.mg
  base : X.base = G.base
  calm : X.calm = true
  nd : X.N.Nodup
  tk : Takes X W
  room : Room k X.A
  pass : PassesOwn (model X.prog X.w) X.A X.env X.xe

section
variable (G : Stat) (an : An) (W : WX)
def tM (m : Mx) : TE := fun σ H Q => ∃ env w S, EnvR G w H env σ ∧ StoR G an w S H ∧ Pst G an w H (m env S) (fun x _ w' H' => ∀ v, Rv G w' H' x v → Q v H') (fun c d H' => W c d σ H')
def tTe (m : Mb) : TT := fun σ H Q => ∃ env w S, EnvR G w H env σ ∧ StoR G an w S H ∧ Pst G an w H (m env S) (fun b _ _ H' => Q b H') (fun c d H' => W c d σ H')
def tAr (m : Ma) : TA := fun σ H Q => ∃ env w S, EnvR G w H env σ ∧ StoR G an w S H ∧ Pst G an w H (m env S) (fun xs _ w' H' => ∀ vs, RvL G w' H' xs vs → Q vs H') (fun c d H' => W c d σ H')
/-- a new list -/
def tFr (m : Mi) : TE := fun σ H Q => ∃ env w S, EnvR G w H env σ ∧ StoR G an w S H ∧ Pst G an w H (m env S) (fun ds _ w' H' => ∀ a xs, H' a = none → PerL G w' H' ds xs → Q (.ref a) (upd H' a (.lst xs))) (fun c d H' => W c d σ H')
def SE (X : Cx) (e : Expr) (m : Mx) : Prop := PE X e (tM G an W m)
def ST (X : Cx) (e : Expr) (m : Mb) : Prop := PT X e (tTe G an W m)
def SW (X : Cx) (e : Expr) (m : Mb) : Prop := PW X e (tTe G an W m)
def SA (X : Cx) (es : List Expr) (m : Ma) : Prop := PA X es (tAr G an W m)
def SF (X : Cx) (e : Expr) (m : Mi) : Prop := PE X e (tFr G an W m)
end

theorem PE.imp {X : Cx} {e : Expr} {t t' : TE} (h : PE X e t) (k : ∀ σ H Q, t' σ H Q → t σ H Q) : PE X e t' := ⟨fun pins s σ H Q I q => h.run pins s σ H Q I (k σ H Q q)⟩
theorem PT.imp {X : Cx} {e : Expr} {t t' : TT} (h : PT X e t) (k : ∀ σ H Q, t' σ H Q → t σ H Q) : PT X e t' := ⟨fun pins s σ H Q I q => h.run pins s σ H Q I (k σ H Q q)⟩
theorem PW.imp {X : Cx} {e : Expr} {t t' : TT} (h : PW X e t) (k : ∀ σ H Q, t' σ H Q → t σ H Q) : PW X e t' := ⟨fun wh pins s σ H Q I q => h.run wh pins s σ H Q I (k σ H Q q)⟩
theorem PA.imp {X : Cx} {es : List Expr} {t t' : TA} (h : PA X es t) (k : ∀ σ H Q, t' σ H Q → t σ H Q) : PA X es t' := ⟨fun pos pins s σ H Q I q => h.run pos pins s σ H Q I (k σ H Q q)⟩

section
variable {G : Stat} {an : An} {w w' : Wd} {H H' : Hp} {S S' : Sto} {W : WX} {X : Cx}
theorem StoR.has (s : StoR G an w S H) {a : Addr} (h : a ∈ w.rho) : ∃ o, H a = some o ∧ Cel o := by
  obtain ⟨n, hn, e⟩ := List.getElem_of_mem h
  obtain ⟨d, _, c⟩ := s.at' n a (by rw [List.getElem?_eq_getElem hn, e])
  exact c.ho
theorem StoR.out (s : StoR G an w S H) {a : Addr} (h : H a = none) : a ∉ w.rho := fun q => by
  obtain ⟨o, e, _⟩ := s.has q
  rw [h] at e; cases e
theorem StoR.outx (s : StoR G an w S H) {a : Addr} (h : H a = none) : a ∉ w.xi := fun q => by
  obtain ⟨o, e, _⟩ := (s.ax a q).2
  rw [h] at e; cases e
/-- an object of another kind is no cell -/
theorem StoR.outk (s : StoR G an w S H) {a : Addr} {o : HO} (h : H a = some o) (n : ¬ Cel o) : a ∉ w.rho := fun q => by
  obtain ⟨u, e, c⟩ := s.has q
  rw [h] at e; cases e
  exact n c
theorem StoR.outkx (s : StoR G an w S H) {a : Addr} {o : HO} (h : H a = some o) (n : ¬ Cel o) : a ∉ w.xi := fun q => by
  obtain ⟨u, e, c⟩ := (s.ax a q).2
  rw [h] at e; cases e
  exact n c
theorem Grow.obj (s : StoR G an w S H) {a : Addr} {o : HO} (h : H a = none) : Grow w H w (upd H a o) :=
  ⟨⟨[], by simp⟩, fun _ m => m, fun b m n => absurd m n, fun b m n => absurd m n, fun b u e _ _ => by rw [upd_ne (ne_of_none e h)]; exact e, fun b xs e => by rw [upd_ne (ne_of_none e h)]; exact e, fun b u v e => by rw [upd_ne (ne_of_none e h)]; exact e⟩
theorem CeR.fresh {d : Dt} {a b : Addr} {o : HO} (g : Grow w H w' (upd H a o)) (h : H a = none) (c : CeR G w H d b) : CeR G w' (L2.upd H a o) d b := c.mono g (upd_ne (fun z => by
  obtain ⟨u, e, _⟩ := c.ho
  rw [z, h] at e; cases e))
theorem StoR.obj (s : StoR G an w S H) {a : Addr} {o : HO} (h : H a = none) (no : ∀ ps, o ≠ .tbl ps := by intro ps e; cases e) : StoR G an w S (upd H a o) :=
  ⟨s.len, s.nd, fun n b e => by
    obtain ⟨d, h1, c⟩ := s.at' n b e
    exact ⟨d, h1, c.fresh (Grow.obj s h) h⟩, fun b m => ⟨(s.ax b m).1, by
    obtain ⟨u, e, c⟩ := (s.ax b m).2
    exact ⟨u, by rw [upd_ne (ne_of_none e h)]; exact e, c⟩⟩, an.m _ _ _ _ (Grow.obj s h) s.anc, tb_upd s.tb h no⟩
/-- .. as one more cell -/
theorem Grow.cellO (s : StoR G an w S H) {a : Addr} {o : HO} (h : H a = none) : Grow w H ⟨w.rho ++ [a], w.xi⟩ (upd H a o) :=
  ⟨⟨[a], rfl⟩, fun _ m => m, fun b m n => absurd m n, fun b m n => by
    rcases List.mem_append.mp m with q | q
    · exact absurd q n
    · rw [List.mem_singleton.mp q]; exact .of h, fun b u e _ _ => by rw [upd_ne (ne_of_none e h)]; exact e, fun b xs e => by rw [upd_ne (ne_of_none e h)]; exact e, fun b u v e => by rw [upd_ne (ne_of_none e h)]; exact e⟩
theorem StoR.cellO (s : StoR G an w S H) {a : Addr} {d : Dt} {o : HO} (h : H a = none) (nt : ∀ ps, o ≠ .tbl ps) (k : CeR G ⟨w.rho ++ [a], w.xi⟩ (upd H a o) d a) : StoR G an ⟨w.rho ++ [a], w.xi⟩ (S ++ [d]) (upd H a o) := by
  have g := Grow.cellO (o := o) s h
  refine ⟨by simp [s.len], ?_, fun n b e => ?_, fun b m => ⟨fun q => ?_, ?_⟩, an.m _ _ _ _ g s.anc, tb_upd s.tb h nt⟩
  · show (w.rho ++ [a]).Nodup
    rw [List.nodup_append]
    exact ⟨s.nd, by simp, fun b hb c hc e => s.out h (by rw [← List.mem_singleton.mp hc, ← e]; exact hb)⟩
  · have e : (w.rho ++ [a])[n]? = some b := e
    by_cases hn : n < w.rho.length
    · rw [List.getElem?_append_left hn] at e
      obtain ⟨es, h1, c⟩ := s.at' n b e
      exact ⟨es, by rw [List.getElem?_append_left (by rw [s.len]; exact hn)]; exact h1, c.fresh g h⟩
    · rw [List.getElem?_append_right (show w.rho.length ≤ n by omega)] at e
      have hn2 : n - w.rho.length = 0 := by
        have := (List.getElem?_eq_some_iff.mp e).1
        simp at this; omega
      rw [hn2] at e
      simp at e
      subst e
      have : n = S.length := by rw [s.len]; omega
      subst this
      exact ⟨d, by simp, k⟩
  · have m : b ∈ w.xi := m
    rcases List.mem_append.mp (show b ∈ w.rho ++ [a] from q) with z | z
    · exact (s.ax b m).1 z
    · obtain ⟨u, e, _⟩ := (s.ax b m).2
      rw [List.mem_singleton.mp z, h] at e; cases e
  · have m : b ∈ w.xi := m
    obtain ⟨u, e, c⟩ := (s.ax b m).2
    exact ⟨u, by rw [upd_ne (ne_of_none e h)]; exact e, c⟩
theorem Grow.cell (s : StoR G an w S H) {a : Addr} {xs : List V} (h : H a = none) : Grow w H ⟨w.rho ++ [a], w.xi⟩ (upd H a (.lst xs)) := Grow.cellO s h
theorem StoR.cell (s : StoR G an w S H) {a : Addr} {ds : List Dt} {xs : List V} (h : H a = none) (k : PerL G w H ds xs) : StoR G an ⟨w.rho ++ [a], w.xi⟩ (S ++ [.lst ds]) (upd H a (.lst xs)) :=
  s.cellO h (fun ps e => nomatch e) (.lst upd_same (k.mono (Grow.cell s h)))

/-! ### data at hand -/
inductive Tp (G : Stat) (w : Wd) (H : Hp) : Dt → V → Prop
  | per {d : Dt} {v : V} (h : Per G w H d v) : Tp G w H d v
  | cell {a : Addr} {d : Dt} (h : CeR G w H d a) : Tp G w H d (.ref a)
inductive TpL (G : Stat) (w : Wd) (H : Hp) : List Dt → List V → Prop
  | nil : TpL G w H [] []
  | cons {d : Dt} {v : V} {ds : List Dt} {vs : List V} (h : Tp G w H d v) (k : TpL G w H ds vs) : TpL G w H (d :: ds) (v :: vs)
def deref (S : Sto) : Vl → Option Dt
  | .p d => some d
  | .loc n => S[n]?
def derefs (S : Sto) : List Vl → Option (List Dt)
  | [] => some []
  | x :: r => match deref S x, derefs S r with
    | some d, some ds => some (d :: ds)
    | _, _ => none
theorem Rv.top (s : StoR G an w S H) {x : Vl} {v : V} {d : Dt} (r : Rv G w H x v) (e : deref S x = some d) : Tp G w H d v := by
  cases r with
  | p h => cases e; exact .per h
  | @loc n a h =>
    obtain ⟨z, h1, h2⟩ := s.at' n a h
    have e : S[n]? = some d := e
    rw [h1] at e
    cases e
    exact .cell h2
theorem RvL.top (s : StoR G an w S H) : ∀ {xs : List Vl} {vs : List V} {ds : List Dt}, RvL G w H xs vs → derefs S xs = some ds → TpL G w H ds vs
  | _, _, _, .nil, e => by cases e; exact .nil
  | x :: r, _, ds, .cons h k, e => by
    unfold derefs at e
    cases h1 : deref S x with
    | none => rw [h1] at e; cases e
    | some d => cases h2 : derefs S r with
      | none => rw [h1, h2] at e; cases e
      | some es =>
        rw [h1, h2] at e
        cases e
        exact .cons (h.top s h1) (RvL.top s k h2)
/-- a list at hand -/
theorem Tp.lst' {ds : List Dt} {v : V} (h : Tp G w H (.lst ds) v) : ∃ a xs, v = .ref a ∧ H a = some (.lst xs) ∧ PerL G w H ds xs := by
  cases h with
  | per h => cases h with
    | lst h _ _ k => exact ⟨_, _, rfl, h, k⟩
  | cell h => cases h with
    | lst h k => exact ⟨_, _, rfl, h, k⟩
theorem Tp.dct' {ks : List Key} {ds : List Dt} {v : V} (h : Tp G w H (.dct ks ds) v) : ∃ a kvs, v = .ref a ∧ Rd H a (.dK kvs) ∧ kvs.map (·.1) = ks ∧ PerL G w H ds (kvs.map (·.2)) := by
  cases h with
  | per h => cases h with
    | dct h e k => exact ⟨_, _, rfl, .inr ⟨_, h⟩, e, k⟩
  | cell h => cases h with
    | dct h e k => exact ⟨_, _, rfl, .inl h, e, k⟩
theorem Tp.dtt' {ks : List (List Key)} {ds : List Dt} {v : V} (h : Tp G w H (.dtt ks ds) v) : ∃ a kvs, v = .ref a ∧ Rd H a (.dT kvs) ∧ kvs.map (·.1) = ks ∧ PerL G w H ds (kvs.map (·.2)) := by
  cases h with
  | per h => cases h with
    | dtt h e k => exact ⟨_, _, rfl, .inr ⟨_, h⟩, e, k⟩
  | cell h => cases h with
    | dtt h e k => exact ⟨_, _, rfl, .inl h, e, k⟩
theorem Tp.obj' {c m : Nat} {ds : List Dt} {v : V} (h : Tp G w H (.obj c m ds) v) : ∃ a dx vs, v = .ref a ∧ H a = some (.ins (G.ca c) dx ((G.fl c).zip vs)) ∧ ds.length + m = (G.fl c).length ∧ PerL G w H ds vs := by
  cases h with
  | per h => cases h with
    | obj h _ _ e k => exact ⟨_, _, _, rfl, h, e, k⟩
  | cell h => cases h with
    | obj h e k => exact ⟨_, _, _, rfl, h, e, k⟩
theorem Tp.lst {ds : List Dt} {v : V} (h : Tp G w H (.lst ds) v) : ∃ a xs, v = .ref a ∧ SqL G.K H a xs ∧ PerL G w H ds xs := by
  obtain ⟨a, xs, e, h, k⟩ := h.lst'
  exact ⟨a, xs, e, .inl (.inl h), k⟩
theorem Tp.fro {ds : List Dt} {v : V} (h : Tp G w H (.fro ds) v) : ∃ a xs, v = .ref a ∧ SqL G.K H a xs ∧ PerL G w H ds xs := by
  cases h with
  | per h => cases h with
    | frz h k => exact ⟨_, _, rfl, .inl (.inr ⟨_, h⟩), k⟩
    | wri h k => exact ⟨_, _, rfl, h _, k⟩
  | cell h => cases h
theorem Tp.tupH {ds : List Dt} {v : V} (h : Tp G w H (.tup ds) v) : ∃ a xs, v = .ref a ∧ H a = some (.tup xs) ∧ PerL G w H ds xs := by
  cases h with
  | per h => cases h with
    | tup h k => exact ⟨_, _, rfl, h, k⟩
  | cell h => cases h
theorem Tp.tup {ds : List Dt} {v : V} (h : Tp G w H (.tup ds) v) : ∃ a xs, v = .ref a ∧ SqT G.K H a xs ∧ PerL G w H ds xs := by
  obtain ⟨a, xs, e, h, k⟩ := h.tupH
  exact ⟨a, xs, e, .inl (.inl h), k⟩
theorem Tp.tux {ds : List Dt} {v : V} (h : Tp G w H (.tux ds) v) : ∃ a xs, v = .ref a ∧ SqT G.K H a xs ∧ PerL G w H ds xs := by
  cases h with
  | per h => cases h with
    | tux h hd k => exact ⟨_, _, rfl, .inl (.inr ⟨_, h⟩), k⟩
  | cell h => cases h
theorem Tp.tuxH {ds : List Dt} {v : V} (h : Tp G w H (.tux ds) v) : ∃ a o xs, v = .ref a ∧ H a = some (.frz o (.tup xs)) ∧ o.dict = none ∧ PerL G w H ds xs := by
  cases h with
  | per h => cases h with
    | tux h hd k => exact ⟨_, _, _, rfl, h, hd, k⟩
  | cell h => cases h
theorem Tp.int {i : Int} {v : V} (h : Tp G w H (.int i) v) : v = .int i := by
  cases h with
  | per h => cases h; rfl
  | cell h => cases h
theorem Tp.bl {i : Bool} {v : V} (h : Tp G w H (.bl i) v) : v = .bl i := by
  cases h with
  | per h => cases h; rfl
  | cell h => cases h
theorem Tp.str {i : Str} {v : V} (h : Tp G w H (.str i) v) : v = .str i := by
  cases h with
  | per h => cases h; rfl
  | cell h => cases h
theorem Tp.non {v : V} (h : Tp G w H .non v) : v = .non := by
  cases h with
  | per h => cases h; rfl
  | cell h => cases h
theorem Per.tup' {ds : List Dt} {v : V} (h : Per G w H (.tup ds) v) : ∃ a xs, v = .ref a ∧ SqT G.K H a xs ∧ PerL G w H ds xs := (Tp.per h).tup
theorem Per.tupH {ds : List Dt} {v : V} (h : Per G w H (.tup ds) v) : ∃ a xs, v = .ref a ∧ H a = some (.tup xs) ∧ PerL G w H ds xs := (Tp.per h).tupH
theorem Per.int' {i : Int} {v : V} (h : Per G w H (.int i) v) : v = .int i := (Tp.per h).int

/-! ### names and constants -/
def mLoc (i : Nat) : Mx := fun env S => match env[i]? with
  | some (some x) => .ok x S
  | _ => .bad
def mLit (d : Dt) : Mx := fun _ S => .ok (.p d) S
theorem se_never {e : Expr} : SE G an W X e (fun _ _ => .bad) := ⟨fun _ _ _ _ _ _ ⟨_, _, _, _, _, z⟩ => z.elim⟩
theorem se_loc {i : Nat} {x : Str} {pos : Pos} (h : PE X (.Name x pos) (tVar i)) : SE G an W X (.Name x pos) (mLoc i) := by
  refine PE.imp h fun σ H Q ⟨env, w, S, hE, hS, q⟩ => ?_
  cases e : env[i]? with
  | none => simp only [mLoc, e] at q; exact q.elim
  | some o => cases o with
    | none => simp only [mLoc, e] at q; exact q.elim
    | some x =>
      simp only [mLoc, e] at q
      obtain ⟨v, h1, h2⟩ := hE.at' i x e
      exact ⟨v, h1, q w H Grow.refl hS v h2⟩
theorem se_tC {e : Expr} {v : V} {d : Dt} (h : PE X e (tC v)) (p : ∀ w H, Per G w H d v) : SE G an W X e (mLit d) :=
  PE.imp h fun σ H Q ⟨env, w, S, hE, hS, q⟩ => q w H Grow.refl hS v (.p (p w H))
theorem se_int {i : Int} {j : Nat} {pos : Pos} : SE G an W X (.Constant (.int i) j pos) (mLit (.int i)) := se_tC pe_int fun _ _ => .int i
theorem se_bl {b : Bool} {j : Nat} {pos : Pos} : SE G an W X (.Constant (.bool b) j pos) (mLit (.bl b)) := se_tC pe_bl fun _ _ => .bl b
theorem se_non {j : Nat} {pos : Pos} : SE G an W X (.Constant .none j pos) (mLit .non) := se_tC pe_non fun _ _ => .non
theorem se_str {x : Str} {j : Nat} {pos : Pos} : SE G an W X (.Constant (.str x) j pos) (mLit (.str x)) := se_tC pe_str fun _ _ => .str x
theorem se_gint {k : Nat} {x : Str} {i : Int} {t : Tok} {pos : Pos} (g : Gd G X W k) (hm : G.mg x = some (.int i t)) (hg : Gl X x := by rfl) (hd : (x == ("__debug__" : Str)) = false := by decide) : SE G an W X (.Name x pos) (mLit (.int i)) :=
  se_tC (pe_glob (v := .int i) hg (by rw [g.mg]; exact hm) ⟨t, rfl⟩ hd) fun _ _ => .int i
theorem se_gfn {k : Nat} {x : Str} {i : Nat} {pos : Pos} (g : Gd G X W k) (hm : G.mg x = some (.ref (G.fa i))) (hg : Gl X x := by rfl) (hd : (x == ("__debug__" : Str)) = false := by decide) : SE G an W X (.Name x pos) (mLit (.fn i)) :=
  se_tC (pe_glob (v := .ref (G.fa i)) hg (by rw [g.mg]; exact hm) rfl hd) fun _ _ => .fn i

/-! ### arguments, displays -/
def maNil : Ma := fun _ S => .ok [] S
def maCons (m : Mx) (r : Ma) : Ma := fun env S => (m env S).bind fun x S1 => (r env S1).bind fun xs S2 => .ok (x :: xs) S2
theorem sa_nil : SA G an W X [] maNil := PA.imp pa_nil fun σ H Q ⟨env, w, S, hE, hS, q⟩ => q w H Grow.refl hS [] .nil
theorem sa_cons {e : Expr} {es : List Expr} {m : Mx} {r : Ma} (h : SE G an W X e m) (hr : SA G an W X es r) (hs : starEach (e :: es) X.env = (false, eval e X.env) :: starEach es X.env := by rfl) : SA G an W X (e :: es) (maCons m r) := by
  refine PA.imp (pa_cons h hr hs) fun σ H Q ⟨env, w, S, hE, hS, q⟩ => ?_
  refine ⟨env, w, S, hE, hS, (Pst.bind q).imp (fun x S1 w1 H1 _ g1 s1 q1 v rv => ?_) fun _ _ _ z => z⟩
  refine ⟨env, w1, S1, hE.mono g1, s1, (Pst.bind q1).imp (fun xs S2 w2 H2 _ g2 s2 q2 vs rvs => ?_) fun _ _ _ z => z⟩
  exact q2 w2 H2 Grow.refl s2 (v :: vs) (.cons (rv.mono g2) rvs)
def allP : List Vl → Option (List Dt)
  | [] => some []
  | .p d :: r => match allP r with
    | some ds => some (d :: ds)
    | none => none
  | .loc _ :: _ => none
theorem RvL.all : ∀ {xs : List Vl} {vs : List V} {ds : List Dt}, RvL G w H xs vs → allP xs = some ds → PerL G w H ds vs
  | _, _, _, .nil, e => by cases e; exact .nil
  | _, _, _, .cons (xs := r) (.p h) k, e => by
    unfold allP at e
    cases h2 : allP r with
    | none => rw [h2] at e; cases e
    | some es =>
      rw [h2] at e
      cases e
      exact .cons h (RvL.all k h2)
  | _, _, _, .cons (.loc h) k, e => by cases e
/-- lists and tuples below their greatest length -/
def line (n : Nat) : Bool := decide (n ≤ 16777216)
theorem line_ok {n : Nat} (h : line n = true) : n ≤ sizeLine := by
  rw [sizeLine_eq]
  exact of_decide_eq_true h
def mPure {α : Type} (f : List Dt → Option α) (ma : Ma) : Slo → Sto → Rz α := fun env S => (ma env S).bind fun xs S1 => match allP xs with
  | some ds => match f ds with
    | some a => .ok a S1
    | none => .bad
  | none => .bad
def dTup (ds : List Dt) : Option Vl := if line ds.length then some (.p (.tup ds)) else none
def dLst (ds : List Dt) : Option (List Dt) := if line ds.length then some ds else none
theorem pure_elim {α : Type} {f : List Dt → Option α} {ma : Ma} {env : Slo} {k : α → Sto → Wd → Hp → Prop} {E : XK} (q : Pst G an w H (mPure f ma env S) k E) :
    Pst G an w H (ma env S) (fun xs S1 w1 H1 => ∃ ds a, allP xs = some ds ∧ f ds = some a ∧ Pst G an w1 H1 (.ok a S1) k E) E := by
  refine (Pst.bind q).imp (fun xs S1 w1 H1 _ g1 s1 q1 => ?_) fun _ _ _ z => z
  cases h1 : allP xs with
  | none => rw [h1] at q1; exact q1.elim
  | some ds => cases h2 : f ds with
    | none => simp only [h1, h2] at q1; exact q1.elim
    | some a => simp only [h1, h2] at q1; exact ⟨ds, a, rfl, h2, q1⟩
theorem se_tup {es : List Expr} {x1 : Nat} {pos : Pos} {m : Ma} (h : SA G an W X es m) : SE G an W X (.Tuple es x1 pos) (mPure dTup m) := by
  refine PE.imp (pe_tup h) fun σ H Q ⟨env, w, S, hE, hS, q⟩ => ⟨env, w, S, hE, hS, (pure_elim q).imp (fun xs S1 w1 H1 _ g1 s1 q1 vs rvs => ?_) fun _ _ _ z => z⟩
  obtain ⟨ds, a, h1, h2, q2⟩ := q1
  have k := rvs.all h1
  unfold dTup at h2
  split at h2
  · rename_i hl
    cases h2
    refine ⟨by rw [← k.length]; exact line_ok hl, fun p hp => q2 w1 _ (Grow.obj s1 hp) (s1.obj hp) _ (.p (.tup upd_same (k.mono (Grow.obj s1 hp))))⟩
  · cases h2
theorem sf_lst {es : List Expr} {pos : Pos} {m : Ma} (h : SA G an W X es m) : SF G an W X (.List es pos) (mPure dLst m) := by
  refine PE.imp (pe_lst h) fun σ H Q ⟨env, w, S, hE, hS, q⟩ => ⟨env, w, S, hE, hS, (pure_elim q).imp (fun xs S1 w1 H1 _ g1 s1 q1 vs rvs => ?_) fun _ _ _ z => z⟩
  obtain ⟨ds, a, h1, h2, q2⟩ := q1
  have k := rvs.all h1
  unfold dLst at h2
  split at h2
  · rename_i hl
    cases h2
    exact ⟨by rw [← k.length]; exact line_ok hl, fun p hp => q2 w1 H1 Grow.refl s1 p vs hp k⟩
  · cases h2
/-- a new list as data; as a cell -/
def mFz (m : Mi) : Mx := fun env S => (m env S).bind fun ds S1 => .ok (.p (.lst ds)) S1
def mOwn (m : Mi) : Mx := fun env S => (m env S).bind fun ds S1 => .ok (.loc S1.length) (S1 ++ [.lst ds])
theorem se_fz {e : Expr} {m : Mi} (h : SF G an W X e m) : SE G an W X e (mFz m) := by
  refine PE.imp h fun σ H Q ⟨env, w, S, hE, hS, q⟩ => ⟨env, w, S, hE, hS, (Pst.bind q).imp (fun ds S1 w1 H1 _ g1 s1 q1 a xs ha k => ?_) fun _ _ _ z => z⟩
  exact q1 w1 _ (Grow.obj s1 ha) (s1.obj ha) _ (.p (.lst upd_same (s1.out ha) (s1.outx ha) (k.mono (Grow.obj s1 ha))))
theorem se_own {e : Expr} {m : Mi} (h : SF G an W X e m) : SE G an W X e (mOwn m) := by
  refine PE.imp h fun σ H Q ⟨env, w, S, hE, hS, q⟩ => ⟨env, w, S, hE, hS, (Pst.bind q).imp (fun ds S1 w1 H1 _ g1 s1 q1 a xs ha k => ?_) fun _ _ _ z => z⟩
  refine q1 _ _ (Grow.cell s1 ha) (s1.cell ha k) _ (.loc ?_)
  show (w1.rho ++ [a])[S1.length]? = some a
  rw [s1.len]; simp

/-! ### operators -/
def mOp2 (f : Dt → Dt → Option Dt) (ma mb : Mx) : Mx := fun env S => (ma env S).bind fun x S1 => (mb env S1).bind fun y S2 => match deref S2 x, deref S2 y with
  | some d, some e => match f d e with
    | some r => .ok (.p r) S2
    | none => .bad
  | _, _ => .bad
def mOp2F (f : Dt → Dt → Option (List Dt)) (ma mb : Mx) : Mi := fun env S => (ma env S).bind fun x S1 => (mb env S1).bind fun y S2 => match deref S2 x, deref S2 y with
  | some d, some e => match f d e with
    | some r => .ok r S2
    | none => .bad
  | _, _ => .bad
/-- an operator's reading gives f -/
def Op2Ok (G : Stat) (r : R2) (f : Dt → Dt → Option Dt) : Prop := ∀ (an : An) (w : Wd) (S : Sto) (H : Hp) (d e : Dt) (x y : V) (z : Dt) (Q : VK), StoR G an w S H → Tp G w H d x → Tp G w H e y → f d e = some z →
  (∀ w' H' v, Grow w H w' H' → StoR G an w' S H' → Per G w' H' z v → Q v H') → r x y H Q
def Op2F (G : Stat) (r : R2) (f : Dt → Dt → Option (List Dt)) : Prop := ∀ (an : An) (w : Wd) (S : Sto) (H : Hp) (d e : Dt) (x y : V) (z : List Dt) (Q : VK), StoR G an w S H → Tp G w H d x → Tp G w H e y → f d e = some z →
  (∀ a xs, H a = none → PerL G w H z xs → Q (.ref a) (upd H a (.lst xs))) → r x y H Q
theorem op2_read {r : R2} {f : Dt → Dt → Option Dt} {ma mb : Mx} (hf : Op2Ok G r f) {σ : L2.St} {H : Hp} {Q : VK} (h : tM G an W (mOp2 f ma mb) σ H Q) : tOp r (tM G an W ma) (tM G an W mb) σ H Q := by
  obtain ⟨env, w, S, hE, hS, q⟩ := h
  refine ⟨env, w, S, hE, hS, (Pst.bind q).imp (fun x S1 w1 H1 _ g1 s1 q1 v rv => ?_) fun _ _ _ z => z⟩
  refine ⟨env, w1, S1, hE.mono g1, s1, (Pst.bind q1).imp (fun y S2 w2 H2 _ g2 s2 q2 u ru => ?_) fun _ _ _ z => z⟩
  cases h1 : deref S2 x with
  | none => simp only [h1] at q2; exact q2.elim
  | some d => cases h2 : deref S2 y with
    | none => simp only [h1, h2] at q2; exact q2.elim
    | some e => cases h3 : f d e with
      | none => simp only [h1, h2, h3] at q2; exact q2.elim
      | some z =>
        simp only [h1, h2, h3] at q2
        exact hf an w2 S2 H2 d e v u z Q s2 ((rv.mono g2).top s2 h1) (ru.top s2 h2) h3 fun w' H' v' g s p => q2 w' H' g s v' (.p p)
theorem op2F_read {r : R2} {f : Dt → Dt → Option (List Dt)} {ma mb : Mx} (hf : Op2F G r f) {σ : L2.St} {H : Hp} {Q : VK} (h : tFr G an W (mOp2F f ma mb) σ H Q) : tOp r (tM G an W ma) (tM G an W mb) σ H Q := by
  obtain ⟨env, w, S, hE, hS, q⟩ := h
  refine ⟨env, w, S, hE, hS, (Pst.bind q).imp (fun x S1 w1 H1 _ g1 s1 q1 v rv => ?_) fun _ _ _ z => z⟩
  refine ⟨env, w1, S1, hE.mono g1, s1, (Pst.bind q1).imp (fun y S2 w2 H2 _ g2 s2 q2 u ru => ?_) fun _ _ _ z => z⟩
  cases h1 : deref S2 x with
  | none => simp only [h1] at q2; exact q2.elim
  | some d => cases h2 : deref S2 y with
    | none => simp only [h1, h2] at q2; exact q2.elim
    | some e => cases h3 : f d e with
      | none => simp only [h1, h2, h3] at q2; exact q2.elim
      | some z =>
        simp only [h1, h2, h3] at q2
        exact hf an w2 S2 H2 d e v u z Q s2 ((rv.mono g2).top s2 h1) (ru.top s2 h2) h3 fun a xs ha k => q2 w2 H2 Grow.refl s2 a xs ha k
section
variable {a b : Expr} {ma mb : Mx} {pos : Pos} {r : R2} {f : Dt → Dt → Option Dt} {op : Operator} {cop : CmpOp}
theorem se_op2 (ho : OpR X (binaryOp op) r) (hf : Op2Ok G r f) (ha : SE G an W X a ma) (hb : SE G an W X b mb) : SE G an W X (.BinOp a op b pos) (mOp2 f ma mb) :=
  PE.imp (pe_op ho ha hb) fun _ _ _ h => op2_read hf h
theorem sf_op2 {f : Dt → Dt → Option (List Dt)} (ho : OpR X (binaryOp op) r) (hf : Op2F G r f) (ha : SE G an W X a ma) (hb : SE G an W X b mb) : SF G an W X (.BinOp a op b pos) (mOp2F f ma mb) :=
  PE.imp (pe_op ho ha hb) fun _ _ _ h => op2F_read hf h
theorem se_cmp (ho : OpR X (compareOp cop) r) (hf : Op2Ok G r f) (ha : SE G an W X a ma) (hb : SE G an W X b mb) (hm : behindInMarks cop b = false) : SE G an W X (.Compare a [cop] [b] pos) (mOp2 f ma mb) :=
  PE.imp (pe_cmpR ho ha hb hm) fun _ _ _ h => op2_read hf h
theorem se_ix (hi : IxR X r) (hf : Op2Ok G r f) (ha : SE G an W X a ma) (hb : SE G an W X b mb) (hs : PlainIx b := by exact fun _ _ => rfl) : SE G an W X (.Subscript a b pos) (mOp2 f ma mb) :=
  PE.imp (pe_ix hi ha hb hs) fun _ _ _ h => op2_read hf h
end
/-- one operand -/
def mOp1 (f : Dt → Option Dt) (ma : Mx) : Mx := fun env S => (ma env S).bind fun x S1 => match deref S1 x with
  | some d => match f d with
    | some r => .ok (.p r) S1
    | none => .bad
  | none => .bad
def Op1Ok (G : Stat) (r : V → Hp → VK → Prop) (f : Dt → Option Dt) : Prop := ∀ (an : An) (w : Wd) (S : Sto) (H : Hp) (d : Dt) (x : V) (z : Dt) (Q : VK), StoR G an w S H → Tp G w H d x → f d = some z →
  (∀ w' H' v, Grow w H w' H' → StoR G an w' S H' → Per G w' H' z v → Q v H') → r x H Q
theorem op1_read {r : V → Hp → VK → Prop} {f : Dt → Option Dt} {ma : Mx} (hf : Op1Ok G r f) {σ : L2.St} {H : Hp} {Q : VK} (h : tM G an W (mOp1 f ma) σ H Q) : tM G an W ma σ H (fun x H1 => r x H1 Q) := by
  obtain ⟨env, w, S, hE, hS, q⟩ := h
  refine ⟨env, w, S, hE, hS, (Pst.bind q).imp (fun x S1 w1 H1 _ g1 s1 q1 v rv => ?_) fun _ _ _ z => z⟩
  cases h1 : deref S1 x with
  | none => simp only [h1] at q1; exact q1.elim
  | some d => cases h3 : f d with
    | none => simp only [h1, h3] at q1; exact q1.elim
    | some z =>
      simp only [h1, h3] at q1
      exact hf an w1 S1 H1 d v z Q s1 (rv.top s1 h1) h3 fun w' H' v' g s p => q1 w' H' g s v' (.p p)
theorem se_un {op : UnaryOp} {r : V → Hp → VK → Prop} {f : Dt → Option Dt} {a : Expr} {ma : Mx} {pos : Pos} (ho : UnR X (unaryOp op) r) (hf : Op1Ok G r f) (ha : SE G an W X a ma) : SE G an W X (.UnaryOp op a pos) (mOp1 f ma) :=
  PE.imp (pe_un ho ha) fun _ _ _ h => op1_read hf h

/-! ### calls of built-ins -/
def mPr {α : Type} (f : List Dt → Option α) (ma : Ma) : Slo → Sto → Rz α := fun env S => (ma env S).bind fun xs S1 => match derefs S1 xs with
  | some ds => match f ds with
    | some a => .ok a S1
    | none => .bad
  | none => .bad
def mPrV (f : List Dt → Option Dt) (ma : Ma) : Mx := fun env S => (mPr f ma env S).bind fun d S1 => .ok (.p d) S1
def PrOk (G : Stat) (r : List V → Hp → VK → Prop) (f : List Dt → Option Dt) : Prop := ∀ (an : An) (w : Wd) (S : Sto) (H : Hp) (ds : List Dt) (xs : List V) (z : Dt) (Q : VK), StoR G an w S H → TpL G w H ds xs → f ds = some z →
  (∀ w' H' v, Grow w H w' H' → StoR G an w' S H' → Per G w' H' z v → Q v H') → r xs H Q
def PrF (G : Stat) (r : List V → Hp → VK → Prop) (f : List Dt → Option (List Dt)) : Prop := ∀ (an : An) (w : Wd) (S : Sto) (H : Hp) (ds : List Dt) (xs : List V) (z : List Dt) (Q : VK), StoR G an w S H → TpL G w H ds xs → f ds = some z →
  (∀ w' H' a ys, Grow w H w' H' → StoR G an w' S H' → H' a = none → PerL G w' H' z ys → Q (.ref a) (upd H' a (.lst ys))) → r xs H Q
theorem pr_elim {α : Type} {f : List Dt → Option α} {ma : Ma} {env : Slo} {k : α → Sto → Wd → Hp → Prop} {E : XK} (q : Pst G an w H (mPr f ma env S) k E) :
    Pst G an w H (ma env S) (fun xs S1 w1 H1 => ∃ ds a, derefs S1 xs = some ds ∧ f ds = some a ∧ Pst G an w1 H1 (.ok a S1) k E) E := by
  refine (Pst.bind q).imp (fun xs S1 w1 H1 _ g1 s1 q1 => ?_) fun _ _ _ z => z
  cases h1 : derefs S1 xs with
  | none => rw [h1] at q1; exact q1.elim
  | some ds => cases h2 : f ds with
    | none => simp only [h1, h2] at q1; exact q1.elim
    | some a => simp only [h1, h2] at q1; exact ⟨ds, a, rfl, h2, q1⟩
theorem prV_read {r : List V → Hp → VK → Prop} {f : List Dt → Option Dt} {ma : Ma} (hf : PrOk G r f) {σ : L2.St} {H : Hp} {Q : VK} (h : tM G an W (mPrV f ma) σ H Q) : tCB r (tAr G an W ma) σ H Q := by
  obtain ⟨env, w, S, hE, hS, q⟩ := h
  refine ⟨env, w, S, hE, hS, (pr_elim (Pst.bind q)).imp (fun xs S1 w1 H1 _ g1 s1 q1 vs rvs => ?_) fun _ _ _ z => z⟩
  obtain ⟨ds, d, h1, h2, q2⟩ := q1
  exact hf an w1 S1 H1 ds vs d Q s1 (rvs.top s1 h1) h2 fun w' H' v g s p => q2 w1 H1 Grow.refl s1 w' H' g s v (.p p)
theorem prF_read {r : List V → Hp → VK → Prop} {f : List Dt → Option (List Dt)} {ma : Ma} (hf : PrF G r f) {σ : L2.St} {H : Hp} {Q : VK} (h : tFr G an W (mPr f ma) σ H Q) : tCB r (tAr G an W ma) σ H Q := by
  obtain ⟨env, w, S, hE, hS, q⟩ := h
  refine ⟨env, w, S, hE, hS, (pr_elim q).imp (fun xs S1 w1 H1 _ g1 s1 q1 vs rvs => ?_) fun _ _ _ z => z⟩
  obtain ⟨ds, d, h1, h2, q2⟩ := q1
  exact hf an w1 S1 H1 ds vs d Q s1 (rvs.top s1 h1) h2 fun w' H' a ys g s ha p => q2 w' H' g s a ys ha p
section
variable {x : Str} {p pos : Pos} {e : Expr} {es : List Expr} {ma : Ma} {r : List V → Hp → VK → Prop} {f : List Dt → Option Dt} {fF : List Dt → Option (List Dt)} {id T : String} {k : Nat}
theorem se_callB (g : Gd G X W k) (hc : CallR X (.builtin id) r) (hf : PrOk G r f) (hm : G.mg x = none) (hv : bootBuiltins x = some (.builtin id)) (ha : SA G an W X (e :: es) ma) (hg : Gl X x := by rfl) (hn : x ≠ "__name__" := by decide) (hdb : (x == ("__debug__" : Str)) = false := by decide)
    (he : starEach (e :: es) X.env = (false, eval e X.env) :: starEach es X.env := by rfl) (hpl : (backTo pos (starEach es X.env)).any (·.1) = false := by rfl) : SE G an W X (.Call (.Name x p) (e :: es) [] pos) (mPrV f ma) :=
  PE.imp (pe_callB hc hg (by rw [g.mg]; exact hm) hv ha hn hdb he hpl) fun _ _ _ h => prV_read hf h
theorem se_callTy (g : Gd G X W k) (hc : CallR X (.type T) r) (hf : PrOk G r f) (hm : G.mg x = none) (hv : bootBuiltins x = some (.type T)) (ha : SA G an W X (e :: es) ma) (hg : Gl X x := by rfl) (hn : x ≠ "__name__" := by decide) (hdb : (x == ("__debug__" : Str)) = false := by decide)
    (he : starEach (e :: es) X.env = (false, eval e X.env) :: starEach es X.env := by rfl) (hpl : (backTo pos (starEach es X.env)).any (·.1) = false := by rfl) : SE G an W X (.Call (.Name x p) (e :: es) [] pos) (mPrV f ma) :=
  PE.imp (pe_callTy hc hg (by rw [g.mg]; exact hm) hv ha hn hdb he hpl) fun _ _ _ h => prV_read hf h
theorem sf_callB (g : Gd G X W k) (hc : CallR X (.builtin id) r) (hf : PrF G r fF) (hm : G.mg x = none) (hv : bootBuiltins x = some (.builtin id)) (ha : SA G an W X (e :: es) ma) (hg : Gl X x := by rfl) (hn : x ≠ "__name__" := by decide) (hdb : (x == ("__debug__" : Str)) = false := by decide)
    (he : starEach (e :: es) X.env = (false, eval e X.env) :: starEach es X.env := by rfl) (hpl : (backTo pos (starEach es X.env)).any (·.1) = false := by rfl) : SF G an W X (.Call (.Name x p) (e :: es) [] pos) (mPr fF ma) :=
  PE.imp (pe_callB hc hg (by rw [g.mg]; exact hm) hv ha hn hdb he hpl) fun _ _ _ h => prF_read hf h
theorem sf_callTy (g : Gd G X W k) (hc : CallR X (.type T) r) (hf : PrF G r fF) (hm : G.mg x = none) (hv : bootBuiltins x = some (.type T)) (ha : SA G an W X (e :: es) ma) (hg : Gl X x := by rfl) (hn : x ≠ "__name__" := by decide) (hdb : (x == ("__debug__" : Str)) = false := by decide)
    (he : starEach (e :: es) X.env = (false, eval e X.env) :: starEach es X.env := by rfl) (hpl : (backTo pos (starEach es X.env)).any (·.1) = false := by rfl) : SF G an W X (.Call (.Name x p) (e :: es) [] pos) (mPr fF ma) :=
  PE.imp (pe_callTy hc hg (by rw [g.mg]; exact hm) hv ha hn hdb he hpl) fun _ _ _ h => prF_read hf h
end

/-! ### tests -/
def mbV (m : Mx) : Mb := fun env S => (m env S).bind fun x S1 => match x with
  | .p (.bl b) => .ok b S1
  | _ => .bad
theorem st_val {e : Expr} {m : Mx} (h : SE G an W X e m) (he : ∀ whole, isTrue e X.env whole = (do let v ← whole; standAt e.pos; holding [v] (truthy v)) := by intro _; rfl) : ST G an W X e (mbV m) := by
  refine PT.imp (pt_val h he) fun σ H Q ⟨env, w, S, hE, hS, q⟩ => ⟨env, w, S, hE, hS, (Pst.bind q).imp (fun x S1 w1 H1 _ g1 s1 q1 v rv => ?_) fun _ _ _ z => z⟩
  cases rv with
  | loc h => exact q1.elim
  | p h => cases h with
    | bl b => exact ⟨b, rfl, q1 w1 H1 Grow.refl s1⟩
    | _ => exact q1.elim
/-- truth of data -/
def truD : Dt → Option Bool
  | .non => some false
  | .bl b => some b
  | .int i => some (i != 0)
  | .lst ds => some (!ds.isEmpty)
  | .tup ds => some (!ds.isEmpty)
  | .tux ds => some (!ds.isEmpty)
  | _ => none
def mbT (m : Mx) : Mb := fun env S => (m env S).bind fun x S1 => match deref S1 x with
  | some d => match truD d with
    | some b => .ok b S1
    | none => .bad
  | none => .bad
theorem PerL.empty {ds : List Dt} {vs : List V} (k : PerL G w H ds vs) : ds.isEmpty = vs.isEmpty := by cases k <;> rfl
theorem st_tru {k : Nat} {e : Expr} {m : Mx} (g : Gd G X W k) (h : SE G an W X e m) (he : ∀ whole, isTrue e X.env whole = (do let v ← whole; standAt e.pos; holding [v] (truthy v)) := by intro _; rfl) : ST G an W X e (mbT m) := by
  refine PT.imp (pt_truth h he) fun σ H Q ⟨env, w, S, hE, hS, q⟩ => ⟨env, w, S, hE, hS, (Pst.bind q).imp (fun x S1 w1 H1 _ g1 s1 q1 v rv => ?_) fun _ _ _ z => z⟩
  cases h1 : deref S1 x with
  | none => simp only [h1] at q1; exact q1.elim
  | some d => cases h2 : truD d with
    | none => simp only [h1, h2] at q1; exact q1.elim
    | some b =>
      simp only [h1, h2] at q1
      have t := rv.top s1 h1
      have q2 := q1 w1 H1 Grow.refl s1
      cases d with
      | non => cases t.non; cases h2; exact ⟨_, rfl, q2⟩
      | bl b => cases t.bl; cases h2; exact ⟨_, rfl, q2⟩
      | int i => cases t.int; cases h2; exact ⟨_, rfl, q2⟩
      | lst ds =>
        obtain ⟨a, xs, rfl, hs, k2⟩ := t.lst
        cases h2
        exact ⟨_, .inl ⟨xs, by rw [g.K]; exact hs, by rw [k2.empty]⟩, q2⟩
      | tup ds =>
        obtain ⟨a, xs, rfl, hs, k2⟩ := t.tup
        cases h2
        exact ⟨_, .inr (.inl ⟨xs, by rw [g.K]; exact hs, by rw [k2.empty]⟩), q2⟩
      | tux ds =>
        obtain ⟨a, xs, rfl, hs, k2⟩ := t.tux
        cases h2
        exact ⟨_, .inr (.inl ⟨xs, by rw [g.K]; exact hs, by rw [k2.empty]⟩), q2⟩
      | _ => cases h2
def mbAnd (a b : Mb) : Mb := fun env S => (a env S).bind fun c S1 => if c = true then b env S1 else .ok false S1
def mbOr (a b : Mb) : Mb := fun env S => (a env S).bind fun c S1 => if c = true then .ok true S1 else b env S1
def mbNot (a : Mb) : Mb := fun env S => (a env S).bind fun c S1 => .ok (!c) S1
section
variable {a b : Expr} {rest : List Expr} {pos : Pos} {p q : Mb}
theorem sw_and1 (h : ST G an W X a p) : SW G an W X (.BoolOp .And [a] pos) p := pw_and1 h
theorem sw_or1 (h : ST G an W X a p) : SW G an W X (.BoolOp .Or [a] pos) p := pw_or1 h
theorem sw_and (h : ST G an W X a p) (h2 : SW G an W X (.BoolOp .And (b :: rest) pos) q) : SW G an W X (.BoolOp .And (a :: b :: rest) pos) (mbAnd p q) := by
  refine PW.imp (pw_and h h2) fun σ H Q ⟨env, w, S, hE, hS, q⟩ => ⟨env, w, S, hE, hS, (Pst.bind q).imp (fun c S1 w1 H1 _ g1 s1 q1 => ?_) fun _ _ _ z => z⟩
  cases c with
  | true => exact ⟨env, w1, S1, hE.mono g1, s1, q1⟩
  | false => exact q1 w1 H1 Grow.refl s1
theorem sw_or (h : ST G an W X a p) (h2 : SW G an W X (.BoolOp .Or (b :: rest) pos) q) : SW G an W X (.BoolOp .Or (a :: b :: rest) pos) (mbOr p q) := by
  refine PW.imp (pw_or h h2) fun σ H Q ⟨env, w, S, hE, hS, q⟩ => ⟨env, w, S, hE, hS, (Pst.bind q).imp (fun c S1 w1 H1 _ g1 s1 q1 => ?_) fun _ _ _ z => z⟩
  cases c with
  | true => exact q1 w1 H1 Grow.refl s1
  | false => exact ⟨env, w1, S1, hE.mono g1, s1, q1⟩
theorem st_w (h : SW G an W X a p) : ST G an W X a p := PW.pt h
theorem st_not (h : ST G an W X a p) : ST G an W X (.UnaryOp .Not a pos) (mbNot p) := by
  refine PT.imp (pt_not h) fun σ H Q ⟨env, w, S, hE, hS, q⟩ => ⟨env, w, S, hE, hS, (Pst.bind q).imp (fun c S1 w1 H1 _ g1 s1 q1 => ?_) fun _ _ _ z => z⟩
  exact q1 w1 H1 Grow.refl s1
end
/-! .. as values -/
def mAndV (a b : Mx) : Mx := fun env S => (a env S).bind fun x S1 => match x with
  | .p (.bl true) => b env S1
  | .p (.bl false) => .ok (.p (.bl false)) S1
  | _ => .bad
def mOrV (a b : Mx) : Mx := fun env S => (a env S).bind fun x S1 => match x with
  | .p (.bl true) => .ok (.p (.bl true)) S1
  | .p (.bl false) => b env S1
  | _ => .bad
def mNotV (a : Mx) : Mx := fun env S => (a env S).bind fun x S1 => match x with
  | .p (.bl b) => .ok (.p (.bl (!b))) S1
  | _ => .bad
def mIf (c : Mb) (a b : Mx) : Mx := fun env S => (c env S).bind fun k S1 => if k = true then a env S1 else b env S1
section
variable {a b c : Expr} {rest : List Expr} {pos : Pos} {m n : Mx} {t : Mb}
theorem se_one {op} (h : SE G an W X a m) : SE G an W X (.BoolOp op [a] pos) m := pe_one h
theorem se_and (h : SE G an W X a m) (h2 : SE G an W X (.BoolOp .And (b :: rest) pos) n) : SE G an W X (.BoolOp .And (a :: b :: rest) pos) (mAndV m n) := by
  refine PE.imp (pe_and h h2) fun σ H Q ⟨env, w, S, hE, hS, q⟩ => ⟨env, w, S, hE, hS, (Pst.bind q).imp (fun x S1 w1 H1 _ g1 s1 q1 v rv => ?_) fun _ _ _ z => z⟩
  cases rv with
  | loc h => exact q1.elim
  | p h => cases h with
    | bl k => cases k with
      | true => exact ⟨true, rfl, env, w1, S1, hE.mono g1, s1, q1⟩
      | false => exact ⟨false, rfl, q1 w1 H1 Grow.refl s1 _ (.p (.bl false))⟩
    | _ => exact q1.elim
theorem se_or (h : SE G an W X a m) (h2 : SE G an W X (.BoolOp .Or (b :: rest) pos) n) : SE G an W X (.BoolOp .Or (a :: b :: rest) pos) (mOrV m n) := by
  refine PE.imp (pe_or h h2) fun σ H Q ⟨env, w, S, hE, hS, q⟩ => ⟨env, w, S, hE, hS, (Pst.bind q).imp (fun x S1 w1 H1 _ g1 s1 q1 v rv => ?_) fun _ _ _ z => z⟩
  cases rv with
  | loc h => exact q1.elim
  | p h => cases h with
    | bl k => cases k with
      | true => exact ⟨true, rfl, q1 w1 H1 Grow.refl s1 _ (.p (.bl true))⟩
      | false => exact ⟨false, rfl, env, w1, S1, hE.mono g1, s1, q1⟩
    | _ => exact q1.elim
theorem se_not (h : SE G an W X a m) : SE G an W X (.UnaryOp .Not a pos) (mNotV m) := by
  refine PE.imp (pe_not h) fun σ H Q ⟨env, w, S, hE, hS, q⟩ => ⟨env, w, S, hE, hS, (Pst.bind q).imp (fun x S1 w1 H1 _ g1 s1 q1 v rv => ?_) fun _ _ _ z => z⟩
  cases rv with
  | loc h => exact q1.elim
  | p h => cases h with
    | bl k => exact ⟨k, rfl, q1 w1 H1 Grow.refl s1 _ (.p (.bl (!k)))⟩
    | _ => exact q1.elim
theorem se_if (hc : ST G an W X c t) (h : SE G an W X a m) (h2 : SE G an W X b n) : SE G an W X (.IfExp c a b pos) (mIf t m n) := by
  refine PE.imp (pe_ifExp hc h h2) fun σ H Q ⟨env, w, S, hE, hS, q⟩ => ⟨env, w, S, hE, hS, (Pst.bind q).imp (fun k S1 w1 H1 _ g1 s1 q1 => ?_) fun _ _ _ z => z⟩
  cases k with
  | true => exact ⟨env, w1, S1, hE.mono g1, s1, q1⟩
  | false => exact ⟨env, w1, S1, hE.mono g1, s1, q1⟩
end
end
end EV

set_option Elab.async false
set_option linter.all false
set_option maxRecDepth 100000
/-! EvC: statements, targets, loops, comprehensions. -/
namespace EV
open PySem L2 RZ

inductive Out where
  | nx (env : Slo) (S : Sto) | rt (x : Vl) (S : Sto) | bk (env : Slo) (S : Sto) | ct (env : Slo) (S : Sto) | exc (c : Nat) (p : Dt) (env : Slo) (S : Sto) | bad
abbrev Sx := Slo → Sto → Out
def PsS (G : Stat) (an : An) (w : Wd) (H : Hp) (r : Out) (D : Ends) (W : WX) : Prop := match r with
  | .nx env S' => ∀ w' H' σ', Grow w H w' H' → StoR G an w' S' H' → EnvR G w' H' env σ' → D.nx σ' H'
  | .rt x S' => ∀ w' H' v, Grow w H w' H' → StoR G an w' S' H' → Rv G w' H' x v → D.rt v H'
  | .bk env S' => ∀ w' H' σ', Grow w H w' H' → StoR G an w' S' H' → EnvR G w' H' env σ' → D.bk σ' H'
  | .ct env S' => ∀ w' H' σ', Grow w H w' H' → StoR G an w' S' H' → EnvR G w' H' env σ' → D.ct σ' H'
  | .exc c p env S' => ∀ w' H' σ' cls dd, Grow w H w' H' → StoR G an w' S' H' → EnvR G w' H' env σ' → ExR G w' H' c p cls dd → W cls dd σ' H'
  | .bad => False
def liftE {α : Type} (r : Rz α) (env : Slo) (f : α → Sto → Out) : Out := match r with
  | .ok a S => f a S
  | .exc c p S => .exc c p env S
  | .bad => .bad
def tSt (G : Stat) (an : An) (W : WX) (m : Sx) : TS := fun D σ H => ∃ env w S, EnvR G w H env σ ∧ StoR G an w S H ∧ PsS G an w H (m env S) D W
def SS (G : Stat) (an : An) (W : WX) (X : Cx) (st : Stmt) (m : Sx) : Prop := PS X st (tSt G an W m)
def SB (G : Stat) (an : An) (W : WX) (X : Cx) (st : List Stmt) (m : Sx) : Prop := PSs X st (tSt G an W m)
theorem PS.imp {X : Cx} {e : Stmt} {t t' : TS} (h : PS X e t) (k : ∀ D σ H, t' D σ H → t D σ H) : PS X e t' := ⟨fun pins s σ H D I q => h.run pins s σ H D I (k D σ H q)⟩
theorem PSs.imp {X : Cx} {e : List Stmt} {t t' : TS} (h : PSs X e t) (k : ∀ D σ H, t' D σ H → t D σ H) : PSs X e t' := ⟨fun pins s σ H D I q => h.run pins s σ H D I (k D σ H q)⟩
theorem PI.imp {X : Cx} {tg e : Expr} {t t' : TI} (h : PI X tg e t) (k : ∀ σ H R, t' σ H R → t σ H R) : PI X tg e t' := ⟨fun pins s σ H D I q => h.run pins s σ H D I (k σ H D q)⟩

section
variable {G : Stat} {an : An} {w w' : Wd} {H H' : Hp} {S S' : Sto} {W : WX} {X : Cx} {D D' : Ends} {env : Slo} {σ : L2.St}
theorem PsS.from {r : Out} (h : PsS G an w H r D W) (g : Grow w H w' H') : PsS G an w' H' r D W := by
  cases r with
  | nx env S' => exact fun w2 H2 σ' g2 => h w2 H2 σ' (g.trans g2)
  | rt x S' => exact fun w2 H2 v g2 => h w2 H2 v (g.trans g2)
  | bk env S' => exact fun w2 H2 σ' g2 => h w2 H2 σ' (g.trans g2)
  | ct env S' => exact fun w2 H2 σ' g2 => h w2 H2 σ' (g.trans g2)
  | exc c p env S' => exact fun w2 H2 σ' cls dd g2 => h w2 H2 σ' cls dd (g.trans g2)
  | bad => exact h
theorem PsS.lift {α : Type} {r : Rz α} {f : α → Sto → Out} (h : PsS G an w H (liftE r env f) D W) (hE : EnvR G w H env σ) : Pst G an w H r (fun a S' w' H' => PsS G an w' H' (f a S') D W) (fun c d H' => W c d σ H') := by
  cases r with
  | ok a S' => exact fun w' H' g s => PsS.from (show PsS G an w H (f a S') D W from h) g
  | exc c p S' => exact fun w' H' cls dd g s x => h w' H' σ cls dd g s (hE.mono g) x
  | bad => exact h

def sSet (i : Nat) (m : Mx) : Sx := fun env S => liftE (m env S) env fun x S1 => .nx (env.set i (some x)) S1
theorem ss_set {st : Stmt} {i : Nat} {m : Mx} (h : PS X st (tAsg (tM G an W m) (gName i))) : SS G an W X st (sSet i m) := by
  refine PS.imp h fun D σ H ⟨env, w, S, hE, hS, q⟩ => ⟨env, w, S, hE, hS, (q.lift hE).imp (fun x S1 w1 H1 r1 g1 s1 q1 v rv => ?_) fun _ _ _ z => z⟩
  exact q1 w1 H1 _ Grow.refl s1 ((hE.mono g1).set i rv)
/-- the value alone -/
def sEx (m : Mx) : Sx := fun env S => liftE (m env S) env fun _ S1 => .nx env S1
theorem ss_expr {st : Stmt} {m : Mx} (h : PS X st (tDrop (tM G an W m))) : SS G an W X st (sEx m) := by
  refine PS.imp h fun D σ H ⟨env, w, S, hE, hS, q⟩ => ⟨env, w, S, hE, hS, (q.lift hE).imp (fun x S1 w1 H1 r1 g1 s1 q1 v rv => ?_) fun _ _ _ z => z⟩
  exact q1 w1 H1 _ Grow.refl s1 (hE.mono g1)
def sRt (m : Mx) : Sx := fun env S => liftE (m env S) env fun x S1 => .rt x S1
theorem ss_ret {e : Expr} {m : Mx} {pos : Pos} (h : SE G an W X e m) : SS G an W X (.Return (some e) pos) (sRt m) := by
  refine PS.imp (ps_ret h) fun D σ H ⟨env, w, S, hE, hS, q⟩ => ⟨env, w, S, hE, hS, (q.lift hE).imp (fun x S1 w1 H1 r1 g1 s1 q1 v rv => ?_) fun _ _ _ z => z⟩
  exact q1 w1 H1 v Grow.refl s1 rv
def sNx : Sx := fun env S => .nx env S
theorem ss_pass {pos : Pos} : SS G an W X (.Pass pos) sNx := PS.imp ps_pass fun D σ H ⟨env, w, S, hE, hS, q⟩ => q w H σ Grow.refl hS hE
theorem ss_cont {pos : Pos} : SS G an W X (.Continue pos) (fun env S => .ct env S) := PS.imp ps_continue fun D σ H ⟨env, w, S, hE, hS, q⟩ => q w H σ Grow.refl hS hE
theorem ss_break {pos : Pos} : SS G an W X (.Break pos) (fun env S => .bk env S) := PS.imp ps_break fun D σ H ⟨env, w, S, hE, hS, q⟩ => q w H σ Grow.refl hS hE
theorem ss_never {st : Stmt} : SS G an W X st (fun _ _ => .bad) := ⟨fun _ _ _ _ _ _ ⟨_, _, _, _, _, z⟩ => z.elim⟩
theorem sb_never {st : List Stmt} : SB G an W X st (fun _ _ => .bad) := ⟨fun _ _ _ _ _ _ ⟨_, _, _, _, _, z⟩ => z.elim⟩
theorem sb_nil : SB G an W X [] sNx := PSs.imp pss_nil fun D σ H ⟨env, w, S, hE, hS, q⟩ => q w H σ Grow.refl hS hE
def sSeq (a b : Sx) : Sx := fun env S => match a env S with
  | .nx env' S' => b env' S'
  | r => r
theorem sb_cons {st : Stmt} {rest : List Stmt} {a b : Sx} (h : SS G an W X st a) (h2 : SB G an W X rest b) : SB G an W X (st :: rest) (sSeq a b) := by
  refine PSs.imp (pss_cons h h2) fun D σ H ⟨env, w, S, hE, hS, q⟩ => ⟨env, w, S, hE, hS, ?_⟩
  cases r : a env S with
  | nx env' S' =>
    simp only [sSeq, r] at q
    exact fun w' H' σ' g s e => ⟨env', w', S', e, s, PsS.from q g⟩
  | _ => simp only [sSeq, r] at q; exact q
theorem sb_one {st : Stmt} {a : Sx} (h : SS G an W X st a) : SB G an W X [st] a := pss_one h
def sIf (c : Mb) (a b : Sx) : Sx := fun env S => liftE (c env S) env fun k S1 => if k = true then a env S1 else b env S1
theorem ss_if {c : Expr} {a b : List Stmt} {mc : Mb} {ma mb : Sx} {pos : Pos} (hc : ST G an W X c mc) (ha : SB G an W X a ma) (hb : SB G an W X b mb) : SS G an W X (.If c a b pos) (sIf mc ma mb) := by
  refine PS.imp (ps_if hc ha hb) fun D σ H ⟨env, w, S, hE, hS, q⟩ => ⟨env, w, S, hE, hS, (q.lift hE).imp (fun k S1 w1 H1 r1 g1 s1 q1 => ?_) fun _ _ _ z => z⟩
  cases k with
  | true => exact ⟨env, w1, S1, hE.mono g1, s1, q1⟩
  | false => exact ⟨env, w1, S1, hE.mono g1, s1, q1⟩
/-- a while of at most n turns -/
def sWhN (c : Mb) (b : Sx) : Nat → Sx
  | 0, _, _ => .bad
  | n + 1, env, S => liftE (c env S) env fun k S1 => if k = true then (match b env S1 with
    | .nx env' S' => sWhN c b n env' S'
    | .ct env' S' => sWhN c b n env' S'
    | .bk env' S' => .nx env' S'
    | r => r) else .nx env S1
theorem ss_while {k : Nat} (n : Nat) {c : Expr} {b : List Stmt} {mc : Mb} {mb : Sx} {pos : Pos} (g : Gd G X W k) (hc : ST G an W X c mc) (hb : SB G an W X b mb) : SS G an W X (.While c b [] pos) (sWhN mc mb n) := by
  refine PS.imp (ps_while g.pass hc hb) fun D σ H ⟨env, w, S, hE, hS, q⟩ => ?_
  refine ⟨fun m σ H => ∃ env w S, EnvR G w H env σ ∧ StoR G an w S H ∧ PsS G an w H (sWhN mc mb m env S) D W, ⟨n, env, w, S, hE, hS, q⟩, fun m σ H ⟨env, w, S, hE, hS, q⟩ => ?_⟩
  cases m with
  | zero => exact q.elim
  | succ m =>
    refine ⟨env, w, S, hE, hS, (PsS.lift q hE).imp (fun k S1 w1 H1 r1 g1 s1 q1 => ?_) fun _ _ _ z => z⟩
    cases k with
    | false => exact q1 w1 H1 σ Grow.refl s1 (hE.mono g1)
    | true =>
      refine ⟨fun σ' H' => ∃ env w S, EnvR G w H' env σ' ∧ StoR G an w S H' ∧ PsS G an w H' (sWhN mc mb m env S) D W, fun σ' H' h => ⟨m, Nat.lt_succ_self m, h⟩, env, w1, S1, hE.mono g1, s1, ?_⟩
      have q1 : PsS G an w1 H1 (match mb env S1 with
        | .nx env' S' => sWhN mc mb m env' S'
        | .ct env' S' => sWhN mc mb m env' S'
        | .bk env' S' => .nx env' S'
        | r => r) D W := q1
      cases r : mb env S1 with
      | nx env' S' => rw [r] at q1; exact fun w' H' σ' g s e => ⟨env', w', S', e, s, PsS.from q1 g⟩
      | ct env' S' => rw [r] at q1; exact fun w' H' σ' g s e => ⟨env', w', S', e, s, PsS.from q1 g⟩
      | bk env' S' => rw [r] at q1; exact q1
      | rt x S' => rw [r] at q1; exact q1
      | exc c p env' S' => rw [r] at q1; exact q1
      | bad => rw [r] at q1; exact q1.elim

/-! ### targets -/
inductive Tg where
  | n (i : Nat) | t (is : List Nat)
def gsOf : List Nat → TGs
  | [] => gNil
  | i :: r => gCons (gName i) (gsOf r)
def tgOf (K : PySem.W.Frag) : Tg → TG
  | .n i => gName i
  | .t is => gTup K is.length (gsOf is)
def setAll : Slo → List Nat → List Vl → Slo
  | env, i :: is, x :: xs => setAll (env.set i (some x)) is xs
  | env, _, _ => env
def setAllV : L2.St → List Nat → List V → L2.St
  | σ, i :: is, x :: xs => setAllV (σ.set i (some x)) is xs
  | σ, _, _ => σ
def bindT (g : Tg) (d : Dt) (env : Slo) : Option Slo := match g with
  | .n i => some (env.set i (some (.p d)))
  | .t is => match d with
    | .tup ds => if ds.length = is.length then some (setAll env is (ds.map .p)) else none
    | _ => none
theorem EnvR.setAll : ∀ {is : List Nat} {xs : List Vl} {vs : List V} {env : Slo} {σ : L2.St}, EnvR G w H env σ → RvL G w H xs vs → EnvR G w H (EV.setAll env is xs) (setAllV σ is vs)
  | [], _, _, _, _, e, _ => e
  | i :: is, _, _, _, _, e, .nil => e
  | i :: is, _, _, _, _, e, .cons h k => EnvR.setAll (is := is) (e.set i h) k
theorem PerL.vals : ∀ {ds : List Dt} {vs : List V}, PerL G w H ds vs → RvL G w H (ds.map .p) vs
  | _, _, .nil => .nil
  | _, _, .cons h k => .cons (.p h) (PerL.vals k)
theorem gsOf_all : ∀ {is : List Nat} {xs : List V} {σ : L2.St} {H : Hp} {Q : L2.St → Hp → Prop}, xs.length = is.length → Q (setAllV σ is xs) H → gsOf is xs σ H Q
  | [], [], _, _, _, _, q => ⟨rfl, q⟩
  | i :: is, x :: xs, _, _, _, h, q => ⟨x, xs, rfl, gsOf_all (is := is) (by simpa using h) q⟩
theorem wipe_out {σ : L2.St} {i : Nat} {x : Option V} : ∀ {vs : List Nat}, i ∉ vs → wipe (σ.set i x) vs = (wipe σ vs).set i x
  | [], _ => rfl
  | v :: r, h => by
    show (wipe (σ.set i x) r).set v none = ((wipe σ r).set v none).set i x
    rw [wipe_out fun z => h (List.mem_cons_of_mem _ z), List.set_comm _ _ fun z => h (by rw [z]; exact List.mem_cons_self)]
theorem wipe_set {σ : L2.St} {i : Nat} {x : Option V} : ∀ {vs : List Nat}, i ∈ vs → wipe (σ.set i x) vs = wipe σ vs
  | [], h => by cases h
  | v :: r, h => by
    show (wipe (σ.set i x) r).set v none = (wipe σ r).set v none
    by_cases hr : i ∈ r
    · rw [wipe_set hr]
    · rcases List.mem_cons.mp h with z | z
      · rw [wipe_out hr, z, List.set_set]
      · exact absurd z hr
theorem set_wipe {σ : L2.St} {i : Nat} : ∀ {vs : List Nat}, i ∈ vs → (wipe σ vs).set i none = wipe σ vs
  | [], h => by cases h
  | v :: r, h => by
    show ((wipe σ r).set v none).set i none = (wipe σ r).set v none
    by_cases e : i = v
    · rw [e, List.set_set]
    · rw [List.set_comm _ _ (Ne.symm e), set_wipe ((List.mem_cons.mp h).resolve_left e)]
theorem wipe_sub {σ : L2.St} {vs : List Nat} : ∀ {us : List Nat}, (∀ i ∈ us, i ∈ vs) → wipe (wipe σ vs) us = wipe σ vs
  | [], _ => rfl
  | u :: r, h => by
    show (wipe (wipe σ vs) r).set u none = wipe σ vs
    rw [wipe_sub fun i hi => h i (List.mem_cons_of_mem _ hi), set_wipe (h u List.mem_cons_self)]
theorem wipe_setAll : ∀ {is vs : List Nat} {xs : List V} {σ : L2.St}, (∀ i ∈ is, i ∈ vs) → wipe (setAllV σ is xs) vs = wipe σ vs
  | [], _, _, _, _ => rfl
  | i :: is, _, [], _, _ => rfl
  | i :: is, vs, x :: xs, σ, h => by
    show wipe (setAllV (σ.set i (some x)) is xs) vs = _
    rw [wipe_setAll (fun j hj => h j (List.mem_cons_of_mem _ hj)), wipe_set (h i List.mem_cons_self)]
def Tg.slots : Tg → List Nat
  | .n i => [i]
  | .t is => is
/-- a target takes an item -/
theorem bindT_ok {K : PySem.W.Frag} (hK : K = G.K) {g : Tg} {d : Dt} {v : V} {env env' : Slo} (e : bindT g d env = some env') (hE : EnvR G w H env σ) (p : Per G w H d v) {Q : L2.St → Hp → Prop}
    (q : ∀ σ', EnvR G w H env' σ' → (∀ vs : List Nat, (∀ i ∈ g.slots, i ∈ vs) → wipe σ' vs = wipe σ vs) → Q σ' H) : tgOf K g v σ H Q := by
  cases g with
  | n i =>
    cases e
    exact q _ (hE.set i (.p p)) fun vs h => wipe_set (h i (List.mem_singleton.mpr rfl))
  | t is =>
    cases d with
    | tup ds =>
      unfold bindT at e
      simp only at e
      split at e
      · rename_i hl
        cases e
        obtain ⟨a, xs, rfl, hs, k⟩ := p.tup'
        have hl2 : xs.length = is.length := by rw [← k.length]; exact hl
        exact ⟨a, xs, rfl, by rw [hK]; exact hs, hl2, gsOf_all hl2 (q _ (hE.setAll k.vals) fun vs h => wipe_setAll h)⟩
      · cases e
    | _ => cases e

/-! ### what is walked -/
def ItR (G : Stat) (an : An) (J : It) (ds : List Dt) (w0 : Wd) (H0 : Hp) : Prop := ∀ i w H, GrowX w0 H0 w H →
  (∀ d, ds[i]? = some d → J.go i H ∧ ∀ x H', J.yld i H x H' → ∀ S, StoR G an w S H → Grow w H w H' ∧ StoR G an w S H' ∧ Per G w H' d x) ∧ (ds.length ≤ i → J.stop i H)
def tIt (G : Stat) (an : An) (W : WX) (m : Mi) : TI := fun σ H R => ∃ env w S, EnvR G w H env σ ∧ StoR G an w S H ∧ Pst G an w H (m env S) (fun ds _ w' H' => ∀ J, ItR G an J ds w' H' → R J H') (fun c d H' => W c d σ H')
def SI (G : Stat) (an : An) (W : WX) (X : Cx) (tg it : Expr) (m : Mi) : Prop := PI X tg it (tIt G an W m)
theorem itr_list {a : Addr} {xs : List V} {ds : List Dt} (h : H a = some (.lst xs)) (n1 : a ∉ w.rho) (n2 : a ∉ w.xi) (k : PerL G w H ds xs) : ItR G an (Itl G.K a) ds w H := fun i w' H' g => by
  have h' : SqL G.K H' a xs := .inl (.inl (g.keep _ _ h n1 n2))
  refine ⟨fun d e => ?_, fun hl => ⟨xs, h', by rw [← k.length]; exact hl⟩⟩
  obtain ⟨v, e1, p⟩ := k.get e
  refine ⟨⟨xs, v, h', e1⟩, fun x H2 y S s => ?_⟩
  obtain ⟨rfl, y⟩ := y
  have e2 := (y xs h').symm.trans e1
  cases e2
  exact ⟨Grow.refl, s, p.monoX g⟩
theorem itr_tup {a : Addr} {xs : List V} {ds : List Dt} (h : SqT G.K H a xs) (k : PerL G w H ds xs) : ItR G an (Itt G.K a) ds w H := fun i w' H' g => by
  have h' : SqT G.K H' a xs := g.sqT h
  refine ⟨fun d e => ?_, fun hl => ⟨xs, h', by rw [← k.length]; exact hl⟩⟩
  obtain ⟨v, e1, p⟩ := k.get e
  refine ⟨⟨xs, v, h', e1⟩, fun x H2 y S s => ?_⟩
  obtain ⟨rfl, y⟩ := y
  have e2 := (y xs h').symm.trans e1
  cases e2
  exact ⟨Grow.refl, s, p.monoX g⟩
theorem itr_ints {J : It} {n : Nat} {f : Nat → Int} (h1 : ∀ i H, i < n → J.go i H) (h2 : ∀ i H x H', J.yld i H x H' → H' = H ∧ x = .int (f i)) (h3 : ∀ i H, n ≤ i → J.stop i H) : ItR G an J ((List.range n).map fun i => .int (f i)) w H := fun i w' H' g => by
  refine ⟨fun d e => ?_, fun hl => h3 i H' (by simpa using hl)⟩
  rw [List.getElem?_map] at e
  cases z : (List.range n)[i]? with
  | none => rw [z] at e; cases e
  | some j =>
    rw [z] at e
    cases e
    obtain ⟨hi, hj⟩ := List.getElem?_eq_some_iff.mp z
    rw [List.getElem_range] at hj
    subst hj
    refine ⟨h1 i H' (by simpa using hi), fun x H2 y S s => ?_⟩
    obtain ⟨rfl, rfl⟩ := h2 i H' x H2 y
    exact ⟨Grow.refl, s, .int _⟩
/-- a list or a tuple -/
def miSeq (m : Mx) : Mi := fun env S => (m env S).bind fun x S1 => match x with
  | .p (.lst ds) => .ok ds S1
  | .p (.tup ds) => .ok ds S1
  | .p (.tux ds) => .ok ds S1
  | _ => .bad
def isTupV : Vl → Bool
  | .p (.tup _) => true
  | .p (.tux _) => true
  | _ => false
theorem si_seq {k : Nat} {tg e : Expr} {m : Mx} (g : Gd G X W k) (h : SE G an W X e m) : SI G an W X tg e (miSeq m) := by
  refine ⟨fun pins s σ H R I ⟨env, w, S, hE, hS, q⟩ => ?_⟩
  have q := Pst.bind q
  have go : (∀ x S1, m env S = .ok x S1 → isTupV x = false) → iList X.K (tM G an W m) σ H R := fun n => by
    refine ⟨env, w, S, hE, hS, q.imp (fun x S1 w1 H1 r g1 s1 q1 v rv => ?_) fun _ _ _ z => z⟩
    have nt := n x S1 r
    cases x with
    | loc n => exact q1.elim
    | p d => cases d with
      | lst ds =>
        cases rv with
        | p h => cases h with
          | lst h n1 n2 k => exact ⟨_, rfl, ⟨_, .inl (.inl h)⟩, q1 w1 H1 Grow.refl s1 _ (by rw [g.K]; exact itr_list h n1 n2 k)⟩
      | tup ds => cases nt
      | tux ds => cases nt
      | _ => exact q1.elim
  by_cases z : ∃ x S1, m env S = .ok x S1 ∧ isTupV x = true
  · obtain ⟨x, S1, r, ht⟩ := z
    refine (pi_tup h).run pins s σ H R I ⟨env, w, S, hE, hS, ?_⟩
    rw [r] at q ⊢
    cases x with
    | loc n => cases ht
    | p d => cases d with
      | tup ds =>
        intro w1 H1 g1 s1 v rv
        cases rv with
        | p h => cases h with
          | tup h k => exact ⟨_, rfl, ⟨_, by rw [g.K]; exact .inl (.inl h)⟩, by rw [g.K]; exact q w1 H1 g1 s1 w1 H1 Grow.refl s1 _ (itr_tup (.inl (.inl h)) k)⟩
      | tux ds =>
        intro w1 H1 g1 s1 v rv
        cases rv with
        | p h => cases h with
          | tux h hd k => exact ⟨_, rfl, ⟨_, by rw [g.K]; exact .inl (.inr ⟨_, h⟩)⟩, by rw [g.K]; exact q w1 H1 g1 s1 w1 H1 Grow.refl s1 _ (itr_tup (.inl (.inr ⟨_, h⟩)) k)⟩
      | _ => cases ht
  · refine (pi_list h).run pins s σ H R I (go fun x S1 r => ?_)
    cases e : isTupV x with
    | false => rfl
    | true => exact absurd ⟨x, S1, r, e⟩ z
/-- range(n), range(a, b), reversed(range(n)) -/
def iBd (i : Int) : Bool := decide (-(2 ^ 62) ≤ i) && decide (i < 2 ^ 62)
theorem iBd_ok {i : Int} (h : iBd i = true) : -(2 ^ 62) ≤ i ∧ i < 2 ^ 62 := by
  unfold iBd at h
  rw [Bool.and_eq_true] at h
  exact ⟨of_decide_eq_true h.1, of_decide_eq_true h.2⟩
def rgL (lo : Int) (n : Nat) : List Dt := (List.range n).map fun (i : Nat) => .int (lo + (i : Int))
def miR1 (m : Ma) : Mi := fun env S => (m env S).bind fun xs S1 => match xs with
  | [.p (.int n)] => if iBd n then .ok (rgL 0 n.toNat) S1 else .bad
  | _ => .bad
def miR2 (m : Ma) : Mi := fun env S => (m env S).bind fun xs S1 => match xs with
  | [.p (.int a), .p (.int b)] => if iBd a && iBd b then .ok (rgL a (b - a).toNat) S1 else .bad
  | _ => .bad
theorem RvL.int1 {xs : List Vl} {vs : List V} (r : RvL G w H xs vs) {i : Int} (e : xs = [.p (.int i)]) : vs = [.int i] := by
  subst e
  cases r with
  | cons h k => cases k; cases h with
    | p h => cases h; rfl
theorem RvL.int2 {xs : List Vl} {vs : List V} (r : RvL G w H xs vs) {i j : Int} (e : xs = [.p (.int i), .p (.int j)]) : vs = [.int i, .int j] := by
  subst e
  cases r with
  | cons h k => cases h with
    | p h => cases h; rw [k.int1 rfl]
theorem itr_range {lo : Int} {n : Nat} : ItR G an (Itr lo n) (rgL lo n) w H := itr_ints (f := fun (i : Nat) => lo + (i : Int)) (fun _ _ h => h) (fun _ _ _ _ h => h) fun _ _ h => h
theorem one_int {xs : List Vl} {P : Prop} (h : ∀ i, xs = [.p (.int i)] → P) (h2 : (∀ i, xs ≠ [.p (.int i)]) → P) : P := by
  by_cases z : ∃ i, xs = [.p (.int i)]
  · obtain ⟨i, e⟩ := z; exact h i e
  · exact h2 fun i e => z ⟨i, e⟩
theorem si_range1 {k : Nat} {tg a : Expr} {m : Ma} {p pos : Pos} (g : Gd G X W k) (hm : G.mg "range" = none) (ha : SA G an W X [a] m) (hg : Gl X "range" := by rfl) (hs : starEach [a] X.env = [(false, eval a X.env)] := by rfl) : SI G an W X tg (.Call (.Name "range" p) [a] [] pos) (miR1 m) := by
  refine PI.imp (pi_range1 hg (by rw [g.mg]; exact hm) ha hs) fun σ H R ⟨env, w, S, hE, hS, q⟩ => ⟨env, w, S, hE, hS, (Pst.bind q).imp (fun xs S1 w1 H1 r1 g1 s1 q1 vs rvs => ?_) fun _ _ _ z => z⟩
  split at q1
  · rename_i n
    split at q1
    · rename_i hb
      obtain ⟨b1, b2⟩ := iBd_ok hb
      exact ⟨n, rvs.int1 rfl, b1, b2, q1 w1 H1 Grow.refl s1 _ itr_range⟩
    · exact q1.elim
  · exact q1.elim
theorem si_range2 {k : Nat} {tg a b : Expr} {m : Ma} {p pos : Pos} (g : Gd G X W k) (hm : G.mg "range" = none) (ha : SA G an W X [a, b] m) (hg : Gl X "range" := by rfl) (hs : starEach [a, b] X.env = [(false, eval a X.env), (false, eval b X.env)] := by rfl) (hs2 : starEach [b] X.env = [(false, eval b X.env)] := by rfl) :
    SI G an W X tg (.Call (.Name "range" p) [a, b] [] pos) (miR2 m) := by
  refine PI.imp (pi_range2 hg (by rw [g.mg]; exact hm) ha hs hs2) fun σ H R ⟨env, w, S, hE, hS, q⟩ => ⟨env, w, S, hE, hS, (Pst.bind q).imp (fun xs S1 w1 H1 r1 g1 s1 q1 vs rvs => ?_) fun _ _ _ z => z⟩
  split at q1
  · rename_i i j
    split at q1
    · rename_i hb
      rw [Bool.and_eq_true] at hb
      obtain ⟨b1, b2⟩ := iBd_ok hb.1
      obtain ⟨b3, b4⟩ := iBd_ok hb.2
      exact ⟨i, j, rvs.int2 rfl, ⟨b1, b2, b3, b4⟩, q1 w1 H1 Grow.refl s1 _ itr_range⟩
    · exact q1.elim
  · exact q1.elim
def miRev (m : Mx) : Mi := fun env S => (m env S).bind fun x S1 => match x with
  | .p (.int n) => if iBd n then .ok ((List.range n.toNat).map fun i => .int (0 + ((n.toNat : Nat) : Int) - 1 + (i : Nat) * (-1))) S1 else .bad
  | _ => .bad
theorem si_revR {k : Nat} {tg a : Expr} {m : Mx} {p p2 pos pos2 : Pos} (g : Gd G X W k) (hm : G.mg "range" = none) (hm2 : G.mg "reversed" = none) (ha : SE G an W X a m) (hg : Gl X "range" := by rfl) (hg2 : Gl X "reversed" := by rfl)
    (na : starEach [a] X.env = (false, eval a X.env) :: starEach [] X.env := by rfl) (hs : starEach [.Call (.Name "range" p) [a] [] pos] X.env = (false, eval (.Call (.Name "range" p) [a] [] pos) X.env) :: starEach [] X.env := by rfl) :
    SI G an W X tg (.Call (.Name "reversed" p2) [.Call (.Name "range" p) [a] [] pos] [] pos2) (miRev m) := by
  refine PI.imp (pi_revR hg2 (by rw [g.mg]; exact hm2) (prg_1 hg (by rw [g.mg]; exact hm) ha na) hs) fun σ H R ⟨env, w, S, hE, hS, q⟩ => ⟨env, w, S, hE, hS, (Pst.bind q).imp (fun x S1 w1 H1 r1 g1 s1 q1 v rv => ?_) fun _ _ _ z => z⟩
  split at q1
  · rename_i n
    split at q1
    · rename_i hb
      obtain ⟨b1, b2⟩ := iBd_ok hb
      cases rv with
      | p h =>
        cases h
        have e : (n - 0).toNat = n.toNat := by rw [Int.sub_zero]
        refine ⟨n, rfl, by decide, by decide, b1, b2, ?_⟩
        rw [e]
        exact q1 w1 H1 Grow.refl s1 _ (itr_ints (fun _ _ h => h) (fun _ _ _ _ h => h) fun _ _ h => h)
    · exact q1.elim
  · exact q1.elim
/-- zip of two lists, of two tuples; the target is written as a tuple -/
def zipD (ds es : List Dt) : List Dt := (ds.zip es).map fun p => .tup [p.1, p.2]
def miZip (m : Ma) : Mi := fun env S => (m env S).bind fun xs S1 => match xs with
  | [.p (.lst ds), .p (.lst es)] => .ok (zipD ds es) S1
  | [.p (.tup ds), .p (.tup es)] => .ok (zipD ds es) S1
  | _ => .bad
theorem zipD_get {ds es : List Dt} {i : Nat} {d : Dt} (e : (zipD ds es)[i]? = some d) : ∃ a b, ds[i]? = some a ∧ es[i]? = some b ∧ d = .tup [a, b] := by
  unfold zipD at e
  rw [List.getElem?_map] at e
  cases z : (ds.zip es)[i]? with
  | none => rw [z] at e; cases e
  | some p =>
    rw [z] at e
    cases e
    obtain ⟨h1, h2⟩ := List.getElem?_zip_eq_some.mp z
    exact ⟨p.1, p.2, h1, h2, rfl⟩
theorem zipD_end {ds es : List Dt} {i : Nat} (h : (zipD ds es).length ≤ i) : ds.length ≤ i ∨ es.length ≤ i := by
  unfold zipD at h
  rw [List.length_map, List.length_zip] at h
  omega
theorem yield_tup {T : Addr} {x y : V} {d e : Dt} (s : StoR G an w S H) (hT : H T = none) (p1 : Per G w H d x) (p2 : Per G w H e y) : Grow w H w (upd H T (.tup [x, y])) ∧ StoR G an w S (upd H T (.tup [x, y])) ∧ Per G w (upd H T (.tup [x, y])) (.tup [d, e]) (.ref T) :=
  ⟨Grow.obj s hT, s.obj hT, .tup upd_same (.cons (p1.mono (Grow.obj s hT)) (.cons (p2.mono (Grow.obj s hT)) .nil))⟩
theorem itr_zip {a b : Addr} {xs ys : List V} {ds es : List Dt} (h : H a = some (.lst xs)) (n1 : a ∉ w.rho) (x1 : a ∉ w.xi) (k : PerL G w H ds xs) (h2 : H b = some (.lst ys)) (n2 : b ∉ w.rho) (x2 : b ∉ w.xi) (k2 : PerL G w H es ys) : ItR G an (Itz G.K a b) (zipD ds es) w H := fun i w' H' g => by
  have h' : SqL G.K H' a xs := .inl (.inl (g.keep _ _ h n1 x1))
  have h2' : SqL G.K H' b ys := .inl (.inl (g.keep _ _ h2 n2 x2))
  refine ⟨fun d e => ?_, fun hl => ⟨xs, ys, h', h2', by rw [← k.length, ← k2.length]; exact zipD_end hl⟩⟩
  obtain ⟨a1, b1, e1, e2, rfl⟩ := zipD_get e
  obtain ⟨v, f1, p1⟩ := k.get e1
  obtain ⟨u, f2, p2⟩ := k2.get e2
  refine ⟨⟨xs, ys, v, u, h', h2', f1, f2⟩, fun x H2 y S s => ?_⟩
  obtain ⟨T, x1, y1, rfl, hT, rfl, q1, q2⟩ := y
  have z1 := (q1 xs h').symm.trans f1
  have z2 := (q2 ys h2').symm.trans f2
  cases z1
  cases z2
  exact yield_tup s hT (p1.monoX g) (p2.monoX g)
theorem itr_zipT {a b : Addr} {xs ys : List V} {ds es : List Dt} (h : SqT G.K H a xs) (k : PerL G w H ds xs) (h2 : SqT G.K H b ys) (k2 : PerL G w H es ys) : ItR G an (ItzT G.K a b) (zipD ds es) w H := fun i w' H' g => by
  have h' : SqT G.K H' a xs := g.sqT h
  have h2' : SqT G.K H' b ys := g.sqT h2
  refine ⟨fun d e => ?_, fun hl => ⟨xs, ys, h', h2', by rw [← k.length, ← k2.length]; exact zipD_end hl⟩⟩
  obtain ⟨a1, b1, e1, e2, rfl⟩ := zipD_get e
  obtain ⟨v, f1, p1⟩ := k.get e1
  obtain ⟨u, f2, p2⟩ := k2.get e2
  refine ⟨⟨xs, ys, v, u, h', h2', f1, f2⟩, fun x H2 y S s => ?_⟩
  obtain ⟨T, x1, y1, rfl, hT, rfl, q1, q2⟩ := y
  have z1 := (q1 xs h').symm.trans f1
  have z2 := (q2 ys h2').symm.trans f2
  cases z1
  cases z2
  exact yield_tup s hT (p1.monoX g) (p2.monoX g)
theorem si_zip {k : Nat} {e e2 : Expr} {m : Ma} {p pos tpos : Pos} {elts : List Expr} {kk : Nat} (g : Gd G X W k) (hm : G.mg "zip" = none) (ha : SA G an W X [e, e2] m) (hg : Gl X "zip" := by rfl)
    (hs : starEach [e, e2] X.env = (false, eval e X.env) :: starEach [e2] X.env := by rfl) (hpl : (backTo pos (starEach [e2] X.env)).any (·.1) = false := by rfl) :
    SI G an W X (.Tuple elts kk tpos) (.Call (.Name "zip" p) [e, e2] [] pos) (miZip m) := by
  refine PI.imp (pi_zipA hg (by rw [g.mg]; exact hm) ha hs hpl) fun σ H R ⟨env, w, S, hE, hS, q⟩ => ⟨env, w, S, hE, hS, (Pst.bind q).imp (fun xs S1 w1 H1 r1 g1 s1 q1 vs rvs => ?_) fun _ _ _ z => z⟩
  split at q1
  · rename_i ds es
    cases rvs with
    | cons r1 rr => cases rr with
      | cons r2 rn =>
        cases rn
        cases r1 with
        | p r1 => cases r2 with
          | p r2 => cases r1 with
            | lst h n1 x1 k1 => cases r2 with
              | lst h2 n2 x2 k2 => exact ⟨_, _, _, _, rfl, .inl ⟨.inl (.inl h), .inl (.inl h2), by rw [g.K]; exact q1 w1 H1 Grow.refl s1 _ (itr_zip h n1 x1 k1 h2 n2 x2 k2)⟩⟩
  · rename_i ds es
    cases rvs with
    | cons r1 rr => cases rr with
      | cons r2 rn =>
        cases rn
        cases r1 with
        | p r1 => cases r2 with
          | p r2 => cases r1 with
            | tup h k1 => cases r2 with
              | tup h2 k2 => exact ⟨_, _, _, _, rfl, .inr ⟨by rw [g.K]; exact .inl (.inl h), by rw [g.K]; exact .inl (.inl h2), by rw [g.K]; exact q1 w1 H1 Grow.refl s1 _ (itr_zipT (.inl (.inl h)) k1 (.inl (.inl h2)) k2)⟩⟩
  · exact q1.elim

/-! ### for -/
def sForL (g : Tg) (b : Sx) : List Dt → Sx
  | [], env, S => .nx env S
  | d :: r, env, S => match bindT g d env with
    | none => .bad
    | some env1 => match b env1 S with
      | .nx env' S' => sForL g b r env' S'
      | .ct env' S' => sForL g b r env' S'
      | .bk env' S' => .nx env' S'
      | o => o
def sFor (mi : Mi) (g : Tg) (b : Sx) : Sx := fun env S => liftE (mi env S) env fun ds S1 => sForL g b ds env S1
theorem ss_for {k : Nat} {tg it : Expr} {body : List Stmt} {mi : Mi} {tgt : Tg} {mb : Sx} {pos : Pos} (g : Gd G X W k) (hi : SI G an W X tg it mi) (hg : PG X tg (tgOf X.K tgt)) (hb : SB G an W X body mb)
    (hs : ∀ x, foldedSetIterable it X.env x = pure x := by intro _; rfl) : SS G an W X (.For tg it body [] pos) (sFor mi tgt mb) := by
  refine PS.imp (ps_for g.pass g.calm hi hg hb hs) fun D σ H ⟨env, w, S, hE, hS, q⟩ => ⟨env, w, S, hE, hS, (q.lift hE).imp (fun ds S1 w1 H1 r1 g1 s1 q1 J hJ => ?_) fun _ _ _ z => z⟩
  refine ⟨fun i m σ H => ∃ env w S, m = ds.length - i ∧ i ≤ ds.length ∧ Grow w1 H1 w H ∧ EnvR G w H env σ ∧ StoR G an w S H ∧ PsS G an w H (sForL tgt mb (ds.drop i) env S) D W,
    ⟨ds.length, env, w1, S1, rfl, Nat.zero_le _, Grow.refl, hE.mono g1, s1, q1⟩, ?_⟩
  rintro i m σ H ⟨env, w, S, rfl, hi, gr, hE, hS, q⟩
  obtain ⟨hgo, hst⟩ := hJ i w H gr.x
  by_cases hl : i < ds.length
  · obtain ⟨go, yl⟩ := hgo ds[i] (List.getElem?_eq_getElem hl)
    rw [List.drop_eq_getElem_cons hl] at q
    cases eb : bindT tgt ds[i] env with
    | none => simp only [sForL, eb] at q; exact q.elim
    | some env1 =>
      simp only [sForL, eb] at q
      refine .inr ⟨go, fun σ' H' => ∃ env w S, Grow w1 H1 w H' ∧ EnvR G w H' env σ' ∧ StoR G an w S H' ∧ PsS G an w H' (sForL tgt mb (ds.drop (i + 1)) env S) D W, fun σ' H' ⟨env', w', S', a, b, c, d⟩ => ⟨ds.length - (i + 1), by omega, env', w', S', rfl, hl, a, b, c, d⟩, fun x H' y => ?_⟩
      obtain ⟨g2, s2, p⟩ := yl x H' y S hS
      refine bindT_ok g.K eb (hE.mono g2) p fun σ2 hE2 _ => ⟨env1, w, S, hE2, s2, ?_⟩
      cases r : mb env1 S with
      | nx env' S' => rw [r] at q; exact fun w' H2 σ' g3 s e => ⟨env', w', S', (gr.trans g2).trans g3, e, s, PsS.from q (g2.trans g3)⟩
      | ct env' S' => rw [r] at q; exact fun w' H2 σ' g3 s e => ⟨env', w', S', (gr.trans g2).trans g3, e, s, PsS.from q (g2.trans g3)⟩
      | bk env' S' => rw [r] at q; exact PsS.from (D := D) (r := .nx env' S') q g2
      | rt x S' => rw [r] at q; exact PsS.from (D := D) (r := .rt x S') q g2
      | exc c p env' S' => rw [r] at q; exact PsS.from (D := D) (r := .exc c p env' S') q g2
      | bad => rw [r] at q; exact q.elim
  · have e : i = ds.length := by omega
    subst e
    rw [List.drop_length] at q
    exact .inl ⟨hst (Nat.le_refl _), q w H σ Grow.refl hS hE⟩

/-! ### comprehensions -/
def wipeE (env : Slo) : List Nat → Slo
  | [] => env
  | v :: vs => (wipeE env vs).set v none
theorem EnvR.none {env : Slo} {σ : L2.St} (i : Nat) (r : EnvR G w H env σ) : EnvR G w H (env.set i Option.none) (σ.set i Option.none) := by
  refine ⟨by simpa using r.len, fun j y e => ?_⟩
  by_cases q : i = j
  · subst q
    by_cases hl : i < env.length
    · rw [List.getElem?_set_self hl] at e; cases e
    · rw [List.getElem?_eq_none (by simpa using hl)] at e; cases e
  · rw [List.getElem?_set_ne q] at e
    obtain ⟨u, h1, h2⟩ := r.at' j y e
    exact ⟨u, by rw [List.getElem?_set_ne q]; exact h1, h2⟩
theorem EnvR.wipe {env : Slo} {σ : L2.St} (r : EnvR G w H env σ) : ∀ vs : List Nat, EnvR G w H (wipeE env vs) (L2.wipe σ vs)
  | [] => r
  | v :: vs => (EnvR.wipe r vs).none v
def lcGo (g : Tg) (vs : List Nat) (mt : Mb) (me : Mx) (env : Slo) : List Dt → Sto → Rz (List Dt)
  | [], S => .ok [] S
  | d :: r, S => match bindT g d (wipeE env vs) with
    | none => .bad
    | some env1 => match mt env1 S with
      | .ok b S1 => if b = true then (match me env1 S1 with
          | .ok (.p x) S2 => (match lcGo g vs mt me env r S2 with
            | .ok xs S3 => .ok (x :: xs) S3
            | _ => .bad)
          | _ => .bad) else lcGo g vs mt me env r S1
      | _ => .bad
def miLc (mi : Mi) (g : Tg) (vs : List Nat) (mt : Mb) (me : Mx) : Mi := fun env S => (mi env S).bind fun ds S1 => if line ds.length then (match lcGo g vs mt me env ds S1 with
  | .ok xs S2 => .ok xs S2
  | _ => .bad) else .bad
def mbYes : Mb := fun _ S => .ok true S
/-- nothing may leave a block -/
abbrev WF : WX := fun _ _ _ _ => False
theorem Gd.blk {k : Nat} (g : Gd G X W k) (s : Shared) (H : Hp) (scope : Scope) (cenv : PySem.Env) (fp : List Addr) : Gd G (X.blk s H scope cenv fp) WF k :=
  ⟨g.P, g.w, g.K, g.mg, g.base, g.calm, g.nd, fun _ _ ⟨_, _, _, _, _, _, _, _, _, _, _, _, _, _, _, _, z⟩ => z.elim, g.room, PassesOwn.never⟩
theorem pts_yes : ∀ {X : Cx}, PTs X [] (tTe G an W mbYes) := ⟨fun pins s σ H Q I h => by
  obtain ⟨env, w, S, hE, hS, q⟩ := h
  exact (pts_nil).run pins s σ H Q I (q w H Grow.refl hS)⟩
theorem pts_if {X : Cx} {c : Expr} {m : Mb} (h : ST G an W X c m) : PTs X [c] (tTe G an W m) := pts_one h
/-- an address that is no longer minded -/
def delH (H : Hp) (a : Addr) : Hp := fun b => if b = a then Option.none else H b
theorem delH_ne {a b : Addr} (h : b ≠ a) : delH H a b = H b := if_neg h
theorem delH_same {a : Addr} : delH H a a = Option.none := if_pos rfl
theorem upd_del {a : Addr} {o : HO} (h : H a = some o) : upd (delH H a) a o = H := by
  funext b
  unfold upd
  split
  · rename_i e; rw [e, h]
  · rename_i e; exact delH_ne e
abbrev Wd.no (w : Wd) (a : Addr) : Wd := ⟨w.rho, w.xi.filter fun b => decide (b ≠ a)⟩
theorem sqT_del {a b : Addr} {u : HO} {xs : List V} (h : H a = some u) (c : Cel u) (t : SqT G.K H b xs) : SqT G.K (delH H a) b xs := by
  rcases t with (t | ⟨o, t⟩) | t
  · exact .inl (.inl (by rw [delH_ne (fun e => by rw [e, h] at t; cases t; exact c)]; exact t))
  · exact .inl (.inr ⟨o, by rw [delH_ne (fun e => by rw [e, h] at t; cases t; exact c)]; exact t⟩)
  · exact .inr t
mutual
theorem Per.del {a : Addr} {u : HO} (h : H a = some u) (c : Cel u) (hx : a ∈ w.xi) : ∀ {d : Dt} {v : V}, Per G w H d v → Per G (w.no a) (delH H a) d v
  | _, _, .non => .non
  | _, _, .bl b => .bl b
  | _, _, .int i => .int i
  | _, _, .str s => .str s
  | _, _, .tup t k => .tup (by rw [delH_ne (fun e => by rw [e, h] at t; cases t; exact c)]; exact t) (PerL.del h c hx k)
  | _, _, .lst (a := b) t n1 n2 k => .lst (by rw [delH_ne (fun e => n2 (by rw [e]; exact hx))]; exact t) n1 (fun z => n2 (List.mem_filter.mp z).1) (PerL.del h c hx k)
  | _, _, .frz t k => .frz (by rw [delH_ne (fun e => by rw [e, h] at t; cases t; exact c)]; exact t) (PerL.del h c hx k)
  | _, _, .wri t k => .wri t (PerL.del h c hx k)
  | _, _, .tux t hd k => .tux (by rw [delH_ne (fun e => by rw [e, h] at t; cases t; exact c)]; exact t) hd (PerL.del h c hx k)
  | _, _, .dcx t e k => .dcx (by rw [delH_ne (fun e => by rw [e, h] at t; cases t; exact c)]; exact t) e (PerL.del h c hx k)
  | _, _, .dct t e k => .dct (by rw [delH_ne (fun e => by rw [e, h] at t; cases t; exact c)]; exact t) e (PerL.del h c hx k)
  | _, _, .fn i => .fn i
  | _, _, .dtt t e k => .dtt (by rw [delH_ne (fun e => by rw [e, h] at t; cases t; exact c)]; exact t) e (PerL.del h c hx k)
  | _, _, .obj t n1 n2 e k => .obj (by rw [delH_ne (fun e => n2 (by rw [e]; exact hx))]; exact t) n1 (fun z => n2 (List.mem_filter.mp z).1) e (PerL.del h c hx k)
theorem PerL.del {a : Addr} {u : HO} (h : H a = some u) (c : Cel u) (hx : a ∈ w.xi) : ∀ {ds : List Dt} {vs : List V}, PerL G w H ds vs → PerL G (w.no a) (delH H a) ds vs
  | _, _, .nil => .nil
  | _, _, .cons p k => .cons (Per.del h c hx p) (PerL.del h c hx k)
end
theorem tb_del (t : G.tbs H) {a : Addr} {u : HO} (h : H a = some u) (c : Cel u) : G.tbs (delH H a) :=
  G.tbm _ _ (fun b o e n => by rw [delH_ne (fun z => by rw [z, h] at e; cases e; exact n c)]; exact e) (fun b ps e => by
    by_cases z : b = a
    · subst z; rw [delH_same] at e; cases e
    · rw [delH_ne z] at e; exact e) t
theorem CeR.del {a b : Addr} {u : HO} {d : Dt} (h : H a = some u) (c : Cel u) (hx : a ∈ w.xi) (nb : b ≠ a) (k : CeR G w H d b) : CeR G (w.no a) (delH H a) d b := by
  cases k with
  | lst t k => exact .lst (by rw [delH_ne nb]; exact t) (k.del h c hx)
  | dct t e k => exact .dct (by rw [delH_ne nb]; exact t) e (k.del h c hx)
  | dtt t e k => exact .dtt (by rw [delH_ne nb]; exact t) e (k.del h c hx)
  | obj t e k => exact .obj (by rw [delH_ne nb]; exact t) e (k.del h c hx)
theorem StoR.del {a : Addr} {u : HO} (s : StoR G an w S H) (h : H a = some u) (c : Cel u) (hx : a ∈ w.xi) (hp : an.p (w.no a) (delH H a)) : StoR G an (w.no a) S (delH H a) := by
  refine ⟨s.len, s.nd, fun n b e => ?_, fun b m => ?_, hp, tb_del s.tb h c⟩
  · obtain ⟨d, h1, k⟩ := s.at' n b e
    exact ⟨d, h1, k.del h c hx fun z => (s.ax a hx).1 (by rw [← z]; exact List.mem_of_getElem? e)⟩
  · obtain ⟨m1, m2⟩ := List.mem_filter.mp m
    obtain ⟨h1, o, h2, co⟩ := s.ax b m1
    exact ⟨h1, o, by rw [delH_ne (of_decide_eq_true m2)]; exact h2, co⟩
theorem Grow.del {a : Addr} {u : HO} (g : Grow w H w' H') (ha : H a = Option.none) (hn : a ∉ w.xi) (h : H' a = some u) : Grow w H (w'.no a) (delH H' a) :=
  ⟨g.pre, fun b m => List.mem_filter.mpr ⟨g.xi b m, decide_eq_true fun e => hn (by rw [← e]; exact m)⟩, fun b m n => g.newx b (List.mem_filter.mp m).1 n, g.new, fun b o e n nt => by rw [delH_ne (ne_of_none e ha)]; exact g.keep' b o e n nt,
    fun b xs e => by rw [delH_ne (ne_of_none e ha)]; exact g.tups b xs e, fun b o u e => by rw [delH_ne (ne_of_none e ha)]; exact g.frzs b o u e⟩
/-- a list in the making is put aside -/
abbrev Wd.aside (w : Wd) (a : Addr) : Wd := ⟨w.rho, a :: w.xi⟩
theorem Grow.aside {a : Addr} {o : HO} (s : StoR G an w S H) (h : H a = Option.none) : Grow w H (w.aside a) (upd H a o) :=
  ⟨⟨[], by simp⟩, fun b m => List.mem_cons_of_mem _ m, fun b m n => by
    rcases List.mem_cons.mp m with e | e
    · rw [e]; exact ⟨.of h, s.out h⟩
    · exact absurd e n, fun b m n => absurd m n, fun b u e _ _ => by rw [upd_ne (ne_of_none e h)]; exact e, fun b xs e => by rw [upd_ne (ne_of_none e h)]; exact e, fun b u v e => by rw [upd_ne (ne_of_none e h)]; exact e⟩
theorem StoR.aside {a : Addr} {o : HO} (s : StoR G an w S H) (h : H a = Option.none) (co : Cel o) : StoR G an (w.aside a) S (upd H a o) :=
  ⟨s.len, s.nd, fun n b e => by
    obtain ⟨d, h1, k⟩ := s.at' n b e
    exact ⟨d, h1, k.fresh (Grow.aside s h) h⟩, fun b m => by
    rcases List.mem_cons.mp m with e | e
    · rw [e]; exact ⟨s.out h, o, upd_same, co⟩
    · obtain ⟨h1, u, h2, cu⟩ := s.ax b e
      exact ⟨h1, u, by rw [upd_ne (ne_of_none h2 h)]; exact h2, cu⟩, an.m _ _ _ _ (Grow.aside s h) s.anc, tb_upd s.tb h co.ntbl⟩
/-- .. grows -/
theorem Per.put {a : Addr} {u o : HO} (h : H a = some u) (cu : Cel u) (hx : a ∈ w.xi) : ∀ {d : Dt} {v : V}, Per G w H d v → Per G w (upd H a o) d v := by
  have ne : ∀ {b : Addr} {o2 : HO}, H b = some o2 → ¬ Cel o2 → upd H a o b = some o2 := fun {b o2} e n => by
    rw [upd_ne (fun z => by rw [z, h] at e; cases e; exact n cu)]; exact e
  have nx : ∀ {b : Addr} {o2 : HO}, H b = some o2 → b ∉ w.xi → upd H a o b = some o2 := fun {b o2} e n => by
    rw [upd_ne (fun z => n (by rw [z]; exact hx))]; exact e
  intro d v p
  refine Per.rec (motive_1 := fun d v _ => Per G w (upd H a o) d v) (motive_2 := fun ds vs _ => PerL G w (upd H a o) ds vs) .non (fun b => .bl b) (fun i => .int i) (fun s => .str s) (fun t _ k => .tup (ne t (fun z => z)) k) (fun t n1 n2 _ k => .lst (nx t n2) n1 n2 k)
    (fun t _ k => .frz (ne t (fun z => z)) k) (fun t _ k => .wri t k) (fun t e _ k => .dct (ne t (fun z => z)) e k) (fun i => .fn i) (fun t e _ k => .dtt (ne t (fun z => z)) e k) (fun t n1 n2 e _ k => .obj (nx t n2) n1 n2 e k) (fun t e _ k => .dcx (ne t (fun z => z)) e k) (fun t hd _ k => .tux (ne t (fun z => z)) hd k) .nil (fun _ _ p k => .cons p k) p
theorem PerL.put {a : Addr} {u o : HO} (h : H a = some u) (cu : Cel u) (hx : a ∈ w.xi) : ∀ {ds : List Dt} {vs : List V}, PerL G w H ds vs → PerL G w (upd H a o) ds vs
  | _, _, .nil => .nil
  | _, _, .cons p k => .cons (p.put h cu hx) (PerL.put h cu hx k)
theorem CeR.put {a b : Addr} {u o : HO} {d : Dt} (h : H a = some u) (cu : Cel u) (hx : a ∈ w.xi) (nb : b ≠ a) (k : CeR G w H d b) : CeR G w (upd H a o) d b := by
  cases k with
  | lst t k => exact .lst (by rw [upd_ne nb]; exact t) (k.put h cu hx)
  | dct t e k => exact .dct (by rw [upd_ne nb]; exact t) e (k.put h cu hx)
  | dtt t e k => exact .dtt (by rw [upd_ne nb]; exact t) e (k.put h cu hx)
  | obj t e k => exact .obj (by rw [upd_ne nb]; exact t) e (k.put h cu hx)
theorem StoR.put {a : Addr} {u o : HO} (s : StoR G an w S H) (h : H a = some u) (cu : Cel u) (co : Cel o) (hx : a ∈ w.xi) (hp : an.p w (upd H a o)) : StoR G an w S (upd H a o) :=
  ⟨s.len, s.nd, fun n b e => by
    obtain ⟨d, h1, k⟩ := s.at' n b e
    exact ⟨d, h1, k.put h cu hx fun z => (s.ax a hx).1 (by rw [← z]; exact List.mem_of_getElem? e)⟩, fun b m => by
    obtain ⟨h1, u2, h2, c2⟩ := s.ax b m
    by_cases e : b = a
    · rw [e]; exact ⟨(s.ax a hx).1, _, upd_same, co⟩
    · exact ⟨h1, u2, by rw [upd_ne e]; exact h2, c2⟩, hp, tb_put s.tb h cu co.ntbl⟩
theorem Grow.put {a : Addr} {o : HO} (g : Grow w H w' H') (ha : H a = Option.none) : Grow w H w' (upd H' a o) :=
  ⟨g.pre, g.xi, g.newx, g.new, fun b o e n nt => by rw [upd_ne (ne_of_none e ha)]; exact g.keep' b o e n nt,
    fun b xs e => by rw [upd_ne (ne_of_none e ha)]; exact g.tups b xs e, fun b o u e => by rw [upd_ne (ne_of_none e ha)]; exact g.frzs b o u e⟩
theorem GrowX.put {a : Addr} {u o : HO} (g : GrowX w H w' H') (h : H a = some u) (cu : Cel u) (hx : a ∈ w.xi) : GrowX w H w' (upd H' a o) :=
  ⟨g.pre, g.xi, g.newx, g.new, fun b o e n nx nt => by rw [upd_ne (fun z => nx (by rw [z]; exact hx))]; exact g.keep' b o e n nx nt,
    fun b xs e => by rw [upd_ne (fun z => by rw [z, h] at e; cases e; exact cu)]; exact g.tups b xs e, fun b o u e => by rw [upd_ne (fun z => by rw [z, h] at e; cases e; exact cu)]; exact g.frzs b o u e⟩
end
end EV

set_option Elab.async false
set_option linter.all false
set_option maxRecDepth 100000
/-! EvD: comprehensions by their rule, cells that change, calls, defs, raise. -/
namespace EV
open PySem L2

section
variable {G : Stat} {an : An} {w w' : Wd} {H H' : Hp} {S S' : Sto} {W : WX} {X : Cx}
theorem sf_lc {k : Nat} {elt tg iter : Expr} {ifs : List Expr} {scope : Scope} {own : List (Str × Nat)} {pos : Pos} {mi : Mi} {tgt : Tg} {mt : Mb} {me : Mx} (g : Gd G X W k) (hi : SI G an W X tg iter mi) (ok : BlkOk X.N X.env.scope scope own)
    (hsl : ∀ i ∈ tgt.slots, i ∈ own.map (·.2))
    (hg : ∀ (s : Shared) (H : Hp) (C : Addr) (cl : List (Str × Addr)) (fp : List Addr), PG (X.blk s H scope (compEnvC scope cl C X.env) fp) tg (tgOf X.K tgt))
    (ht : ∀ (s : Shared) (H : Hp) (C : Addr) (cl : List (Str × Addr)) (fp : List Addr), PTs (X.blk s H scope (compEnvC scope cl C X.env) fp) ifs (tTe G an WF mt))
    (he : ∀ (s : Shared) (H : Hp) (C : Addr) (cl : List (Str × Addr)) (fp : List Addr), SE G an WF (X.blk s H scope (compEnvC scope cl C X.env) fp) elt me)
    (hs : ∀ x, foldedSetIterable iter X.env x = pure x := by intro _; rfl) : SF G an W X (.ListComp elt [⟨tg, iter, ifs, 0⟩] scope pos) (miLc mi tgt (own.map (·.2)) mt me) := by
  obtain ⟨vs, hvs⟩ : ∃ vs, vs = own.map (·.2) := ⟨_, rfl⟩
  rw [← hvs]
  rw [← hvs] at hsl
  refine PE.imp (pe_lc g.calm g.nd hi ok hg ht he hs) fun σ H Q ⟨env, w, S, hE, hS, q⟩ => ⟨env, w, S, hE, hS, (Pst.bind q).imp (fun ds S1 w1 H1 r1 g1 s1 q1 J hJ A hA => ?_) fun _ _ _ z => z⟩
  rw [← hvs]
  split at q1
  · rename_i hline
    cases hz : lcGo tgt vs mt me env ds S1 with
    | bad => rw [hz] at q1; exact q1.elim
    | exc c p S2 => rw [hz] at q1; exact q1.elim
    | ok zs Sf =>
      rw [hz] at q1
      have hl : ds.length ≤ sizeLine := line_ok hline
      refine ⟨fun i m H => ∃ (w : Wd) (S : Sto) (acc : List V) (accd rest : List Dt), m = ds.length - i ∧ i ≤ ds.length ∧ Grow w1 H1 w H ∧ A ∈ w.xi ∧ StoR G an w S H ∧ H A = some (.lst acc) ∧ PerL G w H accd acc ∧ accd.length ≤ i ∧ lcGo tgt vs mt me env (ds.drop i) S = .ok rest Sf ∧ accd ++ rest = zs,
        ⟨ds.length, w1.aside A, S1, [], [], zs, rfl, Nat.zero_le _, Grow.aside s1 hA, List.mem_cons_self, s1.aside hA trivial, upd_same, .nil, Nat.le_refl _, hz, rfl⟩, ?_⟩
      rintro i m H ⟨w, S, acc, accd, rest, rfl, hi, gr, hx, hS, hH, kk, hlen, hgo, hcat⟩
      obtain ⟨jgo, jst⟩ := hJ i w H gr.x
      by_cases hlt : i < ds.length
      · obtain ⟨go, yl⟩ := jgo ds[i] (List.getElem?_eq_getElem hlt)
        rw [List.drop_eq_getElem_cons hlt] at hgo
        unfold lcGo at hgo
        cases eb : bindT tgt ds[i] (wipeE env vs) with
        | none => rw [eb] at hgo; cases hgo
        | some env1 =>
          simp only [eb] at hgo
          cases et : mt env1 S with
          | bad => rw [et] at hgo; cases hgo
          | exc c p S2 => rw [et] at hgo; cases hgo
          | ok b S2 =>
            simp only [et] at hgo
            refine .inr ⟨go, fun H' => ∃ (w : Wd) (S : Sto) (acc : List V) (accd rest : List Dt), Grow w1 H1 w H' ∧ A ∈ w.xi ∧ StoR G an w S H' ∧ H' A = some (.lst acc) ∧ PerL G w H' accd acc ∧ accd.length ≤ i + 1 ∧ lcGo tgt vs mt me env (ds.drop (i + 1)) S = .ok rest Sf ∧ accd ++ rest = zs,
              fun H' ⟨w, S, acc, accd, rest, a1, a2, a3, a4, a5, a6, a7, a8⟩ => ⟨ds.length - (i + 1), by omega, w, S, acc, accd, rest, rfl, hlt, a1, a2, a3, a4, a5, a6, a7, a8⟩, fun x H' y => ?_⟩
            obtain ⟨g2, s2, p⟩ := yl x H' y S hS
            refine bindT_ok g.K eb ((hE.mono ((g1.trans gr).trans g2)).wipe vs) p fun σ2 hE2 hw => ⟨?_, env1, w, S, hE2, s2, ?_⟩
            · rw [hw vs hsl]
              exact wipe_sub fun _ h => h
            · rw [et]
              intro w3 H3 g3 s3
              have ac : ∀ {w' H'}, Grow w H w' H' → H' A = some (.lst acc) := fun gg => gg.keep _ _ hH (hS.ax A hx).1
              cases b with
              | false =>
                have g' := g2.trans g3
                exact ⟨w3, S2, acc, accd, rest, gr.trans g', g'.xi _ hx, s3, ac g', kk.mono g', Nat.le_succ_of_le hlen, hgo, hcat⟩
              | true =>
                simp only [if_true] at hgo
                cases em : me env1 S2 with
                | bad => rw [em] at hgo; cases hgo
                | exc c p S3 => rw [em] at hgo; cases hgo
                | ok x S3 =>
                  cases x with
                  | loc n => rw [em] at hgo; cases hgo
                  | p d =>
                    simp only [em] at hgo
                    cases er : lcGo tgt vs mt me env (ds.drop (i + 1)) S3 with
                    | bad => rw [er] at hgo; cases hgo
                    | exc c p S3 => rw [er] at hgo; cases hgo
                    | ok rest2 Sf2 =>
                      rw [er] at hgo
                      cases hgo
                      refine ⟨env1, w3, S2, hE2.mono g3, s3, ?_⟩
                      rw [em]
                      intro w4 H4 g4 s4 v rv
                      have g' := (g2.trans g3).trans g4
                      have hA4 := ac g'
                      have hx4 := g'.xi _ hx
                      cases rv with
                      | p rv =>
                        refine ⟨acc, hA4, ?_, w4, S3, acc ++ [v], accd ++ [d], rest2, (gr.trans g').put hA, hx4, s4.put hA4 trivial trivial hx4 (an.m _ _ _ _ ((gr.trans g').put hA) s1.anc), upd_same, ((kk.mono g').append (.cons rv .nil)).put hA4 trivial hx4, by simp; omega, er, by rw [List.append_assoc]; exact hcat⟩
                        rw [← kk.length]
                        omega
      · have e : i = ds.length := by omega
        subst e
        rw [List.drop_length] at hgo
        cases hgo
        rw [List.append_nil] at hcat
        subst hcat
        have gd := gr.del hA (s1.outx hA) hH
        have q2 := q1 _ _ gd (hS.del hH trivial hx (an.m _ _ _ _ gd s1.anc)) A acc delH_same (kk.del hH trivial hx)
        rw [upd_del hH] at q2
        exact .inl ⟨jst (Nat.le_refl _), q2⟩
  · exact q1.elim

/-! ### a cell is written -/
theorem Grow.write (s : StoR G an w S H) {n : Nat} {a : Addr} {o : HO} (hn : w.rho[n]? = some a) : Grow w H w (upd H a o) := by
  obtain ⟨d, _, k⟩ := s.at' n a hn
  obtain ⟨u, h2, cu⟩ := k.ho
  have ne : ∀ {b : Addr} {o : HO}, H b = some o → ¬ Cel o → b ≠ a := fun {b o} e n z => by rw [z, h2] at e; cases e; exact n cu
  exact ⟨⟨[], by simp⟩, fun _ m => m, fun b m n => absurd m n, fun b m n => absurd m n, fun b u e nb _ => by rw [upd_ne (fun z => nb (by rw [z]; exact List.mem_of_getElem? hn))]; exact e,
    fun b xs e => by rw [upd_ne (ne e (fun z => z))]; exact e, fun b o u e => by rw [upd_ne (ne e (fun z => z))]; exact e⟩
theorem StoR.writeO (s : StoR G an w S H) {n : Nat} {a : Addr} {d : Dt} {o : HO} (hn : w.rho[n]? = some a) (co : Cel o) (k : CeR G w (upd H a o) d a) : StoR G an w (S.set n d) (upd H a o) := by
  have g := Grow.write (o := o) s hn
  have hl := (List.getElem?_eq_some_iff.mp hn).1
  refine ⟨by simpa using s.len, s.nd, fun m b e => ?_, fun b m => ⟨(s.ax b m).1, ?_⟩, an.m _ _ _ _ g s.anc, (let ⟨_, _, c⟩ := s.at' n a hn; let ⟨_, h2, cu⟩ := c.ho; tb_put s.tb h2 cu co.ntbl)⟩
  · by_cases q : n = m
    · subst q
      rw [hn] at e
      cases e
      exact ⟨d, by rw [List.getElem?_set_self (by rw [s.len]; exact hl)], k⟩
    · obtain ⟨es, h1, c⟩ := s.at' m b e
      have nb : b ≠ a := fun z => q (by
        obtain ⟨h1, e1⟩ := List.getElem?_eq_some_iff.mp hn
        obtain ⟨h2, e2⟩ := List.getElem?_eq_some_iff.mp e
        exact (List.getElem_inj s.nd).mp (e1.trans (z.symm.trans e2.symm)))
      exact ⟨es, by rw [List.getElem?_set_ne q]; exact h1, c.mono g (upd_ne nb)⟩
  · obtain ⟨u, e, cu⟩ := (s.ax b m).2
    exact ⟨u, by rw [upd_ne (fun z => (s.ax b m).1 (by rw [z]; exact List.mem_of_getElem? hn))]; exact e, cu⟩
theorem StoR.write (s : StoR G an w S H) {n : Nat} {a : Addr} {ds : List Dt} {xs : List V} (hn : w.rho[n]? = some a) (k : PerL G w H ds xs) : StoR G an w (S.set n (.lst ds)) (upd H a (.lst xs)) :=
  s.writeO hn trivial (.lst upd_same (k.mono (Grow.write s hn)))
/-- a list cell -/
theorem StoR.lst (s : StoR G an w S H) {n : Nat} {a : Addr} {ds : List Dt} (hn : w.rho[n]? = some a) (e : S[n]? = some (.lst ds)) : ∃ xs, H a = some (.lst xs) ∧ PerL G w H ds xs := by
  obtain ⟨d, h1, c⟩ := s.at' n a hn
  rw [e] at h1
  cases h1
  cases c with
  | lst h k => exact ⟨_, h, k⟩
def isLstC : Option Dt → Bool
  | some (.lst _) => true
  | _ => false
theorem isLstC_eq {o : Option Dt} (h : isLstC o = true) : ∃ ds, o = some (.lst ds) := by
  unfold isLstC at h
  split at h
  · exact ⟨_, rfl⟩
  · cases h
def mApp (mo : Mx) (ma : Ma) : Mx := fun env S => (mo env S).bind fun x S1 => match x with
  | .loc n => if isLstC S1[n]? = true then (ma env S1).bind fun ys S2 => match ys with
    | [.p d] => (match S2[n]? with
      | some (.lst ds) => if ds.length < 16777216 then .ok (.p .non) (S2.set n (.lst (ds ++ [d]))) else .bad
      | _ => .bad)
    | _ => .bad else .bad
  | _ => .bad
theorem se_app {k : Nat} {e : Expr} {mo : Mx} {ma : Ma} (g : Gd G X W k) (h : PE X e (tBM X.K "list" rAppend (tM G an W mo) (tAr G an W ma))) : SE G an W X e (mApp mo ma) := by
  refine PE.imp h fun σ H Q ⟨env, w, S, hE, hS, q⟩ => ⟨env, w, S, hE, hS, (Pst.bind q).imp (fun x S1 w1 H1 r1 g1 s1 q1 v rv => ?_) fun _ _ _ z => z⟩
  cases rv with
  | p h => exact q1.elim
  | @loc n a hn =>
    dsimp only at q1
    split at q1
    · rename_i hc
      obtain ⟨ds, e1⟩ := isLstC_eq hc
      obtain ⟨xs, h2, h3⟩ := s1.lst hn e1
      refine ⟨.inl ⟨rfl, xs, .inl (.inl h2)⟩, env, w1, S1, hE.mono g1, s1, (Pst.bind q1).imp (fun ys S2 w2 H2 r2 g2 s2 q2 vs rvs => ?_) fun _ _ _ z => z⟩
      obtain ⟨t, et⟩ := g2.pre
      have hn2 : w2.rho[n]? = some a := by rw [et, List.getElem?_append_left (List.getElem?_eq_some_iff.mp hn).1]; exact hn
      split at q2
      · rename_i d
        split at q2
        · rename_i ds2 e2
          obtain ⟨xs2, f2, f3⟩ := s2.lst hn2 e2
          split at q2
          · rename_i hlt
            cases rvs with
            | cons p1 pn =>
              cases pn
              cases p1 with
              | p p1 => exact ⟨a, xs2, _, rfl, rfl, f2, by rw [← f3.length, sizeLine_eq]; exact hlt, q2 w2 _ (Grow.write s2 hn2) (s2.write hn2 (f3.append (.cons p1 .nil))) _ (.p .non)⟩
          · exact q2.elim
        · exact q2.elim
      · exact q2.elim
    · exact q1.elim
def mSetI (mo mi me : Mx) : Slo → Sto → Rz Unit := fun env S => (me env S).bind fun v S1 => (mo env S1).bind fun x S2 => (mi env S2).bind fun y S3 => match v, x, y with
  | .p d, .loc n, .p (.int i) => (match S3[n]? with
    | some (.lst ds) => (match ixN ds.length i with
      | some j => .ok () (S3.set n (.lst (ds.set j d)))
      | none => .bad)
    | _ => .bad)
  | _, _, _ => .bad
def sSetI (mo mi me : Mx) : Sx := fun env S => liftE (mSetI mo mi me env S) env fun _ S1 => .nx env S1
theorem ss_seti {st : Stmt} {mo mi me : Mx} (h : PS X st (tAsg (tM G an W me) (gSub (tM G an W mo) (tM G an W mi) rSetL))) : SS G an W X st (sSetI mo mi me) := by
  refine PS.imp h fun D σ H ⟨env, w, S, hE, hS, q⟩ => ⟨env, w, S, hE, hS, (Pst.bind (q.lift hE)).imp (fun v S1 w1 H1 r1 g1 s1 q1 v' rv => ?_) fun _ _ _ z => z⟩
  refine ⟨env, w1, S1, hE.mono g1, s1, (Pst.bind q1).imp (fun x S2 w2 H2 r2 g2 s2 q2 x' rx => ?_) fun _ _ _ z => z⟩
  refine ⟨env, w2, S2, (hE.mono g1).mono g2, s2, (Pst.bind q2).imp (fun y S3 w3 H3 r3 g3 s3 q3 y' ry => ?_) fun _ _ _ z => z⟩
  split at q3
  · rename_i d n i
    cases rv with
    | p pv => cases rx with
      | @loc _ a hn => cases ry with
        | p pi =>
          cases pi
          obtain ⟨t, et⟩ := g3.pre
          have hn2 : w3.rho[n]? = some a := by rw [et, List.getElem?_append_left (List.getElem?_eq_some_iff.mp hn).1]; exact hn
          split at q3
          · rename_i ds e1
            obtain ⟨xs, f2, f3⟩ := s3.lst hn2 e1
            split at q3
            · rename_i j hj
              have gw := Grow.write (o := .lst (xs.set j v')) s3 hn2
              exact ⟨a, xs, i, j, rfl, rfl, f2, by rw [← f3.length]; exact hj, q3 w3 _ gw (s3.write hn2 (f3.set j ((pv.mono g2).mono g3))) w3 _ σ Grow.refl (s3.write hn2 (f3.set j ((pv.mono g2).mono g3))) ((((hE.mono g1).mono g2).mono g3).mono gw)⟩
            · exact q3.elim
          · exact q3.elim
  · exact q3.elim

/-! ### the world of the caller again -/
theorem Grow.cut (g : Grow w H w' H') : Grow w H w H' := ⟨⟨[], by simp⟩, fun _ m => m, fun b m n => absurd m n, fun b m n => absurd m n, g.keep', g.tups, g.frzs⟩
theorem Per.cut (g : Grow w H w' H') {d : Dt} {v : V} (p : Per G w' H' d v) : Per G w H' d v := by
  obtain ⟨t, et⟩ := g.pre
  have n1 : ∀ {a}, a ∉ w'.rho → a ∉ w.rho := fun {a} h m => h (by rw [et]; exact List.mem_append_left _ m)
  refine Per.rec (motive_1 := fun d v _ => Per G w H' d v) (motive_2 := fun ds vs _ => PerL G w H' ds vs) .non (fun b => .bl b) (fun i => .int i) (fun s => .str s) (fun t _ k => .tup t k) (fun t m1 m2 _ k => .lst t (n1 m1) (fun m => m2 (g.xi _ m)) k)
    (fun t _ k => .frz t k) (fun t _ k => .wri t k) (fun t e _ k => .dct t e k) (fun i => .fn i) (fun t e _ k => .dtt t e k) (fun t m1 m2 e _ k => .obj t (n1 m1) (fun m => m2 (g.xi _ m)) e k) (fun t e _ k => .dcx t e k) (fun t hd _ k => .tux t hd k) .nil (fun _ _ p k => .cons p k) p
theorem PerL.cut (g : Grow w H w' H') : ∀ {ds : List Dt} {vs : List V}, PerL G w' H' ds vs → PerL G w H' ds vs
  | _, _, .nil => .nil
  | _, _, .cons p k => .cons (p.cut g) (PerL.cut g k)
theorem CeR.cut (g : Grow w H w' H') {d : Dt} {a : Addr} (c : CeR G w' H' d a) : CeR G w H' d a := by
  cases c with
  | lst h k => exact .lst h (k.cut g)
  | dct h e k => exact .dct h e (k.cut g)
  | dtt h e k => exact .dtt h e (k.cut g)
  | obj h e k => exact .obj h e (k.cut g)
/-- what is whole may be handed out as data -/
def full : Dt → Bool
  | .lst _ => true
  | .obj _ m _ => m == 0
  | _ => false
theorem CeR.data {d : Dt} {a : Addr} (c : CeR G w H d a) (f : full d = true) (n1 : a ∉ w.rho) (n2 : a ∉ w.xi) : Per G w H d (.ref a) := by
  cases c with
  | lst h k => exact .lst h n1 n2 k
  | dct h e k => cases f
  | dtt h e k => cases f
  | @obj _ dx c m vs ds h e k =>
    have f : (m == 0) = true := f
    obtain rfl : m = 0 := by simpa using f
    exact .obj h n1 n2 (by simpa using e) k
theorem StoR.cut (s : StoR G an w S H) (g : Grow w H w' H') (s' : StoR G an w' S' H') : StoR G an w (S'.take S.length) H' := by
  obtain ⟨t, et⟩ := g.pre
  refine ⟨?_, s.nd, fun n a e => ?_, fun a m => ⟨(s.ax a m).1, (s'.ax a (g.xi a m)).2⟩, an.m _ _ _ _ g.cut s.anc, s'.tb⟩
  · rw [List.length_take, s'.len, et, List.length_append, s.len]; omega
  · have hn := (List.getElem?_eq_some_iff.mp e).1
    obtain ⟨d, h1, c⟩ := s'.at' n a (by rw [et, List.getElem?_append_left hn]; exact e)
    exact ⟨d, by rw [List.getElem?_take_of_lt (by rw [s.len]; exact hn)]; exact h1, c.cut g⟩
theorem ExR.cut (g : Grow w H w' H') {c : Nat} {p : Dt} {cls : Value} {dd : Option Addr} (x : ExR G w' H' c p cls dd) : ExR G w H' c p cls dd := by
  refine ⟨x.cls, ?_⟩
  have := x.pay
  cases e : G.cf c with
  | none => rw [e] at this; exact this
  | some f =>
    rw [e] at this
    obtain ⟨d, v, h1, h2, h3⟩ := this
    exact ⟨d, v, h1, h2, h3.cut g⟩

/-! ### defs -/
def trunc (n : Nat) (x : Vl) (S : Sto) : Rz Vl := match x with
  | .p d => .ok (.p d) (S.take n)
  | .loc k => if k < n then .ok (.loc k) (S.take n) else match S[k]? with
    | some d => if full d = true then .ok (.p d) (S.take n) else .bad
    | none => .bad
def fnSem (N : Nat) (m : Sx) (xs : List Vl) (S : Sto) : Rz Vl := match m (xs.map some ++ List.replicate (N - xs.length) none) S with
  | .rt x S' => trunc S.length x S'
  | .nx _ S' => .ok (.p .non) (S'.take S.length)
  | .exc c p _ S' => .exc c p (S'.take S.length)
  | _ => .bad
abbrev Fs := List Vl → Sto → Rz Vl
def an0 : An := ⟨fun _ _ => True, fun _ _ _ _ _ _ => trivial⟩
def spOf (G : Stat) (n : Nat) (f : Fs) : Sp := fun vs H Q E => ∃ xs w S, RvL G w H xs vs ∧ xs.length = n ∧ StoR G an0 w S H ∧ Pst G an0 w H (f xs S) (fun x _ w' H' => ∀ v, Rv G w' H' x v → Q v H') E
theorem start_env {N : List Str} {xs : List Vl} {vs : List V} (r : RvL G w H xs vs) : EnvR G w H (xs.map some ++ List.replicate (N.length - xs.length) none) (L2.start N vs) := by
  have hl := r.length
  have get : ∀ {xs : List Vl} {vs : List V} (i : Nat) (x : Vl), RvL G w H xs vs → xs[i]? = some x → ∃ v, vs[i]? = some v ∧ Rv G w H x v := by
    intro xs vs i x r
    induction r generalizing i with
    | nil => intro e; simp at e
    | cons h k ih =>
      intro e
      cases i with
      | zero => simp at e; subst e; exact ⟨_, rfl, h⟩
      | succ i =>
        obtain ⟨v, a, b⟩ := ih i (by simpa using e)
        exact ⟨v, by simpa using a, b⟩
  refine ⟨by simp [L2.start, hl], fun i x e => ?_⟩
  by_cases hi : i < xs.length
  · rw [List.getElem?_append_left (by simpa using hi), List.getElem?_map] at e
    cases z : xs[i]? with
    | none => rw [z] at e; cases e
    | some y =>
      rw [z] at e
      have e : y = x := by simpa using e
      subst e
      obtain ⟨v, h1, h2⟩ := get i y r z
      exact ⟨v, by unfold L2.start; rw [List.getElem?_append_left (by rw [List.length_map, ← hl]; exact hi), List.getElem?_map, h1]; rfl, h2⟩
  · rw [List.getElem?_append_right (by simpa using hi), List.getElem?_replicate] at e
    split at e <;> cases e
/-- what a def's body must answer -/
theorem fn_read {N : List Str} {n : Nat} {m : Sx} {vs : List V} {Q : VK} {E : XK} (h : spOf G n (fnSem N.length m) vs H Q E) :
    tSt G an0 (fun c d _ H => E c d H) m { nx := fun _ H' => Q .non H', rt := Q } (L2.start N vs) H := by
  obtain ⟨xs, w, S, r, hn, hS, q⟩ := h
  refine ⟨_, w, S, start_env r, hS, ?_⟩
  unfold fnSem at q
  cases e : m (xs.map some ++ List.replicate (N.length - xs.length) none) S with
  | nx env S' =>
    rw [e] at q
    exact fun w' H' σ' g s _ => q w H' g.cut (hS.cut g s) _ (.p .non)
  | rt x S' =>
    rw [e] at q
    intro w' H' v g s rv
    cases rv with
    | p p => exact q w H' g.cut (hS.cut g s) _ (.p (p.cut g))
    | @loc k a hk =>
      obtain ⟨t, et⟩ := g.pre
      obtain ⟨d, f1, c⟩ := s.at' k a hk
      have q : Pst G an0 w H (if k < S.length then .ok (.loc k) (S'.take S.length) else match S'[k]? with
        | some d => if full d = true then .ok (.p d) (S'.take S.length) else .bad
        | none => .bad) (fun x _ w' H' => ∀ v, Rv G w' H' x v → Q v H') E := q
      by_cases hl : k < S.length
      · rw [if_pos hl] at q
        refine q w H' g.cut (hS.cut g s) _ (.loc ?_)
        rw [et, List.getElem?_append_left (by rw [← hS.len]; exact hl)] at hk
        exact hk
      · rw [if_neg hl, f1] at q
        dsimp only at q
        split at q
        · rename_i hf
          refine q w H' g.cut (hS.cut g s) _ (.p ((c.cut g).data hf (fun z => hl ?_) (fun z => (s.ax a (g.xi a z)).1 (List.mem_of_getElem? hk))))
          obtain ⟨j, hj, ej⟩ := List.getElem_of_mem z
          have h1 : w'.rho[j]? = some a := by rw [et, List.getElem?_append_left hj, List.getElem?_eq_getElem hj, ej]
          obtain ⟨b1, e1⟩ := List.getElem?_eq_some_iff.mp h1
          obtain ⟨b2, e2⟩ := List.getElem?_eq_some_iff.mp hk
          have : j = k := (List.getElem_inj s.nd).mp (e1.trans e2.symm)
          rw [← this, hS.len]
          exact hj
        · exact q.elim
  | bk env S' => rw [e] at q; exact q.elim
  | ct env S' => rw [e] at q; exact q.elim
  | exc c p env S' =>
    rw [e] at q
    exact fun w' H' σ' cls dd g s _ x => q w H' cls dd g.cut (hS.cut g s) (x.cut g)
  | bad => rw [e] at q; exact q.elim
theorem fn_ok {x qual : Str} {st : Stmt} {f : Addr} {fd : FuncData} {N ps : List Str} {k n : Nat} {m : Sx} (F : Fun G.K x qual st f fd) (Sc : FnScope N ps (defScope st)) (hn : ps.length = n)
    (hb : ∀ (cdv : Value) (A : Around) (outer : List PySem.Env) (s : Shared) (H : Hp) (E : XK), Gd G (cxOf (L2.CX G.P G.w) G.P G.w G.K G.mg G.base N qual (defScope st) f cdv A outer s H E) (fun c d _ H => E c d H) k →
      SB G an0 (fun c d _ H => E c d H) (cxOf (L2.CX G.P G.w) G.P G.w G.K G.mg G.base N qual (defScope st) f cdv A outer s H E) (defBody st) m) :
    FnOk G.P G.w G.K G.mg G.base (L2.CX G.P G.w) (k + 1) f fd ps (spOf G n (fnSem N.length m)) := by
  refine F.okX Sc (fun vs H Q E h => ?_) (fun cdv A outer s H vs Q E hr h => ⟨_, hb cdv A outer s H E ?_, fn_read h⟩)
  · obtain ⟨xs, w, S, r, h1, _⟩ := h
    rw [← r.length, h1, hn]
  · exact ⟨rfl, rfl, rfl, rfl, rfl, rfl, Sc.nd, takes_of rfl rfl rfl rfl, hr, passes_of rfl⟩
/-- a def as its callers see it: at level k it is f, of n arguments, dd the last ones where they are not given -/
structure FnF (G : Stat) (k : Nat) (x : Str) (a : Addr) (n : Nat) (dd : List Dt) (f : Fs) : Prop where
  ex : ∃ fd ps ds dvs, FnOk G.P G.w G.K G.mg G.base (L2.CX G.P G.w) k a fd ps (spOf G n f) ∧ Binds G.K fd ps ds ∧ Vals dvs ds ∧ ∀ w H, PerL G w H dd dvs
  mg : G.mg x = some (.ref a)
  kp : PySem.W.keepIn G.K (.ref a) = true
theorem RvL.app {xs ys : List Vl} {vs us : List V} (r : RvL G w H xs vs) (r2 : RvL G w H ys us) : RvL G w H (xs ++ ys) (vs ++ us) := by
  induction r with
  | nil => exact r2
  | cons h k ih => exact .cons h ih
theorem Pst.to0 {α : Type} {r : Rz α} {k : α → Sto → Wd → Hp → Prop} {E : XK} (ha : an.p w H) (q : Pst G an w H r k E) : Pst G an0 w H r k E := by
  cases r with
  | ok a S' => exact fun w' H' g s => q w' H' g ⟨s.len, s.nd, s.at', s.ax, an.m _ _ _ _ g ha, s.tb⟩
  | exc c p S' => exact fun w' H' cls dd g s x => q w' H' cls dd g ⟨s.len, s.nd, s.at', s.ax, an.m _ _ _ _ g ha, s.tb⟩ x
  | bad => exact q
theorem StoR.to0 (s : StoR G an w S H) : StoR G an0 w S H := ⟨s.len, s.nd, s.at', s.ax, trivial, s.tb⟩
theorem spOf_of {f : Fs} {n : Nat} {xs : List Vl} {vs : List V} {Q : VK} {E : XK} (r : RvL G w H xs vs) (hn : xs.length = n) (s : StoR G an w S H) (q : Pst G an w H (f xs S) (fun x _ w' H' => ∀ v, Rv G w' H' x v → Q v H') E) : spOf G n f vs H Q E :=
  ⟨xs, w, S, r, hn, s.to0, Pst.to0 s.anc q⟩
def mCall (f : Fs) (n : Nat) (dd : List Dt) (ma : Ma) : Mx := fun env S => (ma env S).bind fun xs S1 => if (xs ++ dd.map Vl.p).length = n then f (xs ++ dd.map Vl.p) S1 else .bad
/-- a def runs from a body -/
theorem go_fn {k : Nat} {f : Addr} {fd : FuncData} {ps : List Str} {sp : Sp} {ds us : List Value} {dvs vs : List V} {pins : List (Addr × Obj)} {σ : L2.St} {s : Shared} {Q : VK} (g : Gd G X W k) (F : FnOk G.P G.w G.K G.mg G.base (L2.CX G.P G.w) k f fd ps sp) (hb : Binds G.K fd ps ds) (hd : Vals dvs ds)
    (I : Inv X pins σ H s) (r : Vals vs us) (h : sp (vs ++ dvs) H Q (WE W σ)) : wpAny (model X.prog X.w) X.A (call (.ref f) us) (EP X pins σ Q) X.xe s := by
  have F : FnOk X.prog X.w X.K X.mg X.base (L2.CX X.prog X.w) k f fd ps sp := by rw [g.P, g.w, g.K, g.mg, g.base]; exact F
  have r2 := r.append hd
  have lenUs : (us ++ ds).length = ps.length := r2.length.symm.trans (F.len _ _ _ _ h)
  have bt := hb s us (by rw [← g.K]; exact I.kIn) lenUs
  refine wpAny_call (codeAny_mono (F.run X.A X.stack s H _ _ _ Q _ g.room I.env0 bt r2 h) fun res s2 hr => ?_)
  match res, hr with
  | .error e, hr => exact passAt g.tk σ pins H s e s2 I hr
  | .ok (.ret u), hr => exact I.after hr
theorem se_call {k n : Nat} {x : Str} {a : Addr} {dd : List Dt} {f : Fs} {e : Expr} {es : List Expr} {ma : Ma} {p pos : Pos} (g : Gd G X W k) (h : FnF G k x a n dd f) (ha : SA G an W X (e :: es) ma) (hg : Gl X x := by rfl)
    (hdb : (x == ("__debug__" : Str)) = false := by decide) (he : starEach (e :: es) X.env = (false, eval e X.env) :: starEach es X.env := by rfl) (hpl : (backTo pos (starEach es X.env)).any (·.1) = false := by rfl) :
    SE G an W X (.Call (.Name x p) (e :: es) [] pos) (mCall f n dd ma) := by
  obtain ⟨fd, ps, ds, dvs, F, hb, hd, hdd⟩ := h.ex
  refine ⟨fun pins s σ H Q I ⟨env, w, S, hE, hS, q⟩ => ?_⟩
  refine wpAny_Call_Name_kw (ld_glob I hg (by rw [g.mg]; exact h.mg) ?_ hdb)
  refine PySem.W.callWith_K (h₀ := X.base) I.ok.mod.kin (by rw [g.K]; exact h.kp) (thn (ha.run pos pins s σ H (fun vs H1 => spOf G n f (vs ++ dvs) H1 Q (WE W σ)) I ⟨env, w, S, hE, hS, (Pst.bind q).imp (fun xs S1 w1 H1 r1 g1 s1 q1 vs rvs => ?_) fun _ _ _ z => z⟩) fun us s1 ⟨vs, H1, I1, r, q⟩ => ⟨I1.kIn, ?_⟩) he hpl
  · split at q1
    · rename_i hl
      exact spOf_of (rvs.app (hdd w1 H1).vals) hl s1 q1
    · exact q1.elim
  · exact go_fn g F hb hd I1 r q
end
end EV

set_option Elab.async false
set_option linter.all false
set_option maxRecDepth 100000
/-! EvE: comprehensions with two for, raise. -/
namespace EV
open PySem L2

def lc2Go (g : Tg) (vs : List Nat) (mt : Mb) (mi1 : Mi) (g1 : Tg) (vs1 : List Nat) (mt1 : Mb) (me : Mx) (env : Slo) : List Dt → Sto → Rz (List Dt)
  | [], S => .ok [] S
  | d :: r, S => match bindT g d (wipeE env vs) with
    | none => .bad
    | some env1 => match mt env1 S with
      | .ok b S1 => if b = true then (match mi1 env1 S1 with
          | .ok es S2 => (match lcGo g1 vs1 mt1 me env1 es S2 with
            | .ok xs S3 => (match lc2Go g vs mt mi1 g1 vs1 mt1 me env r S3 with
              | .ok ys S4 => .ok (xs ++ ys) S4
              | _ => .bad)
            | _ => .bad)
          | _ => .bad) else lc2Go g vs mt mi1 g1 vs1 mt1 me env r S1
      | _ => .bad
def miLc2 (mi : Mi) (g : Tg) (vs : List Nat) (mt : Mb) (mi1 : Mi) (g1 : Tg) (vs1 : List Nat) (mt1 : Mb) (me : Mx) : Mi := fun env S => (mi env S).bind fun ds S1 => match lc2Go g vs mt mi1 g1 vs1 mt1 me env ds S1 with
  | .ok xs S2 => if line xs.length then .ok xs S2 else .bad
  | _ => .bad
section
variable {G : Stat} {an : An} {w w' : Wd} {H H' : Hp} {S S' : Sto} {W : WX} {X : Cx}
theorem sf_lc2 {k : Nat} {elt tg iter tg1 iter1 : Expr} {ifs ifs1 : List Expr} {scope : Scope} {own : List (Str × Nat)} {vs1 : List Nat} {pos : Pos} {mi mi1 : Mi} {tgt tgt1 : Tg} {mt mt1 : Mb} {me : Mx} (g : Gd G X W k) (hi : SI G an W X tg iter mi) (ok : BlkOk X.N X.env.scope scope own)
    (hv : ∀ i ∈ vs1, i ∈ own.map (·.2)) (hsl : ∀ i ∈ tgt.slots, i ∈ own.map (·.2)) (hsl1 : ∀ i ∈ tgt1.slots, i ∈ vs1)
    (hg : ∀ (s : Shared) (H : Hp) (C : Addr) (cl : List (Str × Addr)) (fp : List Addr), PG (X.blk s H scope (compEnvC scope cl C X.env) fp) tg (tgOf X.K tgt))
    (ht : ∀ (s : Shared) (H : Hp) (C : Addr) (cl : List (Str × Addr)) (fp : List Addr), PTs (X.blk s H scope (compEnvC scope cl C X.env) fp) ifs (tTe G an WF mt))
    (hi1 : ∀ (s : Shared) (H : Hp) (C : Addr) (cl : List (Str × Addr)) (fp : List Addr), SI G an WF (X.blk s H scope (compEnvC scope cl C X.env) fp) tg1 iter1 mi1)
    (hg1 : ∀ (s : Shared) (H : Hp) (C : Addr) (cl : List (Str × Addr)) (fp : List Addr), PG (X.blk s H scope (compEnvC scope cl C X.env) fp) tg1 (tgOf X.K tgt1))
    (ht1 : ∀ (s : Shared) (H : Hp) (C : Addr) (cl : List (Str × Addr)) (fp : List Addr), PTs (X.blk s H scope (compEnvC scope cl C X.env) fp) ifs1 (tTe G an WF mt1))
    (he : ∀ (s : Shared) (H : Hp) (C : Addr) (cl : List (Str × Addr)) (fp : List Addr), SE G an WF (X.blk s H scope (compEnvC scope cl C X.env) fp) elt me)
    (hs : ∀ x, foldedSetIterable iter X.env x = pure x := by intro _; rfl) (hs1 : ∀ env x, foldedSetIterable iter1 env x = pure x := by intro _ _; rfl) :
    SF G an W X (.ListComp elt [⟨tg, iter, ifs, 0⟩, ⟨tg1, iter1, ifs1, 0⟩] scope pos) (miLc2 mi tgt (own.map (·.2)) mt mi1 tgt1 vs1 mt1 me) := by
  obtain ⟨vs, hvs⟩ : ∃ vs, vs = own.map (·.2) := ⟨_, rfl⟩
  rw [← hvs]
  rw [← hvs] at hsl
  refine PE.imp (pe_lc2 g.calm g.nd hi ok hv hg ht hi1 hg1 ht1 he hs hs1) fun σ H Q ⟨env, w, S, hE, hS, q⟩ => ⟨env, w, S, hE, hS, (Pst.bind q).imp (fun ds S1 w1 H1 r1 g1 s1 q1 J hJ A hA => ?_) fun _ _ _ z => z⟩
  rw [← hvs]
  cases hz : lc2Go tgt vs mt mi1 tgt1 vs1 mt1 me env ds S1 with
  | bad => rw [hz] at q1; exact q1.elim
  | exc c p S2 => rw [hz] at q1; exact q1.elim
  | ok zs Sf =>
    rw [hz] at q1
    dsimp only at q1
    split at q1
    · rename_i hline
      have hl : zs.length ≤ sizeLine := line_ok hline
      refine ⟨fun i m H => ∃ (w : Wd) (S : Sto) (acc : List V) (accd rest : List Dt), m = ds.length - i ∧ i ≤ ds.length ∧ Grow w1 H1 w H ∧ A ∈ w.xi ∧ StoR G an w S H ∧ H A = some (.lst acc) ∧ PerL G w H accd acc ∧ lc2Go tgt vs mt mi1 tgt1 vs1 mt1 me env (ds.drop i) S = .ok rest Sf ∧ accd ++ rest = zs,
        ⟨ds.length, w1.aside A, S1, [], [], zs, rfl, Nat.zero_le _, Grow.aside s1 hA, List.mem_cons_self, s1.aside hA trivial, upd_same, .nil, hz, rfl⟩, ?_⟩
      rintro i m H ⟨w, S, acc, accd, rest, rfl, hi, gr, hx, hS, hH, kk, hgo, hcat⟩
      obtain ⟨jgo, jst⟩ := hJ i w H gr.x
      by_cases hlt : i < ds.length
      · obtain ⟨go, yl⟩ := jgo ds[i] (List.getElem?_eq_getElem hlt)
        rw [List.drop_eq_getElem_cons hlt] at hgo
        unfold lc2Go at hgo
        cases eb : bindT tgt ds[i] (wipeE env vs) with
        | none => rw [eb] at hgo; cases hgo
        | some env1 =>
          simp only [eb] at hgo
          cases et : mt env1 S with
          | bad => rw [et] at hgo; cases hgo
          | exc c p S2 => rw [et] at hgo; cases hgo
          | ok b S2 =>
            simp only [et] at hgo
            refine .inr ⟨go, fun H' => ∃ (w : Wd) (S : Sto) (acc : List V) (accd rest : List Dt), Grow w1 H1 w H' ∧ A ∈ w.xi ∧ StoR G an w S H' ∧ H' A = some (.lst acc) ∧ PerL G w H' accd acc ∧ lc2Go tgt vs mt mi1 tgt1 vs1 mt1 me env (ds.drop (i + 1)) S = .ok rest Sf ∧ accd ++ rest = zs,
              fun H' ⟨w, S, acc, accd, rest, a1, a2, a3, a4, a5, a7, a8⟩ => ⟨ds.length - (i + 1), by omega, w, S, acc, accd, rest, rfl, hlt, a1, a2, a3, a4, a5, a7, a8⟩, fun x H' y => ?_⟩
            obtain ⟨g2, s2, p⟩ := yl x H' y S hS
            refine bindT_ok g.K eb ((hE.mono ((g1.trans gr).trans g2)).wipe vs) p fun σ2 hE2 hw => ⟨by rw [hw vs hsl]; exact wipe_sub fun _ h => h, env1, w, S, hE2, s2, ?_⟩
            rw [et]
            intro w3 H3 g3 s3
            have ac : ∀ {w' H'}, Grow w H w' H' → H' A = some (.lst acc) := fun gg => gg.keep _ _ hH (hS.ax A hx).1
            cases b with
            | false =>
              have g' := g2.trans g3
              exact ⟨w3, S2, acc, accd, rest, gr.trans g', g'.xi _ hx, s3, ac g', kk.mono g', hgo, hcat⟩
            | true =>
              simp only [if_true] at hgo
              cases em : mi1 env1 S2 with
              | bad => rw [em] at hgo; cases hgo
              | exc c p S3 => rw [em] at hgo; cases hgo
              | ok es S3 =>
                simp only [em] at hgo
                cases ei : lcGo tgt1 vs1 mt1 me env1 es S3 with
                | bad => rw [ei] at hgo; cases hgo
                | exc c p S4 => rw [ei] at hgo; cases hgo
                | ok xs S4 =>
                  simp only [ei] at hgo
                  cases er : lc2Go tgt vs mt mi1 tgt1 vs1 mt1 me env (ds.drop (i + 1)) S4 with
                  | bad => rw [er] at hgo; cases hgo
                  | exc c p S5 => rw [er] at hgo; cases hgo
                  | ok ys S5 =>
                    rw [er] at hgo
                    cases hgo
                    refine ⟨env1, w3, S2, hE2.mono g3, s3, ?_⟩
                    rw [em]
                    intro w4 H4 g4 s4 J1 hJ1
                    have g' := (g2.trans g3).trans g4
                    have hA4 := ac g'
                    have hx4 := g'.xi _ hx
                    -- the inner walk
                    refine ⟨fun j k H => ∃ (w : Wd) (S : Sto) (acc : List V) (accd rest : List Dt), k = es.length - j ∧ j ≤ es.length ∧ GrowX w4 H4 w H ∧ Grow w1 H1 w H ∧ A ∈ w.xi ∧ StoR G an w S H ∧ H A = some (.lst acc) ∧ PerL G w H accd acc ∧ lcGo tgt1 vs1 mt1 me env1 (es.drop j) S = .ok rest S4 ∧ accd ++ (rest ++ ys) = zs,
                      ⟨es.length, w4, S3, acc, accd, xs, rfl, Nat.zero_le _, Grow.refl.x, gr.trans g', g'.xi _ hx, s4, ac g', kk.mono g', ei, hcat⟩, ?_⟩
                    rintro j k H ⟨w, S, acc, accd, rest, rfl, hj, gr4, gr, hx, hS, hH, kk, hgo, hcat⟩
                    obtain ⟨jgo, jst⟩ := hJ1 j w H gr4
                    by_cases hlt1 : j < es.length
                    · obtain ⟨go, yl⟩ := jgo es[j] (List.getElem?_eq_getElem hlt1)
                      rw [List.drop_eq_getElem_cons hlt1] at hgo
                      unfold lcGo at hgo
                      cases eb : bindT tgt1 es[j] (wipeE env1 vs1) with
                      | none => rw [eb] at hgo; cases hgo
                      | some env2 =>
                        simp only [eb] at hgo
                        cases et : mt1 env2 S with
                        | bad => rw [et] at hgo; cases hgo
                        | exc c p S2 => rw [et] at hgo; cases hgo
                        | ok b S2 =>
                          simp only [et] at hgo
                          refine .inr ⟨go, fun H' => ∃ (w : Wd) (S : Sto) (acc : List V) (accd rest : List Dt), GrowX w4 H4 w H' ∧ Grow w1 H1 w H' ∧ A ∈ w.xi ∧ StoR G an w S H' ∧ H' A = some (.lst acc) ∧ PerL G w H' accd acc ∧ lcGo tgt1 vs1 mt1 me env1 (es.drop (j + 1)) S = .ok rest S4 ∧ accd ++ (rest ++ ys) = zs,
                            fun H' ⟨w, S, acc, accd, rest, a0, a1, a2, a3, a4, a5, a7, a8⟩ => ⟨es.length - (j + 1), by omega, w, S, acc, accd, rest, rfl, hlt1, a0, a1, a2, a3, a4, a5, a7, a8⟩, fun x H' y => ?_⟩
                          obtain ⟨g5, s5, p⟩ := yl x H' y S hS
                          refine bindT_ok g.K eb ((((hE2.mono g3).mono g4).monoX (gr4.trans g5)).wipe vs1) p fun σ3 hE3 hw => ⟨by rw [hw vs1 hsl1]; exact wipe_sub fun _ h => h, env2, w, S, hE3, s5, ?_⟩
                          rw [et]
                          intro w6 H6 g6 s6
                          have ac : ∀ {w' H'}, Grow w H w' H' → H' A = some (.lst acc) := fun gg => gg.keep _ _ hH (hS.ax A hx).1
                          cases b with
                          | false =>
                            have g' := g5.trans g6
                            exact ⟨w6, S2, acc, accd, rest, gr4.trans g', gr.trans g', g'.xi _ hx, s6, ac g', kk.mono g', hgo, hcat⟩
                          | true =>
                            simp only [if_true] at hgo
                            cases em : me env2 S2 with
                            | bad => rw [em] at hgo; cases hgo
                            | exc c p S3 => rw [em] at hgo; cases hgo
                            | ok x S3 =>
                              cases x with
                              | loc n => rw [em] at hgo; cases hgo
                              | p d =>
                                simp only [em] at hgo
                                cases er : lcGo tgt1 vs1 mt1 me env1 (es.drop (j + 1)) S3 with
                                | bad => rw [er] at hgo; cases hgo
                                | exc c p S3 => rw [er] at hgo; cases hgo
                                | ok rest2 Sf2 =>
                                  rw [er] at hgo
                                  cases hgo
                                  refine ⟨env2, w6, S2, hE3.mono g6, s6, ?_⟩
                                  rw [em]
                                  intro w7 H7 g7 s7 v rv
                                  have g' := (g5.trans g6).trans g7
                                  have hA7 := ac g'
                                  have hx7 := g'.xi _ hx
                                  cases rv with
                                  | p rv =>
                                    refine ⟨acc, hA7, ?_, w7, S3, acc ++ [v], accd ++ [d], rest2, (gr4.trans g').put hA4 trivial hx4, (gr.trans g').put hA, hx7, s7.put hA7 trivial trivial hx7 (an.m _ _ _ _ ((gr.trans g').put hA) s1.anc), upd_same, ((kk.mono g').append (.cons rv .nil)).put hA7 trivial hx7, er, by rw [List.append_assoc]; exact hcat⟩
                                    · rw [← kk.length]
                                      have := congrArg List.length hcat
                                      simp at this
                                      omega
                    · have e : j = es.length := by omega
                      subst e
                      rw [List.drop_length] at hgo
                      cases hgo
                      exact .inl ⟨jst (Nat.le_refl _), w, _, acc, accd, ys, gr, hx, hS, hH, kk, er, by simpa using hcat⟩
      · have e : i = ds.length := by omega
        subst e
        rw [List.drop_length] at hgo
        cases hgo
        rw [List.append_nil] at hcat
        subst hcat
        have gd := gr.del hA (s1.outx hA) hH
        have q2 := q1 _ _ gd (hS.del hH trivial hx (an.m _ _ _ _ gd s1.anc)) A acc delH_same (kk.del hH trivial hx)
        rw [upd_del hH] at q2
        exact .inl ⟨jst (Nat.le_refl _), q2⟩
    · exact q1.elim
end
end EV

set_option Elab.async false
set_option linter.all false
set_option maxRecDepth 100000
/-! EvP: what the operators and the built-ins give, as plain functions of data. -/
namespace EV
open PySem L2

/-! ### ints -/
def dII (f : Int → Int → Option Dt) : Dt → Dt → Option Dt
  | .int i, .int j => f i j
  | _, _ => none
section
variable {G : Stat} {an : An} {w w' : Wd} {H H' : Hp} {S S' : Sto} {W : WX} {X : Cx}
theorem ok_rI {C : Int → Int → Prop} {g : Int → Int → Int} {f : Int → Int → Option Dt} (h : ∀ i j z, f i j = some z → C i j ∧ z = .int (g i j)) : Op2Ok G (rI C fun i j => .int (g i j)) (dII f) := by
  intro an w S H d e x y z Q s td te ef q
  cases d with
  | int i => cases e with
    | int j =>
      obtain ⟨hc, rfl⟩ := h i j z ef
      exact ⟨i, j, td.int, te.int, hc, q w H _ Grow.refl s (.int _)⟩
    | _ => cases ef
  | _ => cases ef
theorem ok_rI0 {g : Int → Int → Int} : Op2Ok G (rI0 fun i j => .int (g i j)) (dII fun i j => some (.int (g i j))) := by
  intro an w S H d e x y z Q s td te ef q
  cases d with
  | int i => cases e with
    | int j =>
      cases ef
      exact ⟨i, j, td.int, te.int, q w H _ Grow.refl s (.int _)⟩
    | _ => cases ef
  | _ => cases ef
theorem ok_rB0 {g : Int → Int → Bool} : Op2Ok G (rI0 fun i j => .bl (g i j)) (dII fun i j => some (.bl (g i j))) := by
  intro an w S H d e x y z Q s td te ef q
  cases d with
  | int i => cases e with
    | int j =>
      cases ef
      exact ⟨i, j, td.int, te.int, q w H _ Grow.refl s (.bl _)⟩
    | _ => cases ef
  | _ => cases ef
theorem Op2Ok.or1 {r r' : R2} {f : Dt → Dt → Option Dt} (h : Op2Ok G r f) : Op2Ok G (fun x y H Q => r x y H Q ∨ r' x y H Q) f := fun an w S H d e x y z Q s td te ef q => .inl (h an w S H d e x y z Q s td te ef q)
theorem Op2Ok.or2 {r r' : R2} {f : Dt → Dt → Option Dt} (h : Op2Ok G r' f) : Op2Ok G (fun x y H Q => r x y H Q ∨ r' x y H Q) f := fun an w S H d e x y z Q s td te ef q => .inr (h an w S H d e x y z Q s td te ef q)
/-- the one where it answers, else the other -/
def dOr (f g : Dt → Dt → Option Dt) : Dt → Dt → Option Dt := fun d e => match f d e with
  | some z => some z
  | none => g d e
theorem Op2Ok.or {r r' : R2} {f g : Dt → Dt → Option Dt} (h : Op2Ok G r f) (h' : Op2Ok G r' g) : Op2Ok G (fun x y H Q => r x y H Q ∨ r' x y H Q) (dOr f g) := fun an w S H d e x y z Q s td te ef q => by
  unfold dOr at ef
  cases z1 : f d e with
  | some u => rw [z1] at ef; cases ef; exact .inl (h an w S H d e x y z Q s td te z1 q)
  | none => rw [z1] at ef; exact .inr (h' an w S H d e x y z Q s td te ef q)
end

/-! ### equality -/
mutual
def toPy : Dt → Option PyData
  | .non => some .none
  | .bl b => some (.bool b)
  | .int i => some (.int i)
  | .str s => some (.str s)
  | .tup ds => (toPyL ds).map .tuple
  | .lst ds => (toPyL ds).map .list
  | .fro ds => (toPyL ds).map .list
  | .dct _ _ => none
  | .fn _ => none
  | .dtt _ _ => none
  | .obj _ _ _ => none
  | .tux ds => (toPyL ds).map .tuple
  | .dcx _ _ _ _ => none
def toPyL : List Dt → Option (List PyData)
  | [] => some []
  | d :: r => match toPy d, toPyL r with
    | some x, some xs => some (x :: xs)
    | _, _ => none
end
section
variable {G : Stat} {an : An} {w w' : Wd} {H H' : Hp} {S S' : Sto} {W : WX} {X : Cx}
mutual
theorem Per.py : ∀ {d : Dt} {v : V} {y : PyData}, Per G w H d v → toPy d = some y → Dp G.K H v y
  | _, _, _, .non, e => by cases e; exact .non
  | _, _, _, .bl b, e => by cases e; exact .bl b
  | _, _, _, .int i, e => by cases e; exact .int i
  | _, _, _, .str s, e => by cases e; exact .str s
  | _, _, _, .tup (ds := ds) h k, e => by
    cases z : toPyL ds with
    | none => rw [toPy, z] at e; cases e
    | some ys => rw [toPy, z] at e; cases e; exact .tup (.inl (.inl h)) (PerL.py k z)
  | _, _, _, .lst (ds := ds) h _ _ k, e => by
    cases z : toPyL ds with
    | none => rw [toPy, z] at e; cases e
    | some ys => rw [toPy, z] at e; cases e; exact .lst (.inl (.inl h)) (PerL.py k z)
  | _, _, _, .frz (ds := ds) h k, e => by
    cases z : toPyL ds with
    | none => rw [toPy, z] at e; cases e
    | some ys => rw [toPy, z] at e; cases e; exact .lst (.inl (.inr ⟨_, h⟩)) (PerL.py k z)
  | _, _, _, .wri (ds := ds) h k, e => by
    cases z : toPyL ds with
    | none => rw [toPy, z] at e; cases e
    | some ys => rw [toPy, z] at e; cases e; exact .lst (h _) (PerL.py k z)
  | _, _, _, .dct _ _ _, e => by rw [toPy] at e; cases e
  | _, _, _, .fn _, e => by rw [toPy] at e; cases e
  | _, _, _, .dtt _ _ _, e => by rw [toPy] at e; cases e
  | _, _, _, .obj _ _ _ _ _, e => by rw [toPy] at e; cases e
  | _, _, _, .dcx _ _ _, e => by rw [toPy] at e; cases e
  | _, _, _, .tux (ds := ds) h _ k, e => by
    cases z : toPyL ds with
    | none => rw [toPy, z] at e; cases e
    | some ys => rw [toPy, z] at e; cases e; exact .tup (.inl (.inr ⟨_, h⟩)) (PerL.py k z)
theorem PerL.py : ∀ {ds : List Dt} {vs : List V} {ys : List PyData}, PerL G w H ds vs → toPyL ds = some ys → DpAll G.K H vs ys
  | _, _, _, .nil, e => by rw [toPyL] at e; cases e; exact .nil
  | _, _, _, .cons (d := d) (ds := r) h k, e => by
    rw [toPyL] at e
    cases z1 : toPy d with
    | none => rw [z1] at e; cases e
    | some x => cases z2 : toPyL r with
      | none => rw [z1, z2] at e; cases e
      | some xs =>
        rw [z1, z2] at e
        cases e
        exact .cons (Per.py h z1) (PerL.py k z2)
end
theorem Tp.py {d : Dt} {v : V} {y : PyData} (h : Tp G w H d v) (e : toPy d = some y) : Dp G.K H v y := by
  cases h with
  | per h => exact h.py e
  | cell h => cases h with
    | lst h k =>
      rename_i xs ds
      cases z : toPyL ds with
      | none => rw [toPy, z] at e; cases e
      | some ys => rw [toPy, z] at e; cases e; exact .lst (.inl (.inl h)) (PerL.py k z)
    | dct h e1 k => rw [toPy] at e; cases e
    | dtt h e1 k => rw [toPy] at e; cases e
    | obj h e1 k => rw [toPy] at e; cases e
end
mutual
def eqD : Dt → Dt → Bool
  | .non, .non => true
  | .bl a, .bl b => a == b
  | .bl a, .int j => (if a then 1 else 0) == j
  | .int i, .bl b => i == (if b then 1 else 0)
  | .int i, .int j => i == j
  | .str x, .str y => x == y
  | .lst xs, .lst ys => eqDL xs ys
  | .tup xs, .tup ys => eqDL xs ys
  | .tup xs, .tux ys => eqDL xs ys
  | .tux xs, .tup ys => eqDL xs ys
  | .tux xs, .tux ys => eqDL xs ys
  | _, _ => false
def eqDL : List Dt → List Dt → Bool
  | [], [] => true
  | x :: xs, y :: ys => eqD x y && eqDL xs ys
  | _, _ => false
end
/-- data that == of this layer speaks of: how deep at most -/
def flD : Dt → Bool
  | .non | .bl _ | .int _ => true
  | .str s => PyData.strOk s
  | _ => false
mutual
def shD : Nat → Dt → Bool
  | _, .non => true
  | _, .bl _ => true
  | _, .int _ => true
  | _, .str s => PyData.strOk s
  | 0, _ => false
  | n + 1, .lst ds => shDL n ds
  | n + 1, .tup ds => shDL n ds
  | n + 1, .tux ds => shDL n ds
  | _ + 1, _ => false
def shDL : Nat → List Dt → Bool
  | _, [] => true
  | n, d :: r => shD n d && shDL n r
end
mutual
theorem sh_ok : ∀ (n : Nat) (d : Dt), shD n d = true → ∃ y, toPy d = some y ∧ y.canLay0 = true ∧ y.depth ≤ n
  | _, .non, _ => ⟨.none, by rw [toPy], rfl, Nat.zero_le _⟩
  | _, .bl b, _ => ⟨.bool b, by rw [toPy], rfl, Nat.zero_le _⟩
  | _, .int i, _ => ⟨.int i, by rw [toPy], rfl, Nat.zero_le _⟩
  | _, .str s, h => ⟨.str s, by rw [toPy], by unfold shD at h; simpa [PyData.canLay0] using h, Nat.zero_le _⟩
  | 0, .lst _, h => by unfold shD at h; cases h
  | 0, .tup _, h => by unfold shD at h; cases h
  | 0, .tux _, h => by unfold shD at h; cases h
  | n + 1, .lst ds, h => by
    unfold shD at h
    obtain ⟨ys, h1, h2, h3⟩ := shL_ok n ds h
    exact ⟨.list ys, by rw [toPy, h1]; rfl, by simpa [PyData.canLay0] using h2, by simpa [PyData.depth] using h3⟩
  | n + 1, .tup ds, h => by
    unfold shD at h
    obtain ⟨ys, h1, h2, h3⟩ := shL_ok n ds h
    exact ⟨.tuple ys, by rw [toPy, h1]; rfl, by simpa [PyData.canLay0] using h2, by simpa [PyData.depth] using h3⟩
  | n + 1, .tux ds, h => by
    unfold shD at h
    obtain ⟨ys, h1, h2, h3⟩ := shL_ok n ds h
    exact ⟨.tuple ys, by rw [toPy, h1]; rfl, by simpa [PyData.canLay0] using h2, by simpa [PyData.depth] using h3⟩
  | 0, .dct _ _, h => by unfold shD at h; cases h
  | n + 1, .dct _ _, h => by unfold shD at h; cases h
  | 0, .fn _, h => by unfold shD at h; cases h
  | n + 1, .fn _, h => by unfold shD at h; cases h
  | 0, .fro _, h => by unfold shD at h; cases h
  | n + 1, .fro _, h => by unfold shD at h; cases h
  | 0, .dtt _ _, h => by unfold shD at h; cases h
  | n + 1, .dtt _ _, h => by unfold shD at h; cases h
  | 0, .obj _ _ _, h => by unfold shD at h; cases h
  | 0, .dcx _ _ _ _, h => by unfold shD at h; cases h
  | n + 1, .dcx _ _ _ _, h => by unfold shD at h; cases h
  | n + 1, .obj _ _ _, h => by unfold shD at h; cases h
theorem shL_ok : ∀ (n : Nat) (ds : List Dt), shDL n ds = true → ∃ ys, toPyL ds = some ys ∧ PyData.canLayAll0 ys = true ∧ PyData.depthAll ys ≤ n
  | _, [], _ => ⟨[], by rw [toPyL], by simp [PyData.canLayAll0], by simp [PyData.depthAll]⟩
  | n, d :: r, h => by
    unfold shDL at h
    rw [Bool.and_eq_true] at h
    obtain ⟨y, h1, h2, h3⟩ := sh_ok n d h.1
    obtain ⟨ys, k1, k2, k3⟩ := shL_ok n r h.2
    exact ⟨y :: ys, by rw [toPyL, h1, k1], by simp [PyData.canLayAll0, h2, k2], by simp only [PyData.depthAll]; omega⟩
end
theorem py_seq {n : Nat} {ds : List Dt} {x : PyData} {f : List PyData → PyData} (h : (toPyL ds).map f = some x) : ∃ xs, toPyL ds = some xs ∧ x = f xs := by
  cases z : toPyL ds with
  | none => rw [z] at h; cases h
  | some xs => rw [z] at h; cases h; exact ⟨xs, rfl, rfl⟩
mutual
theorem eq_py : ∀ (d e : Dt) (n m : Nat) (x y : PyData), shD n d = true → shD m e = true → toPy d = some x → toPy e = some y → PyData.eqv x y = eqD d e
  | .lst ds, e, n, m, x, y, h1, h2, e1, e2 => by
    rw [toPy] at e1
    obtain ⟨xs, f1, rfl⟩ := py_seq (n := 0) e1
    cases n with
    | zero => unfold shD at h1; cases h1
    | succ n =>
      unfold shD at h1
      cases e with
      | lst es =>
        rw [toPy] at e2
        obtain ⟨ys, f2, rfl⟩ := py_seq (n := 0) e2
        cases m with
        | zero => unfold shD at h2; cases h2
        | succ m =>
          unfold shD at h2
          rw [PyData.eqv, eqD]
          exact eq_pyL ds es n m xs ys h1 h2 f1 f2
      | tup es =>
        rw [toPy] at e2
        obtain ⟨ys, f2, rfl⟩ := py_seq (n := 0) e2
        simp [PyData.eqv, eqD]
      | tux es =>
        rw [toPy] at e2
        obtain ⟨ys, f2, rfl⟩ := py_seq (n := 0) e2
        simp [PyData.eqv, eqD]
      | fro es => cases m <;> (unfold shD at h2; cases h2)
      | dct a b => rw [toPy] at e2; cases e2
      | dtt a b => rw [toPy] at e2; cases e2
      | obj a b c => rw [toPy] at e2; cases e2
      | dcx a b c d => rw [toPy] at e2; cases e2
      | fn i => rw [toPy] at e2; cases e2
      | _ => rw [toPy] at e2; cases e2; simp [PyData.eqv, eqD]
  | .tup ds, e, n, m, x, y, h1, h2, e1, e2 => by
    rw [toPy] at e1
    obtain ⟨xs, f1, rfl⟩ := py_seq (n := 0) e1
    cases n with
    | zero => unfold shD at h1; cases h1
    | succ n =>
      unfold shD at h1
      cases e with
      | tup es =>
        rw [toPy] at e2
        obtain ⟨ys, f2, rfl⟩ := py_seq (n := 0) e2
        cases m with
        | zero => unfold shD at h2; cases h2
        | succ m =>
          unfold shD at h2
          rw [PyData.eqv, eqD]
          exact eq_pyL ds es n m xs ys h1 h2 f1 f2
      | tux es =>
        rw [toPy] at e2
        obtain ⟨ys, f2, rfl⟩ := py_seq (n := 0) e2
        cases m with
        | zero => unfold shD at h2; cases h2
        | succ m =>
          unfold shD at h2
          rw [PyData.eqv, eqD]
          exact eq_pyL ds es n m xs ys h1 h2 f1 f2
      | lst es =>
        rw [toPy] at e2
        obtain ⟨ys, f2, rfl⟩ := py_seq (n := 0) e2
        simp [PyData.eqv, eqD]
      | fro es => cases m <;> (unfold shD at h2; cases h2)
      | dct a b => rw [toPy] at e2; cases e2
      | dtt a b => rw [toPy] at e2; cases e2
      | obj a b c => rw [toPy] at e2; cases e2
      | dcx a b c d => rw [toPy] at e2; cases e2
      | fn i => rw [toPy] at e2; cases e2
      | _ => rw [toPy] at e2; cases e2; simp [PyData.eqv, eqD]
  | .tux ds, e, n, m, x, y, h1, h2, e1, e2 => by
    rw [toPy] at e1
    obtain ⟨xs, f1, rfl⟩ := py_seq (n := 0) e1
    cases n with
    | zero => unfold shD at h1; cases h1
    | succ n =>
      unfold shD at h1
      cases e with
      | tup es =>
        rw [toPy] at e2
        obtain ⟨ys, f2, rfl⟩ := py_seq (n := 0) e2
        cases m with
        | zero => unfold shD at h2; cases h2
        | succ m =>
          unfold shD at h2
          rw [PyData.eqv, eqD]
          exact eq_pyL ds es n m xs ys h1 h2 f1 f2
      | tux es =>
        rw [toPy] at e2
        obtain ⟨ys, f2, rfl⟩ := py_seq (n := 0) e2
        cases m with
        | zero => unfold shD at h2; cases h2
        | succ m =>
          unfold shD at h2
          rw [PyData.eqv, eqD]
          exact eq_pyL ds es n m xs ys h1 h2 f1 f2
      | lst es =>
        rw [toPy] at e2
        obtain ⟨ys, f2, rfl⟩ := py_seq (n := 0) e2
        simp [PyData.eqv, eqD]
      | fro es => cases m <;> (unfold shD at h2; cases h2)
      | dct a b => rw [toPy] at e2; cases e2
      | dtt a b => rw [toPy] at e2; cases e2
      | obj a b c => rw [toPy] at e2; cases e2
      | dcx a b c d => rw [toPy] at e2; cases e2
      | fn i => rw [toPy] at e2; cases e2
      | _ => rw [toPy] at e2; cases e2; simp [PyData.eqv, eqD]
  | .fro ds, e, n, m, x, y, h1, h2, e1, e2 => by cases n <;> (unfold shD at h1; cases h1)
  | .dct _ _, e, n, m, x, y, h1, h2, e1, e2 => by rw [toPy] at e1; cases e1
  | .fn _, e, n, m, x, y, h1, h2, e1, e2 => by rw [toPy] at e1; cases e1
  | .dtt _ _, e, n, m, x, y, h1, h2, e1, e2 => by rw [toPy] at e1; cases e1
  | .obj _ _ _, e, n, m, x, y, h1, h2, e1, e2 => by rw [toPy] at e1; cases e1
  | .dcx _ _ _ _, e, n, m, x, y, h1, h2, e1, e2 => by rw [toPy] at e1; cases e1
  | .non, e, n, m, x, y, h1, h2, e1, e2 => by
    rw [toPy] at e1
    cases e1
    cases e with
    | lst es => rw [toPy] at e2; obtain ⟨ys, f2, rfl⟩ := py_seq (n := 0) e2; simp [PyData.eqv, eqD]
    | tup es => rw [toPy] at e2; obtain ⟨ys, f2, rfl⟩ := py_seq (n := 0) e2; simp [PyData.eqv, eqD]
    | tux es => rw [toPy] at e2; obtain ⟨ys, f2, rfl⟩ := py_seq (n := 0) e2; simp [PyData.eqv, eqD]
    | fro es => cases m <;> (unfold shD at h2; cases h2)
    | dct a b => rw [toPy] at e2; cases e2
    | dtt a b => rw [toPy] at e2; cases e2
    | obj a b c => rw [toPy] at e2; cases e2
    | dcx a b c d => rw [toPy] at e2; cases e2
    | fn i => rw [toPy] at e2; cases e2
    | _ => rw [toPy] at e2; cases e2; simp [PyData.eqv, eqD]
  | .bl b, e, n, m, x, y, h1, h2, e1, e2 => by
    rw [toPy] at e1
    cases e1
    cases e with
    | lst es => rw [toPy] at e2; obtain ⟨ys, f2, rfl⟩ := py_seq (n := 0) e2; simp [PyData.eqv, eqD]
    | tup es => rw [toPy] at e2; obtain ⟨ys, f2, rfl⟩ := py_seq (n := 0) e2; simp [PyData.eqv, eqD]
    | tux es => rw [toPy] at e2; obtain ⟨ys, f2, rfl⟩ := py_seq (n := 0) e2; simp [PyData.eqv, eqD]
    | fro es => cases m <;> (unfold shD at h2; cases h2)
    | dct a b => rw [toPy] at e2; cases e2
    | dtt a b => rw [toPy] at e2; cases e2
    | obj a b c => rw [toPy] at e2; cases e2
    | dcx a b c d => rw [toPy] at e2; cases e2
    | fn i => rw [toPy] at e2; cases e2
    | _ => rw [toPy] at e2; cases e2; simp [PyData.eqv, eqD]
  | .int b, e, n, m, x, y, h1, h2, e1, e2 => by
    rw [toPy] at e1
    cases e1
    cases e with
    | lst es => rw [toPy] at e2; obtain ⟨ys, f2, rfl⟩ := py_seq (n := 0) e2; simp [PyData.eqv, eqD]
    | tup es => rw [toPy] at e2; obtain ⟨ys, f2, rfl⟩ := py_seq (n := 0) e2; simp [PyData.eqv, eqD]
    | tux es => rw [toPy] at e2; obtain ⟨ys, f2, rfl⟩ := py_seq (n := 0) e2; simp [PyData.eqv, eqD]
    | fro es => cases m <;> (unfold shD at h2; cases h2)
    | dct a b => rw [toPy] at e2; cases e2
    | dtt a b => rw [toPy] at e2; cases e2
    | obj a b c => rw [toPy] at e2; cases e2
    | dcx a b c d => rw [toPy] at e2; cases e2
    | fn i => rw [toPy] at e2; cases e2
    | _ => rw [toPy] at e2; cases e2; simp [PyData.eqv, eqD]
  | .str b, e, n, m, x, y, h1, h2, e1, e2 => by
    rw [toPy] at e1
    cases e1
    cases e with
    | lst es => rw [toPy] at e2; obtain ⟨ys, f2, rfl⟩ := py_seq (n := 0) e2; simp [PyData.eqv, eqD]
    | tup es => rw [toPy] at e2; obtain ⟨ys, f2, rfl⟩ := py_seq (n := 0) e2; simp [PyData.eqv, eqD]
    | tux es => rw [toPy] at e2; obtain ⟨ys, f2, rfl⟩ := py_seq (n := 0) e2; simp [PyData.eqv, eqD]
    | fro es => cases m <;> (unfold shD at h2; cases h2)
    | dct a b => rw [toPy] at e2; cases e2
    | dtt a b => rw [toPy] at e2; cases e2
    | obj a b c => rw [toPy] at e2; cases e2
    | dcx a b c d => rw [toPy] at e2; cases e2
    | fn i => rw [toPy] at e2; cases e2
    | _ => rw [toPy] at e2; cases e2; simp [PyData.eqv, eqD]
theorem eq_pyL : ∀ (ds es : List Dt) (n m : Nat) (xs ys : List PyData), shDL n ds = true → shDL m es = true → toPyL ds = some xs → toPyL es = some ys → PyData.eqvAll xs ys = eqDL ds es
  | [], es, n, m, xs, ys, h1, h2, e1, e2 => by
    rw [toPyL] at e1
    cases e1
    cases es with
    | nil => rw [toPyL] at e2; cases e2; simp [PyData.eqvAll, eqDL]
    | cons e r =>
      rw [toPyL] at e2
      cases z1 : toPy e with
      | none => rw [z1] at e2; cases e2
      | some y => cases z2 : toPyL r with
        | none => rw [z1, z2] at e2; cases e2
        | some zs => rw [z1, z2] at e2; cases e2; simp [PyData.eqvAll, eqDL]
  | d :: ds, es, n, m, xs, ys, h1, h2, e1, e2 => by
    unfold shDL at h1
    rw [Bool.and_eq_true] at h1
    rw [toPyL] at e1
    cases z1 : toPy d with
    | none => rw [z1] at e1; cases e1
    | some x => cases z2 : toPyL ds with
      | none => rw [z1, z2] at e1; cases e1
      | some zs =>
        rw [z1, z2] at e1
        cases e1
        cases es with
        | nil => rw [toPyL] at e2; cases e2; simp [PyData.eqvAll, eqDL]
        | cons e r =>
          unfold shDL at h2
          rw [Bool.and_eq_true] at h2
          rw [toPyL] at e2
          cases u1 : toPy e with
          | none => rw [u1] at e2; cases e2
          | some y => cases u2 : toPyL r with
            | none => rw [u1, u2] at e2; cases e2
            | some us =>
              rw [u1, u2] at e2
              cases e2
              rw [PyData.eqvAll, eqDL, eq_py d e n m x y h1.1 h2.1 z1 u1, eq_pyL ds r n m zs us h1.2 h2.2 z2 u2]
end
/-- == and != of data -/
def dEq (d e : Dt) : Option Dt := if shD 60 d && shD 60 e then some (.bl (eqD d e)) else none
def dNe (d e : Dt) : Option Dt := if shD 60 d && shD 60 e then some (.bl (!eqD d e)) else none
section
variable {G : Stat} {an : An} {w w' : Wd} {H H' : Hp} {S S' : Sto} {W : WX} {X : Cx}
theorem shaped_of {n : Nat} {d : Dt} (hn : n ≤ 64) (h : shD n d = true) : ∃ y, toPy d = some y ∧ SeqAt.shaped y = true := by
  obtain ⟨y, h1, h2, h3⟩ := sh_ok n d h
  exact ⟨y, h1, by unfold SeqAt.shaped; rw [h2, Bool.true_and]; exact decide_eq_true (by omega)⟩
theorem ok_eq : Op2Ok G (rEqD G.K) dEq := by
  intro an w S H d e x y z Q s td te ef q
  unfold dEq at ef
  split at ef
  · rename_i hs
    rw [Bool.and_eq_true] at hs
    cases ef
    obtain ⟨y1, a1, a2⟩ := shaped_of (by omega) hs.1
    obtain ⟨y2, b1, b2⟩ := shaped_of (by omega) hs.2
    refine ⟨y1, y2, td.py a1, te.py b1, a2, b2, ?_⟩
    rw [eq_py d e _ _ y1 y2 hs.1 hs.2 a1 b1]
    exact q w H _ Grow.refl s (.bl _)
  · cases ef
theorem ok_ne : Op2Ok G (rNeD G.K) dNe := by
  intro an w S H d e x y z Q s td te ef q
  unfold dNe at ef
  split at ef
  · rename_i hs
    rw [Bool.and_eq_true] at hs
    cases ef
    obtain ⟨y1, a1, a2⟩ := shaped_of (by omega) hs.1
    obtain ⟨y2, b1, b2⟩ := shaped_of (by omega) hs.2
    refine ⟨y1, y2, td.py a1, te.py b1, a2, b2, ?_⟩
    rw [eq_py d e _ _ y1 y2 hs.1 hs.2 a1 b1]
    exact q w H _ Grow.refl s (.bl _)
  · cases ef
end
end EV

set_option Elab.async false
set_option linter.all false
set_option maxRecDepth 100000
/-! EvQ: more operators and built-ins. -/
namespace EV
open PySem L2

section
variable {G : Stat} {an : An} {w w' : Wd} {H H' : Hp} {S S' : Sto} {W : WX} {X : Cx}
/-! ### + -/
def dAddI : Dt → Dt → Option Dt := dII fun i j => some (.int (i + j))
def dAddS : Dt → Dt → Option Dt
  | .str a, .str b => if line (a.length + b.length) then some (.str (a ++ b)) else none
  | _, _ => none
def dAddT : Dt → Dt → Option Dt
  | .tup a, .tup b => if line (a.length + b.length) then some (.tup (a ++ b)) else none
  | _, _ => none
def dAddL : Dt → Dt → Option (List Dt)
  | .lst a, .lst b => if line (a.length + b.length) then some (a ++ b) else none
  | _, _ => none
def asLst (f : Dt → Dt → Option (List Dt)) : Dt → Dt → Option Dt := fun d e => (f d e).map .lst
theorem Op2F.ok {r : R2} {f : Dt → Dt → Option (List Dt)} (h : Op2F G r f) : Op2Ok G r (asLst f) := fun an w S H d e x y z Q s td te ef q => by
  cases e1 : f d e with
  | none => unfold asLst at ef; rw [e1] at ef; cases ef
  | some l =>
    unfold asLst at ef
    rw [e1] at ef
    cases ef
    exact h an w S H d e x y l Q s td te e1 fun a xs ha k => q w _ _ (Grow.obj s ha) (s.obj ha) (.lst upd_same (s.out ha) (s.outx ha) (k.mono (Grow.obj s ha)))
theorem ok_addS : Op2Ok G (fun x y H Q => ∃ i j, x = .str i ∧ y = .str j ∧ i.length + j.length ≤ sizeLine ∧ Q (.str (i ++ j)) H) dAddS := by
  intro an w S H d e x y z Q s td te ef q
  cases d with
  | str a => cases e with
    | str b =>
      unfold dAddS at ef
      simp only at ef
      split at ef
      · rename_i hl
        cases ef
        exact ⟨a, b, td.str, te.str, line_ok hl, q w H _ Grow.refl s (.str _)⟩
      · cases ef
    | _ => cases ef
  | _ => cases ef
theorem ok_addT : Op2Ok G (rCatA G.K) dAddT := by
  intro an w S H d e x y z Q s td te ef q
  cases d with
  | tup ds => cases e with
    | tup es =>
      unfold dAddT at ef
      simp only at ef
      split at ef
      · rename_i hl
        cases ef
        obtain ⟨a, xs, rfl, h1, k1⟩ := td.tupH
        obtain ⟨b, ys, rfl, h2, k2⟩ := te.tupH
        refine ⟨a, b, xs, ys, rfl, rfl, .inl (.inl h1), .inl (.inl h2), by rw [← k1.length, ← k2.length]; exact line_ok hl, fun e0 => ?_, fun _ e0 => ?_, fun _ _ p hp => q w _ _ (Grow.obj s hp) (s.obj hp) (.tup upd_same ((k1.append k2).mono (Grow.obj s hp)))⟩
        · subst e0
          cases k1
          exact q w H _ Grow.refl s (.tup h2 k2)
        · subst e0
          cases k2
          rw [List.append_nil] at q
          exact q w H _ Grow.refl s (.tup h1 k1)
      · cases ef
    | _ => cases ef
  | _ => cases ef
theorem okF_cat : Op2F G rCat dAddL := by
  intro an w S H d e x y z Q s td te ef q
  cases d with
  | lst ds => cases e with
    | lst es =>
      unfold dAddL at ef
      simp only at ef
      split at ef
      · rename_i hl
        cases ef
        obtain ⟨a, xs, rfl, h1, k1⟩ := td.lst'
        obtain ⟨b, ys, rfl, h2, k2⟩ := te.lst'
        exact ⟨a, b, xs, ys, rfl, rfl, h1, h2, by rw [← k1.length, ← k2.length]; exact line_ok hl, fun p hp => q p _ hp (k1.append k2)⟩
      · cases ef
    | _ => cases ef
  | _ => cases ef
def dAdd : Dt → Dt → Option Dt := dOr dAddI (dOr dAddT (dOr (asLst dAddL) dAddS))
/-- + of ints, tuples, lists, texts -/
def rAddU (K : PySem.W.Frag) : R2 := fun x y H Q => (rI0 fun i j => .int (i + j)) x y H Q ∨ (rCatA K x y H Q ∨ (rCat x y H Q ∨ ∃ i j, x = .str i ∧ y = .str j ∧ i.length + j.length ≤ sizeLine ∧ Q (.str (i ++ j)) H))
theorem op_addU : OpR X (binaryOp .Add) (rAddU X.K) := op_add.or (op_catA.or (op_cat.or op_add_str))
theorem ok_addU : Op2Ok G (rAddU G.K) dAdd := ok_rI0.or (ok_addT.or (okF_cat.ok.or ok_addS))
section
variable {k : Nat} {a b : Expr} {ma mb : Mx} {pos : Pos}
theorem se_add (g : Gd G X W k) (ha : SE G an W X a ma) (hb : SE G an W X b mb) : SE G an W X (.BinOp a .Add b pos) (mOp2 dAdd ma mb) := se_op2 (op_addU (X := X)) (by rw [g.K]; exact ok_addU) ha hb
theorem sf_add (ha : SE G an W X a ma) (hb : SE G an W X b mb) : SF G an W X (.BinOp a .Add b pos) (mOp2F dAddL ma mb) := sf_op2 op_cat okF_cat ha hb
/-! ### -, *, //, %, **, <<, >>, & -/
def dSub : Dt → Dt → Option Dt := dII fun i j => some (.int (i - j))
theorem se_sub (ha : SE G an W X a ma) (hb : SE G an W X b mb) : SE G an W X (.BinOp a .Sub b pos) (mOp2 dSub ma mb) := se_op2 op_sub ok_rI0 ha hb
def dMulI : Dt → Dt → Option Dt := dII fun i j => if i.natAbs.log2 + j.natAbs.log2 < 1000000 then some (.int (i * j)) else none
theorem ok_mulI : Op2Ok G (rI CMulW fun i j => .int (i * j)) dMulI := ok_rI fun i j z h => by
  split at h
  · rename_i hc; cases h; exact ⟨hc, rfl⟩
  · cases h
def rep {α : Type} : Nat → List α → List α
  | 0, _ => []
  | n + 1, xs => xs ++ rep n xs
theorem rep_eq {α : Type} (n : Nat) (xs : List α) : rep n xs = (List.replicate n xs).flatten := by
  induction n with
  | zero => rfl
  | succ n ih => rw [rep, ih, List.replicate_succ, List.flatten_cons]
theorem PerL.rep {ds : List Dt} {vs : List V} (k : PerL G w H ds vs) : ∀ n, PerL G w H (EV.rep n ds) (EV.rep n vs)
  | 0 => .nil
  | n + 1 => k.append (PerL.rep k n)
def dMulL : Dt → Dt → Option (List Dt)
  | .lst ds, .int n => if iBd n && line (ds.length * n.toNat) then some (rep n.toNat ds) else none
  | _, _ => none
theorem okF_mul : Op2F G rRep dMulL := by
  intro an w S H d e x y z Q s td te ef q
  cases d with
  | lst ds => cases e with
    | int n =>
      unfold dMulL at ef
      simp only at ef
      split at ef
      · rename_i hl
        rw [Bool.and_eq_true] at hl
        cases ef
        obtain ⟨a, xs, rfl, h1, k1⟩ := td.lst'
        obtain ⟨b1, b2⟩ := iBd_ok hl.1
        refine ⟨a, n, xs, rfl, te.int, h1, by omega, by omega, by rw [← k1.length]; exact line_ok hl.2, fun p hp => ?_⟩
        rw [← rep_eq]
        exact q p _ hp (k1.rep _)
      · cases ef
    | _ => cases ef
  | _ => cases ef
def dMulT : Dt → Dt → Option Dt
  | .tup ds, .int n => if decide (2 ≤ n) && decide (n ≤ 1000) && decide (ds.length ≤ 1000) && !ds.isEmpty then some (.tup (rep n.toNat ds)) else none
  | _, _ => none
theorem ok_mulT : Op2Ok G (rRepT G.K) dMulT := by
  intro an w S H d e x y z Q s td te ef q
  cases d with
  | tup ds => cases e with
    | int n =>
      unfold dMulT at ef
      simp only at ef
      split at ef
      · rename_i hl
        simp only [Bool.and_eq_true, decide_eq_true_eq, Bool.not_eq_true'] at hl
        obtain ⟨⟨⟨c1, c2⟩, c3⟩, c4⟩ := hl
        cases ef
        obtain ⟨a, xs, rfl, h1, k1⟩ := td.tup
        refine ⟨a, n, xs, rfl, te.int, h1, fun e0 => ?_, c1, c2, by rw [← k1.length]; exact c3, fun p hp => ?_⟩
        · subst e0; cases k1; cases c4
        · rw [← rep_eq]
          exact q w _ _ (Grow.obj s hp) (s.obj hp) (.tup upd_same ((k1.rep _).mono (Grow.obj s hp)))
      · cases ef
    | _ => cases ef
  | _ => cases ef
def dMul : Dt → Dt → Option Dt := dOr dMulI (dOr (asLst dMulL) dMulT)
def rMulU (K : PySem.W.Frag) : R2 := fun x y H Q => (rI CMulW fun i j => .int (i * j)) x y H Q ∨ (rRep x y H Q ∨ rRepT K x y H Q)
theorem op_mulU : OpR X (binaryOp .Mult) (rMulU X.K) := op_mulW.or (op_rep.or op_repT)
theorem ok_mulU : Op2Ok G (rMulU G.K) dMul := ok_mulI.or (okF_mul.ok.or ok_mulT)
theorem se_mul (g : Gd G X W k) (ha : SE G an W X a ma) (hb : SE G an W X b mb) : SE G an W X (.BinOp a .Mult b pos) (mOp2 dMul ma mb) := se_op2 (op_mulU (X := X)) (by rw [g.K]; exact ok_mulU) ha hb
theorem sf_mul (ha : SE G an W X a ma) (hb : SE G an W X b mb) : SF G an W X (.BinOp a .Mult b pos) (mOp2F dMulL ma mb) := sf_op2 op_rep okF_mul ha hb
def dFdiv : Dt → Dt → Option Dt := dII fun i j => if decide (0 < j) && decide (j.natAbs.log2 < 9000) then some (.int (i / j)) else none
theorem se_fdiv (ha : SE G an W X a ma) (hb : SE G an W X b mb) : SE G an W X (.BinOp a .FloorDiv b pos) (mOp2 dFdiv ma mb) := se_op2 op_fdivW (ok_rI fun i j z h => by
  split at h
  · rename_i hc; rw [Bool.and_eq_true] at hc; cases h; exact ⟨⟨of_decide_eq_true hc.1, of_decide_eq_true hc.2⟩, rfl⟩
  · cases h) ha hb
def dMod : Dt → Dt → Option Dt := dII fun i j => if 0 < j then some (.int (i % j)) else none
theorem se_mod (ha : SE G an W X a ma) (hb : SE G an W X b mb) : SE G an W X (.BinOp a .Mod b pos) (mOp2 dMod ma mb) := se_op2 op_mod (ok_rI fun i j z h => by
  split at h
  · rename_i hc; cases h; exact ⟨hc, rfl⟩
  · cases h) ha hb
/-- great powers -/
def CPowW (i j : Int) : Prop := 0 ≤ j ∧ (Builtin.Int.intBits i : Int) * j ≤ 2 ^ 27
theorem op_powW : OpR X (binaryOp .Pow) (rI CPowW fun i j => .int (i ^ j.toNat)) := opI fun _ _ _ _ _ _ _ hc q => PyProof.Rows.pow_int hc.1 hc.2 q
def dPow : Dt → Dt → Option Dt := dII fun i j => if decide (0 ≤ j) && decide ((i.natAbs.log2 + 1) * j.toNat ≤ 134217728) then some (.int (i ^ j.toNat)) else none
theorem bits_le (i : Int) : Builtin.Int.intBits i ≤ i.natAbs.log2 + 1 := by
  unfold Builtin.Int.intBits
  split <;> omega
theorem se_pow (ha : SE G an W X a ma) (hb : SE G an W X b mb) : SE G an W X (.BinOp a .Pow b pos) (mOp2 dPow ma mb) := se_op2 op_powW (ok_rI fun i j z h => by
  split at h
  · rename_i hc
    rw [Bool.and_eq_true] at hc
    have h1 := of_decide_eq_true hc.1
    have h2 := of_decide_eq_true hc.2
    cases h
    refine ⟨⟨h1, ?_⟩, rfl⟩
    have h3 := Nat.mul_le_mul_right j.toNat (bits_le i)
    have h4 : ((Builtin.Int.intBits i * j.toNat : Nat) : Int) ≤ 134217728 := by omega
    rw [Int.natCast_mul, Int.toNat_of_nonneg h1] at h4
    exact h4
  · cases h) ha hb
def dShl : Dt → Dt → Option Dt := dII fun i j => if decide (0 ≤ j) && decide (j ≤ 1000000) && decide (i.natAbs < 18446744073709551616) then some (.int (i * 2 ^ j.toNat)) else none
theorem se_shl (ha : SE G an W X a ma) (hb : SE G an W X b mb) : SE G an W X (.BinOp a .LShift b pos) (mOp2 dShl ma mb) := se_op2 op_shl (ok_rI fun i j z h => by
  split at h
  · rename_i hc
    simp only [Bool.and_eq_true, decide_eq_true_eq] at hc
    cases h
    exact ⟨⟨hc.1.1, hc.1.2, hc.2⟩, rfl⟩
  · cases h) ha hb
def dShr : Dt → Dt → Option Dt := dII fun i j => if 0 ≤ j then some (.int (i / 2 ^ j.toNat)) else none
theorem se_shr (ha : SE G an W X a ma) (hb : SE G an W X b mb) : SE G an W X (.BinOp a .RShift b pos) (mOp2 dShr ma mb) := se_op2 op_shr (ok_rI fun i j z h => by
  split at h
  · rename_i hc; cases h; exact ⟨hc, rfl⟩
  · cases h) ha hb
/-- n & 1 -/
def dOdd : Dt → Dt → Option Dt := dII fun i j => if decide (0 ≤ i) && decide (j = 1) then some (.int (i % 2)) else none
theorem se_odd (ha : SE G an W X a ma) (hb : SE G an W X b mb) : SE G an W X (.BinOp a .BitAnd b pos) (mOp2 dOdd ma mb) := se_op2 op_odd (by
  intro an w S H d e x y z Q s td te ef q
  cases d with
  | int i => cases e with
    | int j =>
      have ef : (if decide (0 ≤ i) && decide (j = 1) then some (Dt.int (i % 2)) else none) = some z := ef
      split at ef
      · rename_i hc
        rw [Bool.and_eq_true] at hc
        have h1 := of_decide_eq_true hc.1
        have h2 := of_decide_eq_true hc.2
        cases ef
        refine ⟨i.toNat, by rw [td.int, Int.toNat_of_nonneg h1], by rw [te.int, h2], ?_⟩
        have e1 : ((i.toNat % 2 : Nat) : Int) = i % 2 := by omega
        rw [e1]
        exact q w H _ Grow.refl s (.int _)
      · cases ef
    | _ => cases ef
  | _ => cases ef) ha hb
/-! ### comparisons -/
def dLt : Dt → Dt → Option Dt := dII fun i j => some (.bl (decide (i < j)))
def dLe : Dt → Dt → Option Dt := dII fun i j => some (.bl (decide (i ≤ j)))
def dGt : Dt → Dt → Option Dt := dII fun i j => some (.bl (decide (j < i)))
def dGe : Dt → Dt → Option Dt := dII fun i j => some (.bl (decide (j ≤ i)))
theorem se_lt (ha : SE G an W X a ma) (hb : SE G an W X b mb) : SE G an W X (.Compare a [.Lt] [b] pos) (mOp2 dLt ma mb) := se_cmp op_lt ok_rB0 ha hb (nomark _)
theorem se_le (ha : SE G an W X a ma) (hb : SE G an W X b mb) : SE G an W X (.Compare a [.LtE] [b] pos) (mOp2 dLe ma mb) := se_cmp op_le ok_rB0 ha hb (nomark _)
theorem se_gt (ha : SE G an W X a ma) (hb : SE G an W X b mb) : SE G an W X (.Compare a [.Gt] [b] pos) (mOp2 dGt ma mb) := se_cmp op_gt ok_rB0 ha hb (nomark _)
theorem se_ge (ha : SE G an W X a ma) (hb : SE G an W X b mb) : SE G an W X (.Compare a [.GtE] [b] pos) (mOp2 dGe ma mb) := se_cmp op_ge ok_rB0 ha hb (nomark _)
theorem Gd.u64 (g : Gd G X W k) : X.A.units + 64 < cLine := by have := g.room.un; omega
theorem se_eq (g : Gd G X W k) (ha : SE G an W X a ma) (hb : SE G an W X b mb) : SE G an W X (.Compare a [.Eq] [b] pos) (mOp2 dEq ma mb) := se_cmp (op_eqD g.u64) (by rw [g.K]; exact ok_eq) ha hb (nomark _)
theorem se_ne (g : Gd G X W k) (ha : SE G an W X a ma) (hb : SE G an W X b mb) : SE G an W X (.Compare a [.NotEq] [b] pos) (mOp2 dNe ma mb) := se_cmp (op_neD g.u64) (by rw [g.K]; exact ok_ne) ha hb (nomark _)
end
/-! ### in -/
def flatD : Dt → Bool
  | .non | .bl _ | .int _ | .str _ => true
  | _ => false
def fEq : Dt → Dt → Bool
  | .non, .non => true
  | .bl a, .bl b => a == b
  | .bl a, .int b => (if a then 1 else 0) == b
  | .int a, .bl b => a == (if b then 1 else 0)
  | .int a, .int b => a == b
  | .str a, .str b => a == b
  | _, _ => false
def inD (d : Dt) (ds : List Dt) : Bool := ds.any fun e => fEq e d
def dIn (neg : Bool) (d e : Dt) : Option Dt := match e with
  | .tup ds => if flatD d && ds.all flatD then some (.bl (if neg then !inD d ds else inD d ds)) else none
  | .lst ds => if flatD d && ds.all flatD then some (.bl (if neg then !inD d ds else inD d ds)) else none
  | .tux ds => if flatD d && ds.all flatD then some (.bl (if neg then !inD d ds else inD d ds)) else none
  | _ => none
theorem Per.flat {d : Dt} {v : V} (h : Per G w H d v) (f : flatD d = true) : flatV v = true := by
  cases h <;> first | rfl | (cases f; done)
theorem Tp.flat {d : Dt} {v : V} (h : Tp G w H d v) (f : flatD d = true) : flatV v = true ∧ Per G w H d v := by
  cases h with
  | per h => exact ⟨h.flat f, h⟩
  | cell h => cases h <;> cases f
theorem PerL.flat : ∀ {ds : List Dt} {vs : List V}, PerL G w H ds vs → ds.all flatD = true → vs.all flatV = true
  | _, _, .nil, _ => rfl
  | _, _, .cons h k, f => by
    rw [List.all_cons, Bool.and_eq_true] at f
    rw [List.all_cons, h.flat f.1, PerL.flat k f.2]
    rfl
theorem fEq_ok {d e : Dt} {v u : V} (h : Per G w H d v) (h2 : Per G w H e u) (f : flatD d = true) (f2 : flatD e = true) : eqV v u = fEq d e := by
  cases h <;> first | (cases f; done) | (cases h2 <;> first | rfl | (cases f2; done))
theorem inD_ok {d : Dt} {v : V} (h : Per G w H d v) (f : flatD d = true) : ∀ {ds : List Dt} {vs : List V}, PerL G w H ds vs → ds.all flatD = true → inV v vs = inD d ds
  | _, _, .nil, _ => rfl
  | _, _, .cons p k, fs => by
    rw [List.all_cons, Bool.and_eq_true] at fs
    unfold inV inD
    rw [List.any_cons, List.any_cons, fEq_ok p h fs.1 f]
    have := inD_ok h f k fs.2
    unfold inV inD at this
    rw [this]
theorem ok_in {neg : Bool} : Op2Ok G (rIn G.K neg) (dIn neg) := by
  intro an w S H d e x y z Q s td te ef q
  have go : ∀ {a : Addr} {ds : List Dt} {xs : List V}, y = .ref a → (SqL G.K H a xs ∨ SqT G.K H a xs) → PerL G w H ds xs → (if flatD d && ds.all flatD then some (Dt.bl (if neg then !inD d ds else inD d ds)) else none) = some z → rIn G.K neg x y H Q := fun {a ds xs} ey hs k ef => by
    split at ef
    · rename_i hc
      rw [Bool.and_eq_true] at hc
      cases ef
      obtain ⟨f1, p⟩ := td.flat hc.1
      refine ⟨a, xs, ey, hs, f1, k.flat hc.2, ?_⟩
      rw [inD_ok p hc.1 k hc.2]
      exact q w H _ Grow.refl s (.bl _)
    · cases ef
  cases e with
  | tup ds =>
    obtain ⟨a, xs, rfl, h1, k1⟩ := te.tup
    exact go rfl (.inr h1) k1 ef
  | lst ds =>
    obtain ⟨a, xs, rfl, h1, k1⟩ := te.lst
    exact go rfl (.inl h1) k1 ef
  | tux ds =>
    obtain ⟨a, xs, rfl, h1, k1⟩ := te.tux
    exact go rfl (.inr h1) k1 ef
  | _ => cases ef
section
variable {k : Nat} {a b : Expr} {ma mb : Mx} {pos : Pos}
theorem se_in (g : Gd G X W k) (ha : SE G an W X a ma) (hb : SE G an W X b mb) (hm : behindInMarks .In b = false := by rfl) : SE G an W X (.Compare a [.In] [b] pos) (mOp2 (dIn false) ma mb) := se_cmp op_in_seq (by rw [g.K]; exact ok_in) ha hb hm
theorem se_nin (g : Gd G X W k) (ha : SE G an W X a ma) (hb : SE G an W X b mb) (hm : behindInMarks .NotIn b = false := by rfl) : SE G an W X (.Compare a [.NotIn] [b] pos) (mOp2 (dIn true) ma mb) := se_cmp op_notIn_seq (by rw [g.K]; exact ok_in) ha hb hm
/-! ### chains -/
def mChain (f f' : Dt → Dt → Option Dt) (ma mb mc : Mx) : Mx := fun env S => (ma env S).bind fun x S1 => (mb env S1).bind fun y S2 => match x, y with
  | .p d, .p e => (match f d e with
    | some (.bl true) => (mc env S2).bind fun u S3 => (match u with
      | .p c => (match f' e c with
        | some z => .ok (.p z) S3
        | none => .bad)
      | _ => .bad)
    | some (.bl false) => .ok (.p (.bl false)) S2
    | _ => .bad)
  | _, _ => .bad
theorem se_chain {c : Expr} {mc : Mx} {op op' : CmpOp} {r r' : R2} {f f' : Dt → Dt → Option Dt} (ho : OpR X (compareOp op) r) (hf : Op2Ok G r f) (ho' : OpR X (compareOp op') r') (hf' : Op2Ok G r' f') (ha : SE G an W X a ma) (hb : SE G an W X b mb) (hc : SE G an W X c mc)
    (h : PE X (.Compare a [op, op'] [b, c] pos) (tChain r r' (tM G an W ma) (tM G an W mb) (tM G an W mc))) : SE G an W X (.Compare a [op, op'] [b, c] pos) (mChain f f' ma mb mc) := by
  refine PE.imp h fun σ H Q ⟨env, w, S, hE, hS, q⟩ => ⟨env, w, S, hE, hS, (Pst.bind q).imp (fun x S1 w1 H1 r1 g1 s1 q1 v rv => ?_) fun _ _ _ z => z⟩
  refine ⟨env, w1, S1, hE.mono g1, s1, (Pst.bind q1).imp (fun y S2 w2 H2 r2 g2 s2 q2 u ru => ?_) fun _ _ _ z => z⟩
  cases rv with
  | loc h => exact q2.elim
  | @p d _ pv => cases ru with
    | loc h => exact q2.elim
    | @p e _ pu =>
      dsimp only at q2
      cases e1 : f d e with
      | none => rw [e1] at q2; exact q2.elim
      | some z =>
        rw [e1] at q2
        refine hf an w2 S2 H2 d e v u z _ s2 (.per (pv.mono g2)) (.per pu) e1 fun w3 H3 v3 g3 s3 p3 => ?_
        cases p3 with
        | bl k =>
          refine ⟨k, rfl, ?_⟩
          cases k with
          | false => exact q2 w3 H3 g3 s3 _ (.p (.bl false))
          | true =>
            refine ⟨env, w3, S2, ((hE.mono g1).mono g2).mono g3, s3, (Pst.bind (Pst.from q2 g3)).imp (fun t S4 w4 H4 r4 g4 s4 q4 v4 rv4 => ?_) fun _ _ _ z => z⟩
            cases rv4 with
            | loc h => exact q4.elim
            | @p c _ pc =>
              dsimp only at q4
              cases e2 : f' e c with
              | none => rw [e2] at q4; exact q4.elim
              | some z =>
                rw [e2] at q4
                exact hf' an w4 S4 H4 e c u v4 z _ s4 (.per ((pu.mono g3).mono g4)) (.per pc) e2 fun w5 H5 v5 g5 s5 p5 => q4 w5 H5 g5 s5 v5 (.p p5)
        | _ => exact q2.elim
end
end
end EV

set_option Elab.async false
set_option linter.all false
set_option maxRecDepth 100000
/-! EvR: subscripts, slices, calls of built-ins, raise. -/
namespace EV
open PySem L2

section
variable {G : Stat} {an : An} {w w' : Wd} {H H' : Hp} {S S' : Sto} {W : WX} {X : Cx}
/-! ### subscripts -/
def dIx : Dt → Dt → Option Dt
  | .tup ds, .int i => atI ds i
  | .lst ds, .int i => atI ds i
  | .fro ds, .int i => atI ds i
  | .tux ds, .int i => atI ds i
  | _, _ => none
theorem atI_ok {ds : List Dt} {vs : List V} {i : Int} {d : Dt} (k : PerL G w H ds vs) (e : atI ds i = some d) : ∃ v, atI vs i = some v ∧ Per G w H d v := by
  unfold atI at e ⊢
  rw [← k.length]
  cases z : ixN ds.length i with
  | none => rw [z] at e; cases e
  | some j => rw [z] at e; exact k.get e
theorem ok_ix : Op2Ok G (rIx G.K) dIx := by
  intro an w S H d e x y z Q s td te ef q
  cases e with
  | int i =>
    cases d with
    | tup ds =>
      obtain ⟨a, xs, rfl, h1, k1⟩ := td.tup
      obtain ⟨v, e1, p⟩ := atI_ok k1 ef
      exact .inr (.inl ⟨a, xs, i, v, rfl, te.int, h1, e1, q w H v Grow.refl s p⟩)
    | lst ds =>
      obtain ⟨a, xs, rfl, h1, k1⟩ := td.lst
      obtain ⟨v, e1, p⟩ := atI_ok k1 ef
      exact .inl ⟨a, xs, i, v, rfl, te.int, h1, e1, q w H v Grow.refl s p⟩
    | fro ds =>
      obtain ⟨a, xs, rfl, h1, k1⟩ := td.fro
      obtain ⟨v, e1, p⟩ := atI_ok k1 ef
      exact .inl ⟨a, xs, i, v, rfl, te.int, h1, e1, q w H v Grow.refl s p⟩
    | tux ds =>
      obtain ⟨a, xs, rfl, h1, k1⟩ := td.tux
      obtain ⟨v, e1, p⟩ := atI_ok k1 ef
      exact .inr (.inl ⟨a, xs, i, v, rfl, te.int, h1, e1, q w H v Grow.refl s p⟩)
    | _ => cases ef
  | _ => cases d <;> cases ef
theorem se_sub_ix {k : Nat} {a b : Expr} {ma mb : Mx} {pos : Pos} (g : Gd G X W k) (ha : SE G an W X a ma) (hb : SE G an W X b mb) (hs : PlainIx b := by exact fun _ _ => rfl) : SE G an W X (.Subscript a b pos) (mOp2 dIx ma mb) := se_ix ix_seq (by rw [g.K]; exact ok_ix) ha hb hs
/-! ### slices -/
def cutD (ds : List Dt) (lo hi : Option Int) : List Dt := (ds.drop (HT.sIx ds.length 0 lo)).take (HT.sIx ds.length ds.length hi - HT.sIx ds.length 0 lo)
theorem cut_ok {ds : List Dt} {vs : List V} (k : PerL G w H ds vs) (lo hi : Option Int) : PerL G w H (cutD ds lo hi) (cutV vs lo hi) := by
  unfold cutD cutV
  rw [← k.length]
  exact (k.drop _).take _
abbrev Mo := Slo → Sto → Rz (Option Int)
def moNo : Mo := fun _ S => .ok none S
def moSome (m : Mx) : Mo := fun env S => (m env S).bind fun x S1 => match x with
  | .p (.int i) => .ok (some i) S1
  | _ => .bad
def tOp1 (G : Stat) (an : An) (W : WX) (m : Mo) : TO := fun σ H Q => ∃ env w S, EnvR G w H env σ ∧ StoR G an w S H ∧ Pst G an w H (m env S) (fun o _ _ H' => Q o H') (fun c d H' => W c d σ H')
def SO (G : Stat) (an : An) (W : WX) (X : Cx) (e : Option Expr) (m : Mo) : Prop := PO X e (tOp1 G an W m)
theorem PO.imp {X : Cx} {e : Option Expr} {t t' : TO} (h : PO X e t) (k : ∀ σ H Q, t' σ H Q → t σ H Q) : PO X e t' := ⟨fun pins s σ H Q I q => h.run pins s σ H Q I (k σ H Q q)⟩
theorem so_no : SO G an W X none moNo := PO.imp po_none fun σ H Q ⟨env, w, S, hE, hS, q⟩ => q w H Grow.refl hS
theorem so_some {e : Expr} {m : Mx} (h : SE G an W X e m) : SO G an W X (some e) (moSome m) := by
  refine PO.imp (po_some h) fun σ H Q ⟨env, w, S, hE, hS, q⟩ => ⟨env, w, S, hE, hS, (Pst.bind q).imp (fun x S1 w1 H1 r1 g1 s1 q1 v rv => ?_) fun _ _ _ z => z⟩
  cases rv with
  | loc h => exact q1.elim
  | p h => cases h with
    | int i => exact ⟨i, rfl, q1 w1 H1 Grow.refl s1⟩
    | _ => exact q1.elim
def mSlT (m : Mx) (ml mh : Mo) : Mx := fun env S => (m env S).bind fun x S1 => (ml env S1).bind fun lo S2 => (mh env S2).bind fun hi S3 => match x with
  | .p (.tup ds) => .ok (.p (.tup (cutD ds lo hi))) S3
  | .p (.tux ds) => if HT.sIx ds.length 0 lo = 0 ∧ HT.sIx ds.length ds.length hi = ds.length then .ok (.p (.tux ds)) S3 else .ok (.p (.tup (cutD ds lo hi))) S3
  | _ => .bad
theorem cut_whole {ds : List Dt} {lo hi : Option Int} (h : HT.sIx ds.length 0 lo = 0 ∧ HT.sIx ds.length ds.length hi = ds.length) : cutD ds lo hi = ds := by
  unfold cutD
  rw [h.1, h.2, List.drop_zero, Nat.sub_zero, List.take_length]
theorem se_slT {k : Nat} {e : Expr} {m : Mx} {lo hi : Option Expr} {ml mh : Mo} {p2 pos : Pos} (g : Gd G X W k) (h : SE G an W X e m) (hl : SO G an W X lo ml) (hh : SO G an W X hi mh) : SE G an W X (.Subscript e (.Slice lo hi none p2) pos) (mSlT m ml mh) := by
  refine PE.imp (pe_slice sl_tupA h hl hh) fun σ H Q ⟨env, w, S, hE, hS, q⟩ => ⟨env, w, S, hE, hS, (Pst.bind q).imp (fun x S1 w1 H1 r1 g1 s1 q1 v rv => ?_) fun _ _ _ z => z⟩
  refine ⟨env, w1, S1, hE.mono g1, s1, (Pst.bind q1).imp (fun lo S2 w2 H2 r2 g2 s2 q2 => ?_) fun _ _ _ z => z⟩
  refine ⟨env, w2, S2, (hE.mono g1).mono g2, s2, (Pst.bind q2).imp (fun hi S3 w3 H3 r3 g3 s3 q3 => ?_) fun _ _ _ z => z⟩
  cases rv with
  | loc h => exact q3.elim
  | @p d _ pv => cases d with
    | tup ds =>
      obtain ⟨a, xs, rfl, h1, k1⟩ := ((pv.mono g2).mono g3).tupH
      refine ⟨a, xs, rfl, by rw [g.K]; exact .inl (.inl h1), fun c => ?_, fun _ p hp => q3 w3 _ (Grow.obj s3 hp) (s3.obj hp) _ (.p (.tup upd_same ((cut_ok k1 lo hi).mono (Grow.obj s3 hp))))⟩
      rw [← k1.length] at c
      have q3 : Pst G an w3 H3 (.ok (.p (.tup (cutD ds lo hi))) S3) (fun x _ w' H' => ∀ v, Rv G w' H' x v → Q v H') (fun c d H' => W c d σ H') := q3
      rw [cut_whole c] at q3
      exact q3 w3 H3 Grow.refl s3 _ (.p (.tup h1 k1))
    | tux ds =>
      obtain ⟨a, o, xs, rfl, h1, hd, k1⟩ := (Tp.per ((pv.mono g2).mono g3)).tuxH
      have q3 : Pst G an w3 H3 (if HT.sIx ds.length 0 lo = 0 ∧ HT.sIx ds.length ds.length hi = ds.length then .ok (.p (.tux ds)) S3 else .ok (.p (.tup (cutD ds lo hi))) S3) (fun x _ w' H' => ∀ v, Rv G w' H' x v → Q v H') (fun c d H' => W c d σ H') := q3
      refine ⟨a, xs, rfl, by rw [g.K]; exact .inl (.inr ⟨_, h1⟩), fun c => ?_, fun nc p hp => ?_⟩
      · rw [← k1.length] at c
        rw [if_pos c] at q3
        exact q3 w3 H3 Grow.refl s3 _ (.p (.tux h1 hd k1))
      · rw [← k1.length] at nc
        rw [if_neg nc] at q3
        exact q3 w3 _ (Grow.obj s3 hp) (s3.obj hp) _ (.p (.tup upd_same ((cut_ok k1 lo hi).mono (Grow.obj s3 hp))))
    | _ => exact q3.elim
def miSl (m : Mx) (ml mh : Mo) : Mi := fun env S => (m env S).bind fun x S1 => (ml env S1).bind fun lo S2 => (mh env S2).bind fun hi S3 => match x with
  | .p (.lst ds) => .ok (cutD ds lo hi) S3
  | _ => .bad
theorem sf_sl {k : Nat} {e : Expr} {m : Mx} {lo hi : Option Expr} {ml mh : Mo} {p2 pos : Pos} (g : Gd G X W k) (h : SE G an W X e m) (hl : SO G an W X lo ml) (hh : SO G an W X hi mh) : SF G an W X (.Subscript e (.Slice lo hi none p2) pos) (miSl m ml mh) := by
  refine PE.imp (pe_slice sl_list h hl hh) fun σ H Q ⟨env, w, S, hE, hS, q⟩ => ⟨env, w, S, hE, hS, (Pst.bind q).imp (fun x S1 w1 H1 r1 g1 s1 q1 v rv => ?_) fun _ _ _ z => z⟩
  refine ⟨env, w1, S1, hE.mono g1, s1, (Pst.bind q1).imp (fun lo S2 w2 H2 r2 g2 s2 q2 => ?_) fun _ _ _ z => z⟩
  refine ⟨env, w2, S2, (hE.mono g1).mono g2, s2, (Pst.bind q2).imp (fun hi S3 w3 H3 r3 g3 s3 q3 => ?_) fun _ _ _ z => z⟩
  cases rv with
  | loc h => exact q3.elim
  | @p d _ pv => cases d with
    | lst ds =>
      obtain ⟨a, xs, rfl, h1, k1⟩ := (Tp.per ((pv.mono g2).mono g3)).lst
      exact ⟨a, xs, rfl, by rw [g.K]; exact h1, fun p hp => q3 w3 H3 Grow.refl s3 p _ hp (cut_ok k1 lo hi)⟩
    | _ => exact q3.elim
/-! ### len, tuple(..), list(..) -/
def dLen : List Dt → Option Dt
  | [.tup ds] => some (.int ds.length)
  | [.lst ds] => some (.int ds.length)
  | [.fro ds] => some (.int ds.length)
  | [.tux ds] => some (.int ds.length)
  | _ => none
theorem TpL.one {d : Dt} {xs : List V} (h : TpL G w H [d] xs) : ∃ v, xs = [v] ∧ Tp G w H d v := by
  cases h with
  | cons h k => cases k; exact ⟨_, rfl, h⟩
theorem TpL.two {d e : Dt} {xs : List V} (h : TpL G w H [d, e] xs) : ∃ v u, xs = [v, u] ∧ Tp G w H d v ∧ Tp G w H e u := by
  cases h with
  | cons h k =>
    obtain ⟨u, rfl, h2⟩ := k.one
    exact ⟨_, u, rfl, h, h2⟩
theorem ok_len : PrOk G (fun xs H Q => ∃ x n, xs = [x] ∧ LenV G.K x H n ∧ Q (.int n) H) dLen := by
  intro an w S H ds xs z Q s ts ef q
  match ds, ef with
  | [.tup es], ef =>
    cases ef
    obtain ⟨v, rfl, t⟩ := ts.one
    obtain ⟨a, ys, rfl, h1, k1⟩ := t.tup
    exact ⟨_, _, rfl, .inr ⟨ys, h1, k1.length⟩, q w H _ Grow.refl s (.int _)⟩
  | [.lst es], ef =>
    cases ef
    obtain ⟨v, rfl, t⟩ := ts.one
    obtain ⟨a, ys, rfl, h1, k1⟩ := t.lst
    exact ⟨_, _, rfl, .inl ⟨ys, h1, k1.length⟩, q w H _ Grow.refl s (.int _)⟩
  | [.fro es], ef =>
    cases ef
    obtain ⟨v, rfl, t⟩ := ts.one
    obtain ⟨a, ys, rfl, h1, k1⟩ := t.fro
    exact ⟨_, _, rfl, .inl ⟨ys, h1, k1.length⟩, q w H _ Grow.refl s (.int _)⟩
  | [.tux es], ef =>
    cases ef
    obtain ⟨v, rfl, t⟩ := ts.one
    obtain ⟨a, ys, rfl, h1, k1⟩ := t.tux
    exact ⟨_, _, rfl, .inr ⟨ys, h1, k1.length⟩, q w H _ Grow.refl s (.int _)⟩
def dTuple : List Dt → Option Dt
  | [.tup ds] => some (.tup ds)
  | [.lst ds] => some (.tup ds)
  | [.tux ds] => some (.tux ds)
  | _ => none
theorem ok_tuple : PrOk G (fun xs H Q => ∃ p ys, xs = [.ref p] ∧ ((SqL G.K H p ys ∧ ∀ l, H l = none → Q (.ref l) (upd H l (.tup ys))) ∨ (SqT G.K H p ys ∧ Q (.ref p) H))) dTuple := by
  intro an w S H ds xs z Q s ts ef q
  match ds, ef with
  | [.tup es], ef =>
    cases ef
    obtain ⟨v, rfl, t⟩ := ts.one
    obtain ⟨a, ys, rfl, h1, k1⟩ := t.tupH
    exact ⟨_, _, rfl, .inr ⟨.inl (.inl h1), q w H _ Grow.refl s (.tup h1 k1)⟩⟩
  | [.lst es], ef =>
    cases ef
    obtain ⟨v, rfl, t⟩ := ts.one
    obtain ⟨a, ys, rfl, h1, k1⟩ := t.lst
    exact ⟨_, _, rfl, .inl ⟨h1, fun l hl => q w _ _ (Grow.obj s hl) (s.obj hl) (.tup upd_same (k1.mono (Grow.obj s hl)))⟩⟩
  | [.tux es], ef =>
    cases ef
    obtain ⟨v, rfl, t⟩ := ts.one
    obtain ⟨a, o, ys, rfl, h1, hd, k1⟩ := t.tuxH
    exact ⟨_, _, rfl, .inr ⟨.inl (.inr ⟨_, h1⟩), q w H _ Grow.refl s (.tux h1 hd k1)⟩⟩
def dList : List Dt → Option (List Dt)
  | [.tup ds] => some ds
  | [.lst ds] => some ds
  | [.tux ds] => some ds
  | _ => none
theorem okF_list : PrF G (fun xs H Q => ∃ p ys, xs = [.ref p] ∧ (SqL G.K H p ys ∨ SqT G.K H p ys) ∧ ∀ l, H l = none → Q (.ref l) (upd H l (.lst ys))) dList := by
  intro an w S H ds xs z Q s ts ef q
  match ds, ef with
  | [.tup es], ef =>
    cases ef
    obtain ⟨v, rfl, t⟩ := ts.one
    obtain ⟨a, ys, rfl, h1, k1⟩ := t.tup
    exact ⟨_, _, rfl, .inr h1, fun l hl => q w H l ys Grow.refl s hl k1⟩
  | [.lst es], ef =>
    cases ef
    obtain ⟨v, rfl, t⟩ := ts.one
    obtain ⟨a, ys, rfl, h1, k1⟩ := t.lst
    exact ⟨_, _, rfl, .inl h1, fun l hl => q w H l ys Grow.refl s hl k1⟩
  | [.tux es], ef =>
    cases ef
    obtain ⟨v, rfl, t⟩ := ts.one
    obtain ⟨a, ys, rfl, h1, k1⟩ := t.tux
    exact ⟨_, _, rfl, .inr h1, fun l hl => q w H l ys Grow.refl s hl k1⟩
/-! ### int, abs, max, min -/
def dInt : List Dt → Option Dt
  | [.int i] => some (.int i)
  | [.bl b] => some (.int (if b then 1 else 0))
  | _ => none
theorem ok_int : PrOk G (fun xs H Q => (∃ i, xs = [.int i] ∧ Q (.int i) H) ∨ ∃ k, xs = [.bl k] ∧ Q (.int (if k then 1 else 0)) H) dInt := by
  intro an w S H ds xs z Q s ts ef q
  match ds, ef with
  | [.int i], ef =>
    cases ef
    obtain ⟨v, rfl, t⟩ := ts.one
    exact .inl ⟨i, by rw [t.int], q w H _ Grow.refl s (.int _)⟩
  | [.bl b], ef =>
    cases ef
    obtain ⟨v, rfl, t⟩ := ts.one
    exact .inr ⟨b, by rw [t.bl], q w H _ Grow.refl s (.int _)⟩
def dI1 (f : Int → Int) : List Dt → Option Dt
  | [.int i] => some (.int (f i))
  | _ => none
theorem ok_I1 {f : Int → Int} : PrOk G (fun xs H Q => ∃ i, xs = [.int i] ∧ Q (.int (f i)) H) (dI1 f) := by
  intro an w S H ds xs z Q s ts ef q
  match ds, ef with
  | [.int i], ef =>
    cases ef
    obtain ⟨v, rfl, t⟩ := ts.one
    exact ⟨i, by rw [t.int], q w H _ Grow.refl s (.int _)⟩
def dI2 (f : Int → Int → Int) : List Dt → Option Dt
  | [.int i, .int j] => some (.int (f i j))
  | _ => none
theorem ok_I2 {f : Int → Int → Int} : PrOk G (fun xs H Q => ∃ i j, xs = [.int i, .int j] ∧ Q (.int (f i j)) H) (dI2 f) := by
  intro an w S H ds xs z Q s ts ef q
  match ds, ef with
  | [.int i, .int j], ef =>
    cases ef
    obtain ⟨v, u, rfl, t1, t2⟩ := ts.two
    exact ⟨i, j, by rw [t1.int, t2.int], q w H _ Grow.refl s (.int _)⟩
def fAbs (i : Int) : Int := if i < 0 then -i else i
def fMax (i j : Int) : Int := if j > i then j else i
def fMin (i j : Int) : Int := if j < i then j else i
def fGcd (a b : Int) : Int := ((Nat.gcd a.natAbs b.natAbs : Nat) : Int)
theorem ok_gcd : PrOk G rGcd (dI2 fGcd) := fun an w S H ds xs z Q s ts ef q => ok_I2 (f := fGcd) an w S H ds xs z Q s ts ef q
/-! ### all, any, sum -/
def blsD : List Dt → Option (List Bool)
  | [] => some []
  | .bl b :: r => (blsD r).map (b :: ·)
  | _ :: _ => none
theorem bls_ok : ∀ {ds : List Dt} {vs : List V} {bs : List Bool}, PerL G w H ds vs → blsD ds = some bs → vs = bs.map V.bl
  | _, _, _, .nil, e => by cases e; rfl
  | _, _, _, .cons (ds := r) (.bl b) k, e => by
    unfold blsD at e
    cases z : blsD r with
    | none => rw [z] at e; cases e
    | some cs => rw [z] at e; cases e; rw [bls_ok k z]; rfl
  | _, _, _, .cons .non _, e => by cases e
  | _, _, _, .cons (.int _) _, e => by cases e
  | _, _, _, .cons (.str _) _, e => by cases e
  | _, _, _, .cons (.tup _ _) _, e => by cases e
  | _, _, _, .cons (.lst _ _ _ _) _, e => by cases e
  | _, _, _, .cons (.frz _ _) _, e => by cases e
  | _, _, _, .cons (.wri _ _) _, e => by cases e
  | _, _, _, .cons (.dct _ _ _) _, e => by cases e
  | _, _, _, .cons (.fn _) _, e => by cases e
def intsD : List Dt → Option (List Int)
  | [] => some []
  | .int b :: r => (intsD r).map (b :: ·)
  | _ :: _ => none
theorem ints_ok : ∀ {ds : List Dt} {vs : List V} {bs : List Int}, PerL G w H ds vs → intsD ds = some bs → vs = bs.map V.int
  | _, _, _, .nil, e => by cases e; rfl
  | _, _, _, .cons (ds := r) (.int b) k, e => by
    unfold intsD at e
    cases z : intsD r with
    | none => rw [z] at e; cases e
    | some cs => rw [z] at e; cases e; rw [ints_ok k z]; rfl
  | _, _, _, .cons .non _, e => by cases e
  | _, _, _, .cons (.bl _) _, e => by cases e
  | _, _, _, .cons (.str _) _, e => by cases e
  | _, _, _, .cons (.tup _ _) _, e => by cases e
  | _, _, _, .cons (.lst _ _ _ _) _, e => by cases e
  | _, _, _, .cons (.frz _ _) _, e => by cases e
  | _, _, _, .cons (.wri _ _) _, e => by cases e
  | _, _, _, .cons (.dct _ _ _) _, e => by cases e
  | _, _, _, .cons (.fn _) _, e => by cases e
theorem PerL.ints : ∀ (ns : List Int), PerL G w H (ns.map Dt.int) (ns.map V.int)
  | [] => .nil
  | n :: r => .cons (.int n) (PerL.ints r)
def dAll : List Dt → Option Dt
  | [.lst ds] => (blsD ds).map fun bs => .bl (bs.all id)
  | _ => none
def dAny : List Dt → Option Dt
  | [.lst ds] => (blsD ds).map fun bs => .bl (bs.any id)
  | _ => none
def dSum : List Dt → Option Dt
  | [.lst ds] => (intsD ds).map fun ns => .int ns.sum
  | _ => none
theorem ok_all : PrOk G (rAll G.K) dAll := by
  intro an w S H ds xs z Q s ts ef q
  match ds, ef with
  | [.lst es], ef =>
    have ef : (blsD es).map (fun bs => Dt.bl (bs.all id)) = some z := ef
    cases e1 : blsD es with
    | none => rw [e1] at ef; cases ef
    | some bs =>
      rw [e1] at ef
      cases ef
      obtain ⟨v, rfl, t⟩ := ts.one
      obtain ⟨a, ys, rfl, h1, k1⟩ := t.lst
      have e2 := bls_ok k1 e1
      subst e2
      exact ⟨a, bs, rfl, h1, q w H _ Grow.refl s (.bl _)⟩
theorem ok_any : PrOk G (rAny G.K) dAny := by
  intro an w S H ds xs z Q s ts ef q
  match ds, ef with
  | [.lst es], ef =>
    have ef : (blsD es).map (fun bs => Dt.bl (bs.any id)) = some z := ef
    cases e1 : blsD es with
    | none => rw [e1] at ef; cases ef
    | some bs =>
      rw [e1] at ef
      cases ef
      obtain ⟨v, rfl, t⟩ := ts.one
      obtain ⟨a, ys, rfl, h1, k1⟩ := t.lst
      have e2 := bls_ok k1 e1
      subst e2
      exact ⟨a, bs, rfl, h1, q w H _ Grow.refl s (.bl _)⟩
theorem ok_sum : PrOk G (rSum G.K) dSum := by
  intro an w S H ds xs z Q s ts ef q
  match ds, ef with
  | [.lst es], ef =>
    have ef : (intsD es).map (fun ns => Dt.int ns.sum) = some z := ef
    cases e1 : intsD es with
    | none => rw [e1] at ef; cases ef
    | some bs =>
      rw [e1] at ef
      cases ef
      obtain ⟨v, rfl, t⟩ := ts.one
      obtain ⟨a, ys, rfl, h1, k1⟩ := t.lst
      have e2 := ints_ok k1 e1
      subst e2
      exact ⟨a, bs, rfl, h1, q w H _ Grow.refl s (.int _)⟩
/-! ### isinstance -/
def tyD : Dt → Option String
  | .non => some "NoneType"
  | .bl _ => some "bool"
  | .int _ => some "int"
  | .str _ => some "str"
  | .tup _ => some "tuple"
  | .lst _ => some "list"
  | .dct _ _ => some "dict"
  | .dtt _ _ => some "dict"
  | .tux _ => some "tuple"
  | .dcx _ _ _ _ => some "dict"
  | _ => none
def dIs (T : String) (d : Dt) : Option Dt := match tyD d with
  | some t => (kitB t T).map .bl
  | none => none
/-- .. also a dict with tuple keys that stays -/
inductive TyY (K : PySem.W.Frag) (H : Hp) : V → Value → Prop where
  | x {x : V} {t : Value} (h : TyX K H x t) : TyY K H x t
  | fT {a : Addr} {o : Obj} {kvs : List (List Key × V)} (e : H a = some (.frz o (.dT kvs))) : TyY K H (.ref a) (.type "dict")
  | fX {P : Program} {w : World} {b0 b1 : Bool} {a : Addr} {o : Obj} {kvs : List (Leaf × V)} (e : H a = some (.frz o (dXo P w b0 b1 a kvs))) : TyY K H (.ref a) (.type "dict")
def rIsiY (K : PySem.W.Frag) : List V → Hp → VK → Prop := fun xs H Q => ∃ (x c : V) (t u : Value) (b : Bool), xs = [x, c] ∧ ClsV c u ∧ TyY K H x t ∧ PySem.W.kitOne K t u = some b ∧ Q (.bl b) H
theorem call_isiY {X : Cx} : CallR X (.builtin "isinstance") (rIsiY X.K) := by
  intro pins s σ H xs us Q I r h
  obtain ⟨x, c, t, u, b, rfl, k, ty, e, q⟩ := h
  obtain ⟨u1, u2, rfl, r1, r2⟩ := vals2 r
  have e2 := k.eq r2
  subst e2
  have z : ∃ P : Heap → Prop, PySem.W.KitX X.K u1 t P ∧ P s.heap ∧ u1 ≠ .builtin "__main__.__loader__#opaque" := by
    cases ty with
    | x h => exact kit_of I r1 h
    | @fT a ob kvs ea =>
      cases (show u1 = Value.ref a from r1)
      obtain ⟨_, _, _, xs, _, o, es, ep, h1, h2, _⟩ := (show ObjOk X.prog X.w H s.heap a (.frz ob (.dT kvs)) from I.hok a _ ea)
      exact ⟨_, PySem.W.kitx_dict, ⟨o, h1, h2.1⟩, fun z => nomatch z⟩
    | @fX P w b0 b1 a ob kvs ea =>
      cases (show u1 = Value.ref a from r1)
      obtain ⟨_, ⟨_, _, us, _, o, es, ep, h1, h2, _⟩, _⟩ := (show ObjOk X.prog X.w H s.heap a (.frz ob (dXo P w b0 b1 a kvs)) from I.hok a _ ea)
      exact ⟨_, PySem.W.kitx_dict, ⟨o, h1, h2.1⟩, fun z => nomatch z⟩
  obtain ⟨P, Z, p, hx⟩ := z
  exact PySem.W.kia_one Z I.kIn p e hx fun tk => ⟨.bl b, H, I.tok tk, rfl, q⟩
theorem Per.ty {d : Dt} {v : V} {t : String} (h : Per G w H d v) (e : tyD d = some t) : TyY G.K H v (.type t) := by
  cases h with
  | non => cases e; exact .x (.base .non)
  | bl b => cases e; exact .x (.base (.bl b))
  | int i => cases e; exact .x (.base (.int i))
  | str s => cases e; exact .x (.base (.str s))
  | tup h k =>
    cases e
    exact .x (.base (.tup h))
  | lst h _ _ k => cases e; exact .x (.base (.lst h))
  | frz h k => cases e
  | wri h k => cases e
  | dct h _ _ => cases e; exact .x (.fDict h)
  | fn i => cases e
  | dtt h _ _ => cases e; exact .fT h
  | obj h _ _ _ _ => cases e
  | tux h hd k => cases e; exact .x (.fTuple h)
  | dcx h e2 k => cases e; exact .fX h
theorem Tp.ty {d : Dt} {v : V} {t : String} (h : Tp G w H d v) (e : tyD d = some t) : TyY G.K H v (.type t) := by
  cases h with
  | per h => exact h.ty e
  | cell h => cases h with
    | lst h k => cases e; exact .x (.base (.lst h))
    | dct h _ k => cases e; exact .x (.base (.dK h))
    | dtt h _ k => cases e; exact .x (.base (.dT h))
    | obj h _ k => cases e
def mIs (T : String) (m : Mx) : Mx := mOp1 (dIs T) m
theorem se_is {k : Nat} {e : Expr} {T : Str} {T' : String} {m : Mx} {p p2 pos : Pos} (g : Gd G X W k) (h : SE G an W X e m) (hm : G.mg "isinstance" = none) (hmT : G.mg T = none) (hvT : bootBuiltins T = some (.type T') := by decide +kernel) (hg : Gl X "isinstance" := by rfl) (hgT : Gl X T := by rfl)
    (hnT : T ≠ "__name__" := by decide) (hdT : (T == ("__debug__" : Str)) = false := by decide)
    (hs1 : starEach [.Name T p2] X.env = (false, eval (.Name T p2) X.env) :: starEach [] X.env := by rfl) (he : starEach [e, .Name T p2] X.env = (false, eval e X.env) :: starEach [.Name T p2] X.env := by rfl) (hpl : (backTo pos (starEach [.Name T p2] X.env)).any (·.1) = false := by rfl) :
    SE G an W X (.Call (.Name "isinstance" p) [e, .Name T p2] [] pos) (mIs T' m) := by
  have hT : PE X (.Name T p2) (tC (.ty T')) := pe_bltn hgT (by rw [g.mg]; exact hmT) hvT rfl hnT hdT
  refine PE.imp (pe_callB call_isiY hg (by rw [g.mg]; exact hm) (by decide +kernel) (pa_cons h (pa_cons hT pa_nil hs1) he) (by decide) (by decide) he hpl) fun σ H Q ⟨env, w, S, hE, hS, q⟩ => ⟨env, w, S, hE, hS, (Pst.bind q).imp (fun x S1 w1 H1 r1 g1 s1 q1 v rv => ?_) fun _ _ _ z => z⟩
  cases h1 : deref S1 x with
  | none => simp only [h1] at q1; exact q1.elim
  | some d => cases h3 : dIs T' d with
    | none => simp only [h1, h3] at q1; exact q1.elim
    | some z =>
      simp only [h1, h3] at q1
      unfold dIs at h3
      cases h4 : tyD d with
      | none => rw [h4] at h3; cases h3
      | some t => cases h5 : kitB t T' with
        | none => rw [h4] at h3; simp only [h5] at h3; cases h3
        | some b =>
          rw [h4] at h3
          simp only [h5] at h3
          cases h3
          exact ⟨v, .ty T', _, _, b, rfl, .ty T', by rw [g.K]; exact (rv.top s1 h1).ty h4, kit_ty h5, q1 w1 H1 Grow.refl s1 _ (.p (.bl b))⟩
/-! ### n.bit_length() -/
def dBits (d : Dt) : Option Dt := match d with
  | .int i => some (.int ((if i = 0 then 0 else i.natAbs.log2 + 1 : Nat) : Int))
  | _ => none
theorem se_bits {o : Expr} {m : Mx} {apos pos : Pos} (h : SE G an W X o m) (hbase : attributeBase o "bit_length" X.env (eval o X.env) = eval o X.env := by rfl) (hline : (apos.endLine == pos.line) = true := by rfl) : SE G an W X (.Call (.Attribute o "bit_length" apos) [] [] pos) (mOp1 dBits m) := by
  refine PE.imp (pe_bits h hbase hline) fun σ H Q ⟨env, w, S, hE, hS, q⟩ => ⟨env, w, S, hE, hS, (Pst.bind q).imp (fun x S1 w1 H1 r1 g1 s1 q1 v rv => ?_) fun _ _ _ z => z⟩
  cases h1 : deref S1 x with
  | none => simp only [h1] at q1; exact q1.elim
  | some d => cases d with
    | int i =>
      simp only [h1] at q1
      refine ⟨i, (rv.top s1 h1).int, ?_⟩
      have e : Builtin.Int.intBits i = if i = 0 then 0 else i.natAbs.log2 + 1 := by
        unfold Builtin.Int.intBits
        by_cases z : i = 0
        · rw [if_pos z, if_pos (by simpa using z)]
        · rw [if_neg z, if_neg (by simpa using z)]
      rw [e]
      exact q1 w1 H1 Grow.refl s1 _ (.p (.int _))
    | _ => simp only [h1] at q1; exact q1.elim
/-! ### raise -/
structure ExT (G : Stat) (c : Nat) (x : Str) : Prop where
  mg : G.mg x = some (.ref (G.ca c))
  xP : PySem.W.excIn G.K (G.ca c) [.type "ValueError", .type "Exception", .type "BaseException", .type "object"] "ValueError.__new__" = true
  kP : PySem.W.keepIn G.K (.ref (G.ca c)) = true
  bP : PySem.W.subIn G.K (.ref (G.ca c)) (.type "BaseException") = some true
  tP : PySem.W.typeIn G.K (.ref (G.ca c)) = some (.type "type")
  cf : G.cf c = none
theorem ss_raise {k c : Nat} {x m : Str} {j : Nat} {p p2 pos pos2 : Pos} (g : Gd G X W k) (T : ExT G c x) (hg : Gl X x := by rfl) (hdb : (x == ("__debug__" : Str)) = false := by decide) :
    SS G an W X (.Raise (some (.Call (.Name x p) [.Constant (.str m) j p2] [] pos)) none pos2) (fun env S => .exc c .non env S) := by
  refine PS.imp (ps_raise g.calm g.tk (pmk_own PySem.F.excBase_ValueError (by rw [g.K]; exact T.xP) (by rw [g.mg]; exact T.mg) (by rw [g.K]; exact T.kP) (raises_own (by rw [g.K]; exact T.bP) (by rw [g.K]; exact T.tP)) hg hdb)) fun D σ H ⟨env, w, S, hE, hS, q⟩ => ?_
  exact q w H σ _ _ Grow.refl hS hE ⟨rfl, by rw [T.cf]; exact ⟨rfl, rfl⟩⟩
/-- a class over ValueError with def __init__(self, f): self.f = f -/
def spI (C : Addr) (f : Str) : Sp := fun vs H Q _ => ∃ a v, vs = [.ref a, v] ∧ H a = some (exo a C none) ∧ ∀ d, H d = none → d ≠ a → Q .non (upd (upd H d (exd d [(f, v)])) a (exo a C (some d)))
structure ExI (G : Stat) (c : Nat) (x f : Str) : Prop where
  mg : G.mg x = some (.ref (G.ca c))
  T : OexC G.K (G.ca c)
  fn : ∃ fI fd ps, PySem.W.findIn G.K (.ref (G.ca c)) "__init__" = some (some (.ref fI)) ∧ PySem.W.typeIn G.K (.ref fI) = some (.type "function") ∧ FnOk G.P G.w G.K G.mg G.base CX0 1 fI fd ps (spI (G.ca c) f) ∧ Binds G.K fd ps []
  cf : G.cf c = some f
theorem init_read {K : PySem.W.Frag} {C : Addr} {f : Str} {vs : List V} {H : Hp} {Q : VK} {E : XK} {N : List Str} (T : OexC K C) (hno : PySem.W.findIn K (.ref C) f = some none) (hN : N.length = 2) (h : spI C f vs H Q E) : tOst K f (tVar 0) (tVar 1) { nx := fun _ H' => Q .non H', rt := Q } (L2.start N vs) H := by
  obtain ⟨a, v, rfl, h1, q⟩ := h
  have e : L2.start N [.ref a, v] = [some (.ref a), some v] := by unfold L2.start; rw [hN]; rfl
  rw [e]
  exact ⟨v, rfl, .ref a, rfl, a, C, rfl, T, hno, .inl ⟨h1, q⟩⟩
def sRaiseI (c : Nat) (m : Mx) : Sx := fun env S => liftE (m env S) env fun x S1 => match x with
  | .p d => .exc c d env S1
  | _ => .bad
theorem ss_raiseI {k c : Nat} {x f : Str} {e : Expr} {m : Mx} {p pos pos2 : Pos} (g : Gd G X W (k + 2)) (T : ExI G c x f) (h : SE G an W X e m) (hg : Gl X x := by rfl) (hdb : (x == ("__debug__" : Str)) = false := by decide)
    (he : starEach [e] X.env = (false, eval e X.env) :: starEach [] X.env := by rfl) (hpl : (backTo pos (starEach [] X.env)).any (·.1) = false := by rfl) : SS G an W X (.Raise (some (.Call (.Name x p) [e] [] pos)) none pos2) (sRaiseI c m) := by
  obtain ⟨fI, fd, ps, h1, h2, F, hb⟩ := T.fn
  have F : FnOk X.prog X.w X.K X.mg X.base CX0 1 fI fd ps (spI (G.ca c) f) := by rw [g.P, g.w, g.K, g.mg, g.base]; exact F
  refine PS.imp (ps_raise g.calm g.tk (pmk_oex (dvs := []) (by rw [g.K]; exact T.T) (by rw [g.K]; exact h1) (by rw [g.K]; exact h2) F (g.room.mono (by omega)) (by rw [g.K]; exact hb) .nil pass0 hg (by rw [g.mg]; exact T.mg) (pa_cons h pa_nil he) hdb he hpl)) fun D σ H ⟨env, w, S, hE, hS, q⟩ => ⟨env, w, S, hE, hS, (q.lift hE).imp (fun x S1 w1 H1 r1 g1 s1 q1 v rv => ?_) fun _ _ _ z => z⟩
  cases rv with
  | loc h => exact q1.elim
  | @p d _ pv =>
    refine ⟨(show 1 ≤ 1000 by decide), fun a ha => ⟨a, v, rfl, upd_same, fun dx hdx hne => ⟨rfl, dx, [(f, v)], upd_same, by rw [upd_ne hne, upd_same], ?_, ?_⟩⟩⟩
    · have z : dx ≠ a := hne
      rw [upd_ne z] at hdx
      exact hdx
    · have hd : H1 dx = none := by rw [upd_ne hne] at hdx; exact hdx
      have e : upd (L2.del (upd (upd (upd H1 a (exo a (G.ca c) none)) dx (exd dx [(f, v)])) a (exo a (G.ca c) (some dx))) a) dx (.xd [(f, v)]) = upd H1 dx (.xd [(f, v)]) := by
        funext b
        by_cases e1 : b = dx
        · rw [e1, upd_same, upd_same]
        · rw [upd_ne e1, upd_ne e1]
          by_cases e2 : b = a
          · rw [e2, L2.del_same, ha]
          · rw [L2.del_ne e2, upd_ne e2, upd_ne e1, upd_ne e2]
      rw [e]
      exact q1 w1 _ σ _ _ (Grow.obj s1 hd) (s1.obj hd) ((hE.mono g1).mono (Grow.obj s1 hd)) ⟨rfl, by rw [T.cf]; exact ⟨dx, v, rfl, upd_same, pv.mono (Grow.obj s1 hd)⟩⟩
end
end EV

set_option Elab.async false
set_option linter.all false
set_option maxRecDepth 100000
/-! EvS: defs whose answer is a new list; defs of data alone; more built-ins. -/
namespace EV
open PySem L2

section
variable {G : Stat} {an : An} {w w' : Wd} {H H' : Hp} {S S' : Sto} {W : WX} {X : Cx}
theorem FnF.mono {j k : Nat} {x : Str} {a : Addr} {n : Nat} {dd : List Dt} {f : Fs} (h : FnF G j x a n dd f) (hj : j ≤ k) : FnF G k x a n dd f :=
  ⟨let ⟨fd, ps, ds, dvs, F, r⟩ := h.ex; ⟨fd, ps, ds, dvs, F.mono hj, r⟩, h.mg, h.kp⟩

/-! ### a new list as the answer -/
theorem Per.cutD {a : Addr} {u : HO} (g : Grow w H w' H') (h : H' a = some u) (cu : Cel u) (ha : a ∈ w'.rho) {d : Dt} {v : V} (p : Per G w' H' d v) : Per G w (delH H' a) d v := by
  obtain ⟨t, et⟩ := g.pre
  have n1 : ∀ {b}, b ∉ w'.rho → b ∉ w.rho := fun {b} h m => h (by rw [et]; exact List.mem_append_left _ m)
  have n2 : ∀ {b}, b ∉ w'.rho → b ≠ a := fun {b} hb e => hb (by rw [e]; exact ha)
  refine Per.rec (motive_1 := fun d v _ => Per G w (delH H' a) d v) (motive_2 := fun ds vs _ => PerL G w (delH H' a) ds vs) .non (fun b => .bl b) (fun i => .int i) (fun s => .str s) (fun t _ k => .tup (by rw [delH_ne (fun e => by rw [e, h] at t; cases t; exact cu)]; exact t) k)
    (fun t m1 m2 _ k => .lst (by rw [delH_ne (n2 m1)]; exact t) (n1 m1) (fun m => m2 (g.xi _ m)) k)
    (fun {b o xs ds} t _ k => .frz (by rw [delH_ne (fun e => by rw [e, h] at t; cases t; exact cu)]; exact t) k) (fun t _ k => .wri t k) (fun t e _ k => .dct (by rw [delH_ne (fun z => by rw [z, h] at t; cases t; exact cu)]; exact t) e k) (fun i => .fn i)
    (fun t e _ k => .dtt (by rw [delH_ne (fun z => by rw [z, h] at t; cases t; exact cu)]; exact t) e k) (fun t m1 m2 e _ k => .obj (by rw [delH_ne (n2 m1)]; exact t) (n1 m1) (fun m => m2 (g.xi _ m)) e k) (fun t e _ k => .dcx (by rw [delH_ne (fun e => by rw [e, h] at t; cases t; exact cu)]; exact t) e k) (fun t hd _ k => .tux (by rw [delH_ne (fun e => by rw [e, h] at t; cases t; exact cu)]; exact t) hd k) .nil (fun _ _ p k => .cons p k) p
theorem PerL.cutD {a : Addr} {u : HO} (g : Grow w H w' H') (h : H' a = some u) (cu : Cel u) (ha : a ∈ w'.rho) : ∀ {ds : List Dt} {vs : List V}, PerL G w' H' ds vs → PerL G w (delH H' a) ds vs
  | _, _, .nil => .nil
  | _, _, .cons p k => .cons (p.cutD g h cu ha) (PerL.cutD g h cu ha k)
theorem Grow.cutD {a : Addr} (g : Grow w H w' H') (h : Nn H a) : Grow w H w (delH H' a) :=
  ⟨⟨[], by simp⟩, fun _ m => m, fun b m n => absurd m n, fun b m n => absurd m n, fun b o e n nt => by rw [delH_ne (h.ne e nt)]; exact g.keep' b o e n nt, fun b xs e => by rw [delH_ne (h.ne e (fun ps z => nomatch z))]; exact g.tups b xs e, fun b o u e => by rw [delH_ne (h.ne e (fun ps z => nomatch z))]; exact g.frzs b o u e⟩
theorem CeR.cutD {a b : Addr} {u : HO} (g : Grow w H w' H') (h : H' a = some u) (cu : Cel u) (ha : a ∈ w'.rho) (nb : b ≠ a) {d : Dt} (c : CeR G w' H' d b) : CeR G w (delH H' a) d b := by
  cases c with
  | lst t k => exact .lst (by rw [delH_ne nb]; exact t) (k.cutD g h cu ha)
  | dct t e k => exact .dct (by rw [delH_ne nb]; exact t) e (k.cutD g h cu ha)
  | dtt t e k => exact .dtt (by rw [delH_ne nb]; exact t) e (k.cutD g h cu ha)
  | obj t e k => exact .obj (by rw [delH_ne nb]; exact t) e (k.cutD g h cu ha)
theorem StoR.cutD {a : Addr} {u : HO} (s : StoR G an w S H) (g : Grow w H w' H') (s' : StoR G an w' S' H') (h : H' a = some u) (cu : Cel u) (ha : a ∈ w'.rho) (h0 : Nn H a) : StoR G an w (S'.take S.length) (delH H' a) := by
  obtain ⟨t, et⟩ := g.pre
  have hr : ∀ b ∈ w.rho, b ≠ a := fun b m e => by
    obtain ⟨o, h2, c⟩ := s.has m
    exact h0.ne h2 c.ntbl e
  refine ⟨?_, s.nd, fun n b e => ?_, fun b m => ⟨(s.ax b m).1, ?_⟩, an.m _ _ _ _ (g.cutD h0) s.anc, tb_del s'.tb h cu⟩
  · rw [List.length_take, s'.len, et, List.length_append, s.len]; omega
  · have hn := (List.getElem?_eq_some_iff.mp e).1
    obtain ⟨d, h1, c⟩ := s'.at' n b (by rw [et, List.getElem?_append_left hn]; exact e)
    exact ⟨d, by rw [List.getElem?_take_of_lt (by rw [s.len]; exact hn)]; exact h1, c.cutD g h cu ha (hr b (List.mem_of_getElem? e))⟩
  · obtain ⟨o, ho, co⟩ := (s'.ax b (g.xi b m)).2
    refine ⟨o, ?_, co⟩
    rw [delH_ne (fun e => ?_)]
    · exact ho
    · obtain ⟨o2, ho2, c2⟩ := (s.ax b m).2
      exact h0.ne ho2 c2.ntbl e
abbrev Fl := List Vl → Sto → Rz (List Dt)
def fnSemF (N : Nat) (m : Sx) : Fl := fun xs S => match m (xs.map some ++ List.replicate (N - xs.length) none) S with
  | .rt (.loc k) S' => if k < S.length then .bad else match S'[k]? with
    | some (.lst ds) => .ok ds (S'.take S.length)
    | _ => .bad
  | .exc c p _ S' => .exc c p (S'.take S.length)
  | _ => .bad
def spOfF (G : Stat) (n : Nat) (f : Fl) : Sp := fun vs H Q E => ∃ xs w S, RvL G w H xs vs ∧ xs.length = n ∧ StoR G an0 w S H ∧ Pst G an0 w H (f xs S) (fun ds _ w' H' => ∀ a ys, H' a = none → PerL G w' H' ds ys → Q (.ref a) (upd H' a (.lst ys))) E
theorem fn_readF {N : List Str} {n : Nat} {m : Sx} {vs : List V} {Q : VK} {E : XK} (h : spOfF G n (fnSemF N.length m) vs H Q E) :
    tSt G an0 (fun c d _ H => E c d H) m { nx := fun _ H' => Q .non H', rt := Q } (L2.start N vs) H := by
  obtain ⟨xs, w, S, r, hn, hS, q⟩ := h
  refine ⟨_, w, S, start_env r, hS, ?_⟩
  unfold fnSemF at q
  cases e : m (xs.map some ++ List.replicate (N.length - xs.length) none) S with
  | nx env S' => rw [e] at q; exact q.elim
  | rt x S' =>
    rw [e] at q
    cases x with
    | p d => exact q.elim
    | loc k =>
      intro w' H' v g s rv
      cases rv with
      | @loc k a hk =>
        obtain ⟨t, et⟩ := g.pre
        have q : Pst G an0 w H (if k < S.length then Rz.bad else match S'[k]? with
          | some (.lst ds) => .ok ds (S'.take S.length)
          | _ => .bad) (fun ds _ w' H' => ∀ a ys, H' a = none → PerL G w' H' ds ys → Q (.ref a) (upd H' a (.lst ys))) E := q
        by_cases hl : k < S.length
        · rw [if_pos hl] at q; exact q.elim
        · rw [if_neg hl] at q
          split at q
          · rename_i ds e1
            obtain ⟨ys, f2, f3⟩ := s.lst hk e1
            have hm : a ∈ w'.rho := List.mem_of_getElem? hk
            have hn : a ∉ w.rho := fun z => hl (by
              obtain ⟨j, hj, ej⟩ := List.getElem_of_mem z
              have h1 : w'.rho[j]? = some a := by rw [et, List.getElem?_append_left hj, List.getElem?_eq_getElem hj, ej]
              obtain ⟨b1, e1⟩ := List.getElem?_eq_some_iff.mp h1
              obtain ⟨b2, e2⟩ := List.getElem?_eq_some_iff.mp hk
              have : j = k := (List.getElem_inj s.nd).mp (e1.trans e2.symm)
              rw [← this, hS.len]
              exact hj)
            have h0 := g.new a hm hn
            have z := q w (delH H' a) (g.cutD h0) (hS.cutD g s f2 trivial hm h0) a ys delH_same (f3.cutD g f2 trivial hm)
            rw [upd_del f2] at z
            exact z
          · exact q.elim
  | bk env S' => rw [e] at q; exact q.elim
  | ct env S' => rw [e] at q; exact q.elim
  | exc c p env S' =>
    rw [e] at q
    exact fun w' H' σ' cls dd g s _ x => q w H' cls dd g.cut (hS.cut g s) (x.cut g)
  | bad => rw [e] at q; exact q.elim
theorem fn_okF {x qual : Str} {st : Stmt} {f : Addr} {fd : FuncData} {N ps : List Str} {k n : Nat} {m : Sx} (F : Fun G.K x qual st f fd) (Sc : FnScope N ps (defScope st)) (hn : ps.length = n)
    (hb : ∀ (cdv : Value) (A : Around) (outer : List PySem.Env) (s : Shared) (H : Hp) (E : XK), Gd G (cxOf (L2.CX G.P G.w) G.P G.w G.K G.mg G.base N qual (defScope st) f cdv A outer s H E) (fun c d _ H => E c d H) k →
      SB G an0 (fun c d _ H => E c d H) (cxOf (L2.CX G.P G.w) G.P G.w G.K G.mg G.base N qual (defScope st) f cdv A outer s H E) (defBody st) m) :
    FnOk G.P G.w G.K G.mg G.base (L2.CX G.P G.w) (k + 1) f fd ps (spOfF G n (fnSemF N.length m)) := by
  refine F.okX Sc (fun vs H Q E h => ?_) (fun cdv A outer s H vs Q E hr h => ⟨_, hb cdv A outer s H E ?_, fn_readF h⟩)
  · obtain ⟨xs, w, S, r, h1, _⟩ := h
    rw [← r.length, h1, hn]
  · exact ⟨rfl, rfl, rfl, rfl, rfl, rfl, Sc.nd, takes_of rfl rfl rfl rfl, hr, passes_of rfl⟩
structure FnL (G : Stat) (k : Nat) (x : Str) (a : Addr) (n : Nat) (dd : List Dt) (f : Fl) : Prop where
  ex : ∃ fd ps ds dvs, FnOk G.P G.w G.K G.mg G.base (L2.CX G.P G.w) k a fd ps (spOfF G n f) ∧ Binds G.K fd ps ds ∧ Vals dvs ds ∧ ∀ w H, PerL G w H dd dvs
  mg : G.mg x = some (.ref a)
  kp : PySem.W.keepIn G.K (.ref a) = true
theorem FnL.mono {j k : Nat} {x : Str} {a : Addr} {n : Nat} {dd : List Dt} {f : Fl} (h : FnL G j x a n dd f) (hj : j ≤ k) : FnL G k x a n dd f :=
  ⟨let ⟨fd, ps, ds, dvs, F, r⟩ := h.ex; ⟨fd, ps, ds, dvs, F.mono hj, r⟩, h.mg, h.kp⟩
theorem Pst.toF {r : Rz (List Dt)} {Q : VK} {E : XK} (ha : an.p w H) (q : Pst G an w H r (fun ds _ w' H' => ∀ a ys, H' a = none → PerL G w' H' ds ys → Q (.ref a) (upd H' a (.lst ys))) E) : Pst G an0 w H r (fun ds _ w' H' => ∀ a ys, H' a = none → PerL G w' H' ds ys → Q (.ref a) (upd H' a (.lst ys))) E := Pst.to0 ha q
def mCallF (f : Fl) (n : Nat) (dd : List Dt) (ma : Ma) : Mi := fun env S => (ma env S).bind fun xs S1 => if (xs ++ dd.map Vl.p).length = n then f (xs ++ dd.map Vl.p) S1 else .bad
theorem sf_call {k n : Nat} {x : Str} {a : Addr} {dd : List Dt} {f : Fl} {e : Expr} {es : List Expr} {ma : Ma} {p pos : Pos} (g : Gd G X W k) (h : FnL G k x a n dd f) (ha : SA G an W X (e :: es) ma) (hg : Gl X x := by rfl)
    (hdb : (x == ("__debug__" : Str)) = false := by decide) (he : starEach (e :: es) X.env = (false, eval e X.env) :: starEach es X.env := by rfl) (hpl : (backTo pos (starEach es X.env)).any (·.1) = false := by rfl) :
    SF G an W X (.Call (.Name x p) (e :: es) [] pos) (mCallF f n dd ma) := by
  obtain ⟨fd, ps, ds, dvs, F, hb, hd, hdd⟩ := h.ex
  refine ⟨fun pins s σ H Q I ⟨env, w, S, hE, hS, q⟩ => ?_⟩
  refine wpAny_Call_Name_kw (ld_glob I hg (by rw [g.mg]; exact h.mg) ?_ hdb)
  refine PySem.W.callWith_K (h₀ := X.base) I.ok.mod.kin (by rw [g.K]; exact h.kp) (thn (ha.run pos pins s σ H (fun vs H1 => spOfF G n f (vs ++ dvs) H1 Q (WE W σ)) I ⟨env, w, S, hE, hS, (Pst.bind q).imp (fun xs S1 w1 H1 r1 g1 s1 q1 vs rvs => ?_) fun _ _ _ z => z⟩) fun us s1 ⟨vs, H1, I1, r, q⟩ => ⟨I1.kIn, ?_⟩) he hpl
  · split at q1
    · rename_i hl
      exact ⟨_, w1, S1, rvs.app (hdd w1 H1).vals, hl, s1.to0, Pst.toF s1.anc q1⟩
    · exact q1.elim
  · exact go_fn g F hb hd I1 r q

/-! ### defs of data alone -/
/-- no cell at all: the caller's cells are put aside -/
abbrev Wd.bare (w : Wd) : Wd := ⟨[], w.xi ++ w.rho⟩
mutual
theorem Per.bare : ∀ {d : Dt} {v : V}, Per G w H d v → Per G w.bare H d v
  | _, _, .non => .non
  | _, _, .bl b => .bl b
  | _, _, .int i => .int i
  | _, _, .str s => .str s
  | _, _, .tup h k => .tup h (PerL.bare k)
  | _, _, .lst h n1 n2 k => .lst h (by simp) (fun m => (List.mem_append.mp m).elim n2 n1) (PerL.bare k)
  | _, _, .frz h k => .frz h (PerL.bare k)
  | _, _, .wri h k => .wri h (PerL.bare k)
  | _, _, .tux h hd k => .tux h hd (PerL.bare k)
  | _, _, .dcx h e k => .dcx h e (PerL.bare k)
  | _, _, .dct h e k => .dct h e (PerL.bare k)
  | _, _, .fn i => .fn i
  | _, _, .dtt h e k => .dtt h e (PerL.bare k)
  | _, _, .obj h n1 n2 e k => .obj h (by simp) (fun m => (List.mem_append.mp m).elim n2 n1) e (PerL.bare k)
theorem PerL.bare : ∀ {ds : List Dt} {vs : List V}, PerL G w H ds vs → PerL G w.bare H ds vs
  | _, _, .nil => .nil
  | _, _, .cons h k => .cons (Per.bare h) (PerL.bare k)
end
mutual
theorem Per.unbare : ∀ {d : Dt} {v : V}, Per G w.bare H d v → Per G w H d v
  | _, _, .non => .non
  | _, _, .bl b => .bl b
  | _, _, .int i => .int i
  | _, _, .str s => .str s
  | _, _, .tup h k => .tup h (PerL.unbare k)
  | _, _, .lst h n1 n2 k => .lst h (fun m => n2 (List.mem_append_right _ m)) (fun m => n2 (List.mem_append_left _ m)) (PerL.unbare k)
  | _, _, .frz h k => .frz h (PerL.unbare k)
  | _, _, .wri h k => .wri h (PerL.unbare k)
  | _, _, .tux h hd k => .tux h hd (PerL.unbare k)
  | _, _, .dcx h e k => .dcx h e (PerL.unbare k)
  | _, _, .dct h e k => .dct h e (PerL.unbare k)
  | _, _, .fn i => .fn i
  | _, _, .dtt h e k => .dtt h e (PerL.unbare k)
  | _, _, .obj h n1 n2 e k => .obj h (fun m => n2 (List.mem_append_right _ m)) (fun m => n2 (List.mem_append_left _ m)) e (PerL.unbare k)
theorem PerL.unbare : ∀ {ds : List Dt} {vs : List V}, PerL G w.bare H ds vs → PerL G w H ds vs
  | _, _, .nil => .nil
  | _, _, .cons h k => .cons (Per.unbare h) (PerL.unbare k)
end
inductive Ry where
  | ok (d : Dt) | exc (c : Nat) (p : Dt) | bad
abbrev Pf := List Dt → Ry
/-- a def of data: run with no cell at all -/
def toP (f : Fs) : Pf := fun ds => match f (ds.map .p) [] with
  | .ok (.p d) _ => .ok d
  | .exc c p _ => .exc c p
  | _ => .bad
def pur (g : Pf) : Fs := fun xs S => match allP xs with
  | some ds => match g ds with
    | .ok d => .ok (.p d) S
    | .exc c p => .exc c p S
    | .bad => .bad
  | none => .bad
theorem allP_eq : ∀ {xs : List Vl} {ds : List Dt}, allP xs = some ds → xs = ds.map .p
  | [], _, e => by cases e; rfl
  | .p d :: r, ds, e => by
    unfold allP at e
    cases h : allP r with
    | none => rw [h] at e; cases e
    | some es => rw [h] at e; cases e; rw [allP_eq h]; rfl
  | .loc _ :: _, _, e => by cases e
theorem StoR.bare (s : StoR G an w S H) : StoR G an0 w.bare [] H :=
  ⟨rfl, List.nodup_nil, fun n a e => by simp at e, fun a m => ⟨by simp, (List.mem_append.mp m).elim (fun m => (s.ax a m).2) fun m => s.has m⟩, trivial, s.tb⟩
theorem Grow.unbare (s : StoR G an w S H) (g : Grow w.bare H w' H') : Grow w H w H' ∧ ∀ (n : Nat) (a : Addr), w.rho[n]? = some a → H' a = H a := by
  refine ⟨⟨⟨[], by simp⟩, fun _ m => m, fun b m n => absurd m n, fun b m n => absurd m n, fun b o e n nt => g.keep' b o e (by simp) nt, g.tups, g.frzs⟩, fun n a e => ?_⟩
  obtain ⟨d, _, c⟩ := s.at' n a e
  obtain ⟨o, h2, co⟩ := c.ho
  rw [h2]
  exact g.keep' a _ h2 (by simp) co.ntbl
theorem StoR.unbare {an' : An} {T : Sto} (s : StoR G an w S H) (g : Grow w.bare H w' H') (s' : StoR G an' w' T H') : StoR G an w S H' := by
  obtain ⟨g1, k⟩ := Grow.unbare s g
  refine ⟨s.len, s.nd, fun n a e => ?_, fun a m => ⟨(s.ax a m).1, ?_⟩, an.m _ _ _ _ g1 s.anc, s'.tb⟩
  · obtain ⟨d, h1, c⟩ := s.at' n a e
    exact ⟨d, h1, c.mono g1 (k n a e)⟩
  · obtain ⟨o, ho, co⟩ := (s.ax a m).2
    exact ⟨o, g.keep' a _ ho (by simp) co.ntbl, co⟩
theorem pure_spec {n : Nat} {f : Fs} (vs : List V) (H : Hp) (Q : VK) (E : XK) (h : spOf G n (pur (toP f)) vs H Q E) : spOf G n f vs H Q E := by
  obtain ⟨xs, w, S, r, hn, hS, q⟩ := h
  unfold pur at q
  cases e : allP xs with
  | none => rw [e] at q; exact q.elim
  | some ds =>
    have hp := RvL.all r e
    rw [e] at q
    dsimp only at q
    have ex := allP_eq e
    refine ⟨xs, w.bare, [], ?_, hn, hS.bare, ?_⟩
    · rw [ex]
      exact hp.bare.vals
    · rw [ex]
      unfold toP at q
      cases e2 : f (ds.map .p) [] with
      | ok x S' =>
        cases x with
        | p d =>
          rw [e2] at q
          intro w' H' g s v rv
          cases rv with
          | p p => exact q w H' (Grow.unbare hS g).1 (hS.unbare g s) v (.p (p.cut g).unbare)
        | loc k => rw [e2] at q; exact q.elim
      | exc c p S' =>
        rw [e2] at q
        intro w' H' cls dd g s x
        refine q w H' cls dd (Grow.unbare hS g).1 (hS.unbare g s) ⟨x.cls, ?_⟩
        have := x.pay
        cases ec : G.cf c with
        | none => rw [ec] at this; exact this
        | some fl =>
          rw [ec] at this
          obtain ⟨d, v, h1, h2, h3⟩ := this
          exact ⟨d, v, h1, h2, (h3.cut g).unbare⟩
      | bad => rw [e2] at q; exact q.elim
theorem FnF.pure {k : Nat} {x : Str} {a : Addr} {n : Nat} {dd : List Dt} {f : Fs} (h : FnF G k x a n dd f) : FnF G k x a n dd (pur (toP f)) :=
  ⟨let ⟨fd, ps, ds, dvs, F, r⟩ := h.ex; ⟨fd, ps, ds, dvs, F.imp pure_spec, r⟩, h.mg, h.kp⟩
end
end EV

set_option Elab.async false
set_option linter.all false
set_option maxRecDepth 100000
/-! EvT: gcd, pairs stored, tuples turned, dicts written out. -/
namespace HT
open PySem PySem.Spec PyProof.Rows
section
variable {prog : Program} {w : World} {A : Around} {E : Value → Shared → Prop} {s : Shared}
theorem applied_rev {sl : Addr} {vs : Value} {n : Nat} {Q : Int × Int × Nat → Shared → Prop} (hs : s.heap.IsSliceOf sl .none .none vs) (ps : IsPart vs (some (-1)))
    (h : Q ((n : Int) - 1, -1, n) s) : wpAny (model prog w) A (Builtin.Slice.sliceApplied (.ref sl) (pure (n : Int))) Q E s := by
  obtain ⟨os, hos, hcs, hds⟩ := id hs
  unfold Builtin.Slice.sliceApplied Builtin.Slice.sliceFields
  refine wpAny_bind <| wpAny_bind <| wpAny_field hos hds (x := .none) rfl <| wpAny_bind <| wpAny_field hos hds (x := .none) rfl <| wpAny_bind <| wpAny_field hos hds (x := vs) rfl <| wpAny_pure ?_
  refine wpAny_bind <| slicePart_ ps ?_
  show wpAny _ _ (if ((-1 : Int) == 0) = true then _ else _) _ _ s
  rw [if_neg (by decide)]
  refine wpAny_bind <| slicePart_none <| wpAny_bind <| slicePart_none <| wpAny_bind <| wpAny_pure ?_
  have e1 : Builtin.Slice.sliceAdjust none none (-1) (n : Int) = ((n : Int) - 1, -1) := by
    have h1 : ((-1 : Int) < 0) := by omega
    unfold Builtin.Slice.sliceAdjust
    simp only [h1, if_true]
  have e2 : Builtin.Slice.slicePlaces ((n : Int) - 1) (-1) (-1) = n := by
    unfold Builtin.Slice.slicePlaces
    have h1 : ¬ ((-1 : Int) > 0) := by omega
    simp only [h1, if_false]
    split <;> simp <;> omega
  show wpAny _ _ (match Builtin.Slice.sliceAdjust none none (-1) (n : Int) with | (lo, hi) => pure (lo, (-1 : Int), Builtin.Slice.slicePlaces lo hi (-1))) _ _ s
  rw [e1]
  show wpAny _ _ (pure ((n : Int) - 1, (-1 : Int), Builtin.Slice.slicePlaces ((n : Int) - 1) (-1) (-1))) _ _ s
  rw [e2]
  exact wpAny_pure h
theorem fm_congr {α β : Type} {f g : α → Option β} : ∀ {l : List α}, (∀ x ∈ l, f x = g x) → l.filterMap f = l.filterMap g
  | [], _ => rfl
  | a :: l, h => by
    rw [List.filterMap_cons, List.filterMap_cons, h a List.mem_cons_self, fm_congr (l := l) fun x m => h x (List.mem_cons_of_mem _ m)]
theorem pick_rev (xs : Array Value) : ((List.range xs.size).filterMap fun (m : Nat) => xs[((xs.size : Int) - 1 + (m : Int) * (-1)).toNat]?).toArray = xs.toList.reverse.toArray := by
  have e : (List.range xs.size).filterMap (fun (m : Nat) => xs[((xs.size : Int) - 1 + (m : Int) * (-1)).toNat]?) = ((List.range xs.size).map fun k => xs.size - 1 - k).filterMap (xs[·]?) := by
    rw [List.filterMap_map]
    refine fm_congr fun m hm => ?_
    have hm := List.mem_range.mp hm
    show xs[((xs.size : Int) - 1 + (m : Int) * (-1)).toNat]? = xs[xs.size - 1 - m]?
    have : ((xs.size : Int) - 1 + (m : Int) * (-1)).toNat = xs.size - 1 - m := by omega
    rw [this]
  rw [e, ← PySem.W.krv_sliceRange, PySem.W.krv_sliceRange, PySem.W.krv_range, List.filterMap_reverse, PySem.W.krv_all]
theorem getItem_tuple_rev {t sl : Addr} {items : Array Value} {vs : Value} {Q : Value → Shared → Prop} (ht : IsTup s.heap t items) (hs : s.heap.IsSliceOf sl .none .none vs) (ps : IsPart vs (some (-1)))
    (h : Q (.ref s.heap.objs.size) { s with heap := s.heap.push { cls := .type "tuple", data := .seq items.toList.reverse.toArray } })
    (hsz : items.size ≤ sizeLine) : wpAny (model prog w) A (getItem (.ref t) (.ref sl)) Q E s := by
  have htake : sizeOk (.seq items.toList.reverse.toArray) := by
    show items.toList.reverse.toArray.size ≤ sizeLine
    simpa using hsz
  obtain ⟨os, hos, hcs, hds⟩ := id hs
  have hTs : s.TypeIs (.ref sl) "slice" := ⟨os, hos, hcs⟩
  unfold getItem
  try with_reducible refine wpAny_holding ?_
  first | refine wpAny_bind <| wpAny_pure ?_ | skip
  refine wpAny_bind <| wpAny_sequenceKey ht.typeIs (by decide) ?_
  refine wpAny_bind <| wpAny_callSpecial?_slot (name := Str.ofString "__getitem__") ht.typeIs PyProof.Rows.slot_tuple_getitem <|
    wpAny_call_entry PyProof.Rows.slot_tuple_getitem ht.typeIs entry_tuple_getitem ?_ (args_tuple_getitem _ _)
  show wpAny _ _ (Builtin.Tuple.tupleItemsOf (.ref t) >>= _) _ _ s
  refine wpAny_bind <| tupleItemsOf_ ht ?_
  refine wpAny_bind <| wpAny_typeOf hTs ?_
  rw [if_pos (by decide)]
  refine wpAny_bind <| applied_rev hs ps ?_
  have hno : ¬ ((((items.size : Int) - 1) == 0 && (-1 : Int) == 1 && items.size == items.size) = true) := by simp
  show wpAny _ _ (if (((items.size : Int) - 1) == 0 && (-1 : Int) == 1 && items.size == items.size) = true then _ else _) _ _ s
  rw [if_neg hno, pick_rev]
  first
    | exact wpAny_bind (m := Builtin.Tuple.tupleExact _) <| wpAny_newObj_type (wpAny_pure ⟨_, rfl, wpAny_pure h⟩) htake
    | exact wpAny_bind (m := Builtin.Tuple.tupleExact _) <| wpAny_newObj_type (wpAny_bind <| wpAny_pure <| wpAny_pure ⟨_, rfl, wpAny_pure h⟩) htake
    | exact wpAny_bind <| wpAny_bind (m := Builtin.Tuple.tupleExact _) <| wpAny_newObj_type (wpAny_pure <| wpAny_pure ⟨_, rfl, wpAny_pure h⟩) htake
    | exact wpAny_bind <| wpAny_bind (m := Builtin.Tuple.tupleExact _) <| wpAny_newObj_type (wpAny_pure ⟨_, rfl, wpAny_pure h⟩) htake
end
end HT
namespace EV
open PySem L2 PyProof.Rows
section
variable {G : Stat} {an : An} {w w' : Wd} {H H' : Hp} {S S' : Sto} {W : WX} {X : Cx}
theorem PerL.rev {ds : List Dt} {vs : List V} (k : PerL G w H ds vs) : PerL G w H ds.reverse vs.reverse := by
  induction ds generalizing vs with
  | nil => cases k; exact .nil
  | cons d ds ih =>
    cases k with
    | cons h k => rw [List.reverse_cons, List.reverse_cons]; exact (ih k).append (.cons h .nil)
def tRevT (K : PySem.W.Frag) (te : TE) : TE := fun σ H Q => te σ H fun x H1 => ∃ a xs, x = .ref a ∧ SqT K H1 a xs ∧ ∀ p, H1 p = none → Q (.ref p) (upd H1 p (.tup xs.reverse))
theorem pe_revT {e : Expr} {te : TE} {k : Nat} {p1 p2 p3 pos : Pos} (he : PE X e te) : PE X (.Subscript e (.Slice none none (some (.UnaryOp .USub (.Constant (.int 1) k p1) p2)) p3) pos) (tRevT X.K te) := by
  refine ⟨fun pins s σ H Q I h => ?_⟩
  refine Subscript_ <| thn (he.run pins s σ H _ I h) fun v s1 ⟨x, H1, I1, r1, q1⟩ => ?_
  obtain ⟨a, xs, ex, hx, q⟩ := q1
  subst ex
  cases r1
  have hst : PO X (some (.UnaryOp .USub (.Constant (.int 1) k p1) p2)) (tPart (tUn (rU fun i => .int (-i)) (tC (.int 1)))) := po_some <| pe_un un_neg pe_int
  refine wpAny_Slice <| thn (po_none.run pins s1 σ H1 (fun o H2 => o = none ∧ H2 = H1) I1 ⟨rfl, rfl⟩) fun vl s2 ⟨l, H2, I2, pl, el, e2⟩ => ?_
  subst el e2
  refine thn (po_none.run pins s2 σ H2 (fun o H3 => o = none ∧ H3 = H2) I2 ⟨rfl, rfl⟩) fun vu s3 ⟨u, H3, I3, pu, eu, e3⟩ => ?_
  subst eu e3
  refine thn (hst.run pins s3 σ H3 (fun o H4 => o = some (-1) ∧ H4 = H3) I3 ⟨1, rfl, -1, rfl, rfl, rfl⟩) fun vs s4 ⟨o, H4, I4, ps, eo, e4⟩ => ?_
  subst eo e4
  cases pl
  cases pu
  have I5 : Inv X pins σ H4 { s4 with heap := s4.heap.push { cls := .type "slice", data := .fields #[.none, .none, vs] } } := I4.kept (t' := s4.toks) fun b ob q => Heap.get?_push_of_some _ q
  obtain ⟨its, r, ht, hz⟩ := I5.tuple hx
  have hlen := r.length
  show wpAny (model X.prog X.w) X.A (subscriptTail e _ (.ref a) (.ref s4.heap.objs.size)) (EP X pins σ Q) X.xe { s4 with heap := s4.heap.push { cls := .type "slice", data := .fields #[.none, .none, vs] } }
  refine tail_any (ops := [.ref a, .ref s4.heap.objs.size]) ht.typeIs PyProof.Rows.slot_tuple_getitem.lookup ?_ (by with_unfolding_all rfl)
  refine HT.getItem_tuple_rev ht (Heap.IsSliceOf.new _ .none .none vs) ps ?_ (by rw [List.size_toArray]; omega)
  refine ⟨.ref _, _, I5.laid (t' := s4.toks) (o := .tup xs.reverse) (fun b ob q => Heap.get?_push_of_some _ q) (Nat.le_refl _) ?_, rfl, q _ (I5.hok.fresh (Nat.le_refl _))⟩
  exact ⟨by rw [List.length_reverse]; exact hz, _, r.reverse, IsTup.new _ _⟩
def mRevT (m : Mx) : Mx := fun env S => (m env S).bind fun x S1 => match x with
  | .p (.tup ds) => .ok (.p (.tup ds.reverse)) S1
  | _ => .bad
theorem se_revT {kk : Nat} {e : Expr} {m : Mx} {k : Nat} {p1 p2 p3 pos : Pos} (g : Gd G X W kk) (h : SE G an W X e m) : SE G an W X (.Subscript e (.Slice none none (some (.UnaryOp .USub (.Constant (.int 1) k p1) p2)) p3) pos) (mRevT m) := by
  refine PE.imp (pe_revT h) fun σ H Q ⟨env, w, S, hE, hS, q⟩ => ⟨env, w, S, hE, hS, (Pst.bind q).imp (fun x S1 w1 H1 r1 g1 s1 q1 v rv => ?_) fun _ _ _ z => z⟩
  cases rv with
  | loc hn => exact q1.elim
  | p p =>
    cases p with
    | @tup _ xs _ ht k =>
      refine ⟨_, _, rfl, by rw [g.K]; exact .inl (.inl ht), fun a ha => ?_⟩
      have gw := Grow.obj (o := .tup xs.reverse) s1 ha
      exact q1 w1 _ gw (s1.obj ha) _ (.p (.tup upd_same (k.rev.mono gw)))
    | _ => exact q1.elim
/-- f(e, ..), f a module's name for a built-in -/
theorem se_callG {k : Nat} {x : Str} {p pos : Pos} {e : Expr} {es : List Expr} {ma : Ma} {r : List V → Hp → VK → Prop} {f : List Dt → Option Dt} {id : String} (g : Gd G X W k) (hc : CallR X (.builtin id) r) (hf : PrOk G r f) (hm : G.mg x = some (.builtin id)) (ha : SA G an W X (e :: es) ma) (hg : Gl X x := by rfl) (hdb : (x == ("__debug__" : Str)) = false := by decide)
    (he : starEach (e :: es) X.env = (false, eval e X.env) :: starEach es X.env := by rfl) (hpl : (backTo pos (starEach es X.env)).any (·.1) = false := by rfl) : SE G an W X (.Call (.Name x p) (e :: es) [] pos) (mPrV f ma) :=
  PE.imp (pe_callBfun hc hg (by rw [g.mg]; exact hm) ha hdb he hpl) fun _ _ _ h => prV_read hf h
def sPar2 (i j : Nat) (ma : Ma) : Sx := fun env S => liftE (ma env S) env fun xs S1 => match xs with
  | [x, y] => .nx ((env.set i (some x)).set j (some y)) S1
  | _ => .bad
def sPar3 (i j l : Nat) (ma : Ma) : Sx := fun env S => liftE (ma env S) env fun xs S1 => match xs with
  | [x, y, z] => .nx (((env.set i (some x)).set j (some y)).set l (some z)) S1
  | _ => .bad
theorem ss_par2 {st : Stmt} {i j : Nat} {ma : Ma} (h : PS X st (tPar i j (tAr G an W ma))) : SS G an W X st (sPar2 i j ma) := by
  refine PS.imp h fun D σ H ⟨env, w, S, hE, hS, q⟩ => ⟨env, w, S, hE, hS, (PsS.lift q hE).imp (fun xs S1 w1 H1 r1 g1 s1 q1 vs rv => ?_) fun _ _ _ z => z⟩
  split at q1
  · cases rv with
    | cons ra rv => cases rv with
      | cons rb rv =>
        cases rv
        exact ⟨_, _, rfl, q1 w1 H1 _ Grow.refl s1 (((hE.mono g1).set i ra).set j rb)⟩
  · exact q1.elim
theorem ss_par3 {st : Stmt} {i j l : Nat} {ma : Ma} (h : PS X st (tPar3 i j l (tAr G an W ma))) : SS G an W X st (sPar3 i j l ma) := by
  refine PS.imp h fun D σ H ⟨env, w, S, hE, hS, q⟩ => ⟨env, w, S, hE, hS, (PsS.lift q hE).imp (fun xs S1 w1 H1 r1 g1 s1 q1 vs rv => ?_) fun _ _ _ z => z⟩
  split at q1
  · cases rv with
    | cons ra rv => cases rv with
      | cons rb rv => cases rv with
        | cons rc rv =>
          cases rv
          exact ⟨_, _, _, rfl, q1 w1 H1 _ Grow.refl s1 ((((hE.mono g1).set i ra).set j rb).set l rc)⟩
  · exact q1.elim
def sSetT (is : List Nat) (m : Mx) : Sx := fun env S => liftE (m env S) env fun x S1 => match x with
  | .p (.tup ds) => if ds.length = is.length then .nx (setAll env is (ds.map .p)) S1 else .bad
  | _ => .bad
theorem ss_setT {k : Nat} {st : Stmt} {is : List Nat} {m : Mx} (g : Gd G X W k) (h : PS X st (tAsg (tM G an W m) (gTup X.K is.length (gsOf is)))) : SS G an W X st (sSetT is m) := by
  refine PS.imp h fun D σ H ⟨env, w, S, hE, hS, q⟩ => ⟨env, w, S, hE, hS, (PsS.lift q hE).imp (fun x S1 w1 H1 r1 g1 s1 q1 v rv => ?_) fun _ _ _ z => z⟩
  cases rv with
  | loc hn => exact q1.elim
  | p p =>
    cases p with
    | tup ht k =>
      dsimp only at q1
      split at q1
      · rename_i hl
        refine ⟨_, _, rfl, by rw [g.K]; exact .inl (.inl ht), by rw [← k.length]; exact hl, gsOf_all (by rw [← k.length]; exact hl) ?_⟩
        exact q1 w1 H1 _ Grow.refl s1 ((hE.mono g1).setAll k.vals)
      · exact q1.elim
    | _ => exact q1.elim
/-- what was just laid stays as it is -/
theorem pe_frz {e : Expr} {t : TE} (h : PE X e t) : PE X e (fun σ H Q => t σ H fun v H1 => ∃ d u, v = V.ref d ∧ H1 d = some u ∧ Mut (some u) ∧ ∀ od, Q v (upd H1 d (.frz od u))) := by
  refine ⟨fun pins s σ H Q I hw => thn (h.run pins s σ H _ I hw) fun v s1 ⟨x, H1, I1, r, d, u, ev, hd, mu, q⟩ => ?_⟩
  obtain ⟨od, I2⟩ := I1.lock hd mu
  exact ⟨x, _, I2, r, q od⟩
theorem upd_upd (H : Hp) (a : Addr) (o u : HO) : upd (upd H a o) a u = upd H a u := by
  funext b
  by_cases z : b = a
  · subst z; rw [upd_same, upd_same]
  · rw [upd_ne z, upd_ne z, upd_ne z]
/-- {i: j} -/
theorem se_dct1 {i j : Int} {a b : Nat} {p1 p2 pos : Pos} : SE G an W X (.Dict [some (.Constant (.int i) a p1)] [.Constant (.int j) b p2] pos) (mLit (.dct [.inl i] [.int j])) := by
  refine PE.imp (pe_frz (pe_disp (trs := [(tC (.int i), tC (.int j))]) (pps_cons pe_int pe_int pps_nil) rfl rfl (by simp) (by simp))) fun σ H Q ⟨env, w, S, hE, hS, q⟩ => ?_
  intro p hp
  refine ⟨upd_same, [(.inl i, .int j)], rfl, by simp, ?_⟩
  refine ⟨p, .dK (mergeK [] [((Sum.inl i : Key), V.int j)]), rfl, upd_same, trivial, fun od => ?_⟩
  rw [upd_upd, upd_upd]
  have gw := Grow.obj (o := .frz od (.dK (mergeK [] [((Sum.inl i : Key), V.int j)]))) hS hp
  refine q w _ gw (hS.obj hp) _ (.p (.dct upd_same rfl ?_))
  exact .cons (.int j) .nil
end
end EV

set_option Elab.async false
set_option linter.all false
set_option maxRecDepth 100000
set_option maxHeartbeats 4000000
/-! EvU: sorted(set(..)) of ints. -/
namespace L2
open PySem PySem.Spec PyProof.Rows
section
variable {P : Program} {w : World} {A : Around} {E : Value → Shared → Prop} {s : Shared}
/-- an empty set as the call lays it -/
abbrev set0 (w : World) : Obj := { cls := .type "set", dict := none, data := .set #[] 0 (.fresh 0 0 (!w.params.followText "set-order")) }
abbrev SetGot (w : World) (s : Shared) (ns : List Int) (r : Value) (s₂ : Shared) : Prop := r = .none ∧ ∃ h' tk c, s₂ = { s with heap := h', toks := tk } ∧ SetR w h' s.heap.objs.size (fun j => decide (j ∈ ns)) c ∧ c ≤ ns.length ∧ (∀ b o, s.heap.get? b = some o → h'.get? b = some o)
set_option maxRecDepth 100000 in
set_option maxHeartbeats 3200000 in
theorem call_set_ofL {l : Addr} {items : Array Value} (ns : List Int) {Q : Value → Shared → Prop} (hh : A.handled = none) (hl : s.heap.IsList l items) (hit : IntsAre items.toList ns) (hb : ns.length + 1 < scanBound)
    (h : ∀ (h' : Heap) (tk c : Nat), SetR w h' s.heap.objs.size (fun j => decide (j ∈ ns)) c → c ≤ ns.length → (∀ b o, s.heap.get? b = some o → h'.get? b = some o) → Q (.ref s.heap.objs.size) { s with heap := h', toks := tk }) :
    wpAny (model P w) A (call (.type "set") [.ref l]) Q E s := by
  have hsz : items.size = ns.length := by have q := IntsAre.length hit; rw [Array.length_toList] at q; exact q
  obtain ⟨c, tl, hmro⟩ := F.called_set.mro
  have hmade := F.called_set.made; have hsub := F.called_set.sub
  refine wpAny_call <| codeAny_of_tree ?_
  show wpAny _ _ (callAny (.type "set") _) _ _ _
  refine wpAny_pure <| And.intro (Code.quiet_builtin _ <| by decide +kernel) <| codeAny_builtin F.entry_type_call ?_
  rw [Around.under_plain (weight_type_call_type _ [.ref l] []) rfl]
  have h1 := F.called_set.notType; have h2 := F.called_set.canCreate; have hct := F.typeCall_set_1 (.ref l)
  repeat (any_goals (first | assumption | wp_step))

  refine codeAny_mono (code_set_led1 (.ref l) (E := E) (Q₁ := fun obj s₁ => obj = .ref s.heap.objs.size ∧ s₁ = { s with heap := s.heap.push (set0 w) }) ⟨rfl, rfl⟩) fun r s₁ hr => ?_
  match r, hr with
  | .error e, hr => exact hr
  | .ok (.ret obj), hr =>
    obtain ⟨rfl, rfl⟩ := hr
    have hS : (s.heap.push (set0 w)).get? s.heap.objs.size = some (set0 w) := Heap.get?_push_size _ rfl
    have hT : Shared.TypeIs { s with heap := s.heap.push (set0 w) } (.ref s.heap.objs.size) "set" := ⟨_, hS, rfl⟩
    have hli := F.called_set.init.lookup; have hbi := F.called_set.init.bind (.ref s.heap.objs.size)
    repeat (any_goals (first | assumption | wp_step))

    refine codeAny_mono (codeAny_call_builtin (R := wants (SetGot w s ns) E) F.called_set.init.plain F.entry_set_init (check_set_init_1 hT ?_)) fun r₂ s₂ hr₂ => ?_
    · obtain ⟨⟨ocls, odict, odata, oslots⟩, hol, hcl, nl, hdl⟩ := hl
      simp only at hcl hdl
      subst hcl; subst hdl
      have hol' : (s.heap.push (set0 w)).get? l = some { cls := .type "list", dict := odict, data := .seq items nl, slots := oslots } := Heap.get?_push_of_some _ hol
      have hsls := F.sub_list_set; have hslf := F.sub_list_frozenset
      have hne : (Value.type "list" == Value.type "dict") = false := by decide
      have hl1 : (s.heap.push (set0 w)).IsList l items := ⟨_, hol', rfl, nl, rfl⟩
      unfold Builtin.«set.__init__» noKeywords Builtin.Frozenset.updateFrom
      generalize hPI : pyIter = PI
      wp_walk
      subst hPI

      refine wpAny_pyIter_list hl1 <| wpAny_bind <| wpAny_runValue ?_
      have hlS : l < s.heap.objs.size := Heap.lt_size hol
      have hh3 : A.in1.in1.in1.handled = none := by simp [hh]
      have hz1 : (s.heap.push (set0 w)).objs.size = s.heap.objs.size + 1 := Heap.size_push ..
      have hneI : l ≠ (s.heap.push (set0 w)).objs.size := by rw [hz1]; exact Nat.ne_of_lt (Nat.lt_succ_of_lt hlS)
      have hSf : s.heap.objs.size ∉ [(s.heap.push (set0 w)).objs.size, l] := fun m => by
        rcases List.mem_cons.mp m with e | m
        · rw [hz1] at e; exact absurd e (Nat.ne_of_lt (Nat.lt_succ_self _))
        · exact absurd (List.mem_singleton.mp m).symm (Nat.ne_of_lt hlS)
      have hval : ∀ (i : Nat) (v : Value), items[i]? = some v → ∃ k t, ns[i]? = some k ∧ v = .int k t := fun i v hv => by
        have hi : i < ns.length := by rw [← hsz]; exact (Array.getElem?_eq_some_iff.mp hv).1
        obtain ⟨t, e⟩ := PyProof.Rows.IntsAre.int_at hit i v (Array.getElem?_toList .. ▸ hv)
        exact ⟨ns[i], t, List.getElem?_eq_getElem hi, by rw [e, List.getD_eq_getElem?_getD, List.getElem?_eq_getElem hi]; rfl⟩
      refine set_update_ints (Walks.list hh3 _ l hneI items).toS s.heap.objs.size hSf ns hsz hb hval (items.size - 0) 0 _ (by omega) (Nat.zero_le _) ⟨⟨_, Heap.get?_push_size _ rfl, rfl, rfl⟩, (hl1.push _)⟩ ?hS0 ?hR
      case hS0 => exact ⟨0, Nat.le_refl 0, setR_new_at (Heap.get?_push_of_some _ hS)⟩
      case hR =>
        intro ⟨h', g2, d', tk', os'⟩ c' hm hc' hS'
        have eg : g2 = s.gens := hm.gens; have ed : d' = s.drawn := hm.drawn; have eo : os' = s.os := hm.os
        subst eg ed eo
        show wpAny _ _ _ _ _ _
        refine wpAny_pure ?_
        show wpAny _ _ (ret Value.none) _ _ _
        rw [hsz] at hc'
        refine wpAny_pure <| And.intro rfl ⟨h', tk', c', rfl, hS', hc', fun b o e => ?_⟩
        have hb0 : b < s.heap.objs.size := Heap.lt_size e
        refine hm.heap b o (fun m => ?_) (Heap.get?_push_of_some _ <| Heap.get?_push_of_some _ e)
        rcases List.mem_cons.mp m with e | m
        · exact absurd e (Nat.ne_of_lt hb0)
        · have e2 := List.mem_singleton.mp m; rw [hz1] at e2; exact absurd e2 (Nat.ne_of_lt (Nat.lt_succ_of_lt hb0))
    · match r₂, hr₂ with
      | .error e, hr₂ => exact hr₂
      | .ok (.ret r), hr₂ =>
        obtain ⟨rfl, h', tk, c', rfl, hS', hc', hk'⟩ := hr₂
        repeat (any_goals (first | assumption | wp_step))
        exact h _ _ _ hS' hc' hk'

/-- set(e) of a list or a tuple of ints -/
def rSetI (K : PySem.W.Frag) (w : World) : List V → Hp → VK → Prop := fun vs H Q => ∃ (p : Addr) (ns : List Int), vs = [.ref p] ∧ (SqL K H p (ns.map V.int) ∨ SqT K H p (ns.map V.int)) ∧ ns.length ≤ 1000 ∧
  ∀ (a : Addr) (c : Nat), H a = none → c ≤ ns.length → Q (.ref a) (upd H a (SetO w a (fun j => decide (j ∈ ns)) c))
theorem cr_setI {X : Cx} (hc : X.calm = true) : CallR X (.type "set") (rSetI X.K X.w) := by
  intro pins s σ H vs us Q I r h
  obtain ⟨p, ns, rfl, hs, hl, q⟩ := h
  have fin : ∀ (h' : Heap) (tk c : Nat), SetR X.w h' s.heap.objs.size (fun j => decide (j ∈ ns)) c → c ≤ ns.length → (∀ b o, s.heap.get? b = some o → h'.get? b = some o) → EP X pins σ Q (.ref s.heap.objs.size) { s with heap := h', toks := tk } := fun h' tk c R hc k =>
    ⟨.ref _, _, I.laid (t' := tk) k (Nat.le_refl _) (setO_new R), rfl, q _ c (I.hok.fresh (Nat.le_refl _)) hc⟩
  rw [Vals.ref1 r]
  rcases hs with hs | hs
  · obtain ⟨its, rv, hT, hz⟩ := I.list hs
    exact call_set_ofL ns (I.ok.hd hc) hT.isList (ints_of_vals rv) (by unfold scanBound; omega) fin
  · obtain ⟨its, rv, hT, hz⟩ := I.tuple hs
    exact call_set_tupI ns (I.ok.hd hc) (show s.heap.IsTuple p its.toArray from hT) (ints_of_vals rv) (by unfold scanBound; omega) fin
end
end L2
namespace EV
open PySem L2
/-- ascending, each once -/
def insU (i : Int) : List Int → List Int
  | [] => [i]
  | j :: r => if i < j then i :: j :: r else if i = j then j :: r else j :: insU i r
def sortU (ns : List Int) : List Int := ns.foldr insU []
theorem insU_mem {i k : Int} : ∀ {l : List Int}, k ∈ insU i l ↔ k = i ∨ k ∈ l
  | [] => by simp [insU]
  | j :: r => by
    unfold insU
    by_cases h : i < j
    · rw [if_pos h]; simp
    · rw [if_neg h]
      by_cases h2 : i = j
      · rw [if_pos h2]; subst h2; simp
      · rw [if_neg h2, List.mem_cons, insU_mem (l := r), List.mem_cons]
        exact ⟨fun h => by rcases h with h | h | h <;> simp [h], fun h => by rcases h with h | h | h <;> simp [h]⟩
theorem insU_pw {i : Int} : ∀ {l : List Int}, l.Pairwise (· < ·) → (insU i l).Pairwise (· < ·)
  | [], _ => List.pairwise_singleton _ _
  | j :: r, h => by
    obtain ⟨h1, h2⟩ := List.pairwise_cons.mp h
    unfold insU
    by_cases c : i < j
    · rw [if_pos c]
      exact List.pairwise_cons.mpr ⟨fun k hk => by
        rcases List.mem_cons.mp hk with e | e
        · rw [e]; exact c
        · exact Int.lt_trans c (h1 k e), h⟩
    · rw [if_neg c]
      by_cases c2 : i = j
      · rw [if_pos c2]; exact h
      · rw [if_neg c2]
        refine List.pairwise_cons.mpr ⟨fun k hk => ?_, insU_pw h2⟩
        rcases insU_mem.mp hk with e | e
        · omega
        · exact h1 k e
theorem sortU_mem {k : Int} : ∀ {l : List Int}, k ∈ sortU l ↔ k ∈ l
  | [] => by simp [sortU]
  | j :: r => by
    show k ∈ insU j (sortU r) ↔ _
    rw [insU_mem, sortU_mem (l := r), List.mem_cons]
theorem sortU_pw : ∀ {l : List Int}, (sortU l).Pairwise (· < ·)
  | [] => List.Pairwise.nil
  | _ :: r => insU_pw (sortU_pw (l := r))
theorem pw_eq : ∀ {l m : List Int}, l.Pairwise (· < ·) → m.Pairwise (· < ·) → (∀ k, k ∈ l ↔ k ∈ m) → l = m
  | [], [], _, _, _ => rfl
  | [], b :: m, _, _, h => absurd ((h b).mpr List.mem_cons_self) (by simp)
  | a :: l, [], _, _, h => absurd ((h a).mp List.mem_cons_self) (by simp)
  | a :: l, b :: m, p, q, h => by
    obtain ⟨p1, p2⟩ := List.pairwise_cons.mp p
    obtain ⟨q1, q2⟩ := List.pairwise_cons.mp q
    have e : a = b := by
      rcases List.mem_cons.mp ((h a).mp List.mem_cons_self) with e | e
      · exact e
      · rcases List.mem_cons.mp ((h b).mpr List.mem_cons_self) with e2 | e2
        · exact e2.symm
        · have := q1 a e; have := p1 b e2; omega
    subst e
    rw [pw_eq p2 q2 fun k => ?_]
    constructor
    · intro hk
      rcases List.mem_cons.mp ((h k).mp (List.mem_cons_of_mem _ hk)) with e | e
      · have := p1 k hk; omega
      · exact e
    · intro hk
      rcases List.mem_cons.mp ((h k).mpr (List.mem_cons_of_mem _ hk)) with e | e
      · have := q1 k hk; omega
      · exact e
def dSS : List Dt → Option (List Dt)
  | [.lst ds] => match intsD ds with
    | some ns => if decide (ns.length < 64) then some ((sortU ns).map .int) else none
    | none => none
  | [.tup ds] => match intsD ds with
    | some ns => if decide (ns.length < 64) then some ((sortU ns).map .int) else none
    | none => none
  | _ => none
section
variable {G : Stat} {an : An} {w w' : Wd} {H H' : Hp} {S S' : Sto} {W : WX} {X : Cx}
/-- sorted(set(e)) -/
def rSS (K : PySem.W.Frag) (w : World) : List V → Hp → VK → Prop := fun vs H Q => rSetI K w vs H fun v H1 => rSortedSet w [v] H1 Q
theorem okF_ss : PrF G (rSS G.K G.w) dSS := by
  intro an w S H ds xs z Q hS t e q
  have go : ∀ (p : Addr) (ns : List Int), xs = [.ref p] → (SqL G.K H p (ns.map V.int) ∨ SqT G.K H p (ns.map V.int)) → ns.length < 64 → z = (sortU ns).map Dt.int → rSS G.K G.w xs H Q := fun p ns ex hs hl ez => by
    refine ⟨p, ns, ex, hs, by omega, fun a c ha hc => ⟨a, _, c, rfl, upd_same, by omega, fun ms p2 h1 h2 h3 hp2 => ?_⟩⟩
    have em : ms = sortU ns := pw_eq h1 sortU_pw fun k => by rw [h2, sortU_mem]; exact decide_eq_true_iff
    rw [em]
    have gw := Grow.obj (o := SetO G.w a (fun j => decide (j ∈ ns)) c) hS ha
    exact q w _ p2 _ gw (hS.obj ha) hp2 (by rw [ez]; exact PerL.ints _)
  match ds, e with
  | [.lst ds], e =>
    obtain ⟨v, rfl, tv⟩ := TpL.one t
    obtain ⟨a, ys, rfl, h1, h2⟩ := tv.lst
    unfold dSS at e
    cases e1 : intsD ds with
    | none => simp only [e1] at e; cases e
    | some ns =>
      simp only [e1] at e
      split at e
      · rename_i hl
        cases e
        exact go a ns rfl (.inl (by rw [← ints_ok h2 e1]; exact h1)) (of_decide_eq_true hl) rfl
      · cases e
  | [.tup ds], e =>
    obtain ⟨v, rfl, tv⟩ := TpL.one t
    obtain ⟨a, ys, rfl, h1, h2⟩ := tv.tup
    unfold dSS at e
    cases e1 : intsD ds with
    | none => simp only [e1] at e; cases e
    | some ns =>
      simp only [e1] at e
      split at e
      · rename_i hl
        cases e
        exact go a ns rfl (.inr (by rw [← ints_ok h2 e1]; exact h1)) (of_decide_eq_true hl) rfl
      · cases e
theorem sf_ss {k : Nat} {p p2 pos pos2 : Pos} {e : Expr} {ma : Ma} (g : Gd G X W k) (hm : G.mg "sorted" = none) (hm2 : G.mg "set" = none) (ha : SA G an W X [e] ma) (hg : Gl X "sorted" := by rfl) (hg2 : Gl X "set" := by rfl)
    (he : starEach [e] X.env = (false, eval e X.env) :: starEach [] X.env := by rfl) (he2 : starEach [.Call (.Name "set" p2) [e] [] pos2] X.env = (false, eval (.Call (.Name "set" p2) [e] [] pos2) X.env) :: starEach [] X.env := by rfl)
    (hpl : (backTo pos2 (starEach [] X.env)).any (·.1) = false := by rfl) (hpl2 : (backTo pos (starEach [] X.env)).any (·.1) = false := by rfl) :
    SF G an W X (.Call (.Name "sorted" p) [.Call (.Name "set" p2) [e] [] pos2] [] pos) (mPr dSS ma) := by
  have h1 : PE X (.Call (.Name "set" p2) [e] [] pos2) (tCB (rSetI X.K X.w) (tAr G an W ma)) := pe_callTy (cr_setI g.calm) hg2 (by rw [g.mg]; exact hm2) PyProof.Rows.boot_set ha (by decide) (by decide) he hpl
  have h2 : PE X (.Call (.Name "sorted" p) [.Call (.Name "set" p2) [e] [] pos2] [] pos) (tCB (rSortedSet X.w) (tCons (tCB (rSetI X.K X.w) (tAr G an W ma)) tNil)) := pe_callB (cr_sortedSet g.calm) hg (by rw [g.mg]; exact hm) (by decide +kernel) (pa_cons h1 pa_nil he2) (by decide) (by decide) he2 hpl2
  refine PE.imp h2 fun σ H Q h => ?_
  have := prF_read (okF_ss (G := G)) h
  rw [g.K, g.w]
  exact this
end
end EV

set_option Elab.async false
set_option linter.all false
set_option maxRecDepth 100000
set_option maxHeartbeats 4000000
/-! EvV: sorted(xs), xs tuples of ints, the first one (). -/
namespace TI
open PySem PySem.W PySem.Calls PyProof.Rows Builtin
section
variable {prog : Program} {w : World} {A : Around} {E : Value → Shared → Prop} {s : Shared}
theorem lt_tups {v u : Value} {ns ms : List Int} {Q : Bool → Shared → Prop} (hu : A.units < cLine) (hv : TS.TupInts s.heap v ns) (hw : TS.TupInts s.heap u ms) (h : Q (HT.lexLt ns ms) s) : wpAny (model prog w) A (keyLt' oneType' v u) Q E s := by
  obtain ⟨a, its, rfl, ⟨⟨cls, dd, data, sl⟩, ho, hc, n, hd⟩, ia⟩ := hv
  obtain ⟨b, its2, rfl, ⟨⟨cls2, dd2, data2, sl2⟩, ho2, hc2, n2, hd2⟩, ib⟩ := hw
  simp only at hc hd hc2 hd2
  subst hc hd hc2 hd2
  rw [keyLt'_oneType, oneLt'_eq]
  simp only [if_true]
  refine wpAny_bind <| wpAny_cRoomFor hu ?_
  refine wpAny_bind <| wpAny_callSpecialIfBound?_slot (T := "tuple") ⟨_, ho, rfl⟩ PySem.F.slot_tuple_lt <| call_meets PySem.F.slot_tuple_lt ⟨_, ho, rfl⟩ PySem.F.entry_tuple_lt (PySem.F.args_tuple_lt_2 _ _) (HT.tuple_lt_ints a b its its2 n n2 dd dd2 sl sl2 ns ms ia ib) ⟨ho, ho2, ?_⟩
  exact wpAny_truthy_bool h
variable {M : Model}
theorem ty_tup {v : Value} {ns : List Int} (h : TS.TupInts s.heap v ns) : Looks M s.heap (typeOf v) (.type "tuple") := by
  obtain ⟨a, its, rfl, ⟨o, ho, hc, n, hd⟩, ia⟩ := h
  rw [← hc]
  exact (Looks.ld ho).andThen .now
theorem first_tup {v : Value} {ns : List Int} (h : TS.TupInts s.heap v ns) {Q : Option Value → Shared → Prop} (q0 : ns = [] → Q none s) (q : ∀ o, Q o s ∨ ns = []) : wpAny M A (firstOfTuple' v) Q E s := by
  have ty := ty_tup (M := M) h
  obtain ⟨a, its, rfl, ⟨o, ho, hc, n, hd⟩, ia⟩ := h
  rw [kas_first_eq]
  refine wpAny_bind <| ty.here ?_
  rw [if_neg (by first | decide | simp)]
  refine wpAny_bind <| listItems_at ho hd <| wpAny_pure ?_
  rcases q (its[0]?) with z | z
  · exact z
  · subst z
    have e : its = #[] := by
      have := ia.length
      simpa using this
    rw [e]
    exact q0 rfl
theorem firsts_any : ∀ (vs : List Value) {Q : List (Option Value) → Shared → Prop}, (∀ v ∈ vs, ∃ ns, TS.TupInts s.heap v ns) → (∀ os, Q os s) → wpAny M A (vs.mapM firstOfTuple') Q E s
  | [], _, _, h => by rw [List.mapM_nil]; exact wpAny_pure (h _)
  | v :: vs, Q, hv, h => by
    rw [List.mapM_cons]
    obtain ⟨ns, hn⟩ := hv v List.mem_cons_self
    have k : ∀ o, wpAny M A (do let bs ← vs.mapM firstOfTuple'; pure (o :: bs)) Q E s := fun o => wpAny_bind <| firsts_any vs (fun v m => hv v (List.mem_cons_of_mem _ m)) fun os => wpAny_pure (h _)
    exact wpAny_bind <| first_tup hn (fun _ => k none) fun o => .inl (k o)
theorem kind_tups {v1 : Value} {vs : List Value} {Q : SortKind → Shared → Prop} (h1 : TS.TupInts s.heap v1 []) (hv : ∀ v ∈ vs, ∃ ns, TS.TupInts s.heap v ns) (h : Q oneType' s) : wpAny M A (keyKind' (v1 :: vs).toArray) Q E s := by
  rw [keyKind'_eq, List.mapM_toArray, map_eq_pure_bind]
  have hall : ∀ v ∈ v1 :: vs, ∃ ns, TS.TupInts s.heap v ns := fun v m => by
    rcases List.mem_cons.mp m with e | m
    · rw [e]; exact ⟨_, h1⟩
    · exact hv v m
  refine wpAny_bind <| wpAny_bind ?_
  rw [List.mapM_cons]
  refine wpAny_bind <| first_tup h1 (fun _ => ?_) fun o => .inr rfl
  refine wpAny_bind <| firsts_any vs hv fun os => wpAny_pure <| wpAny_pure ?_
  rw [if_neg (by simp), if_neg (by simp)]
  rw [oneTypeOnly'_eq, List.mapM_toArray, map_eq_pure_bind]
  refine wpAny_bind <| wpAny_bind <| wpAny_bind <| kas_mapM (r := .type "tuple") _ (fun v m Q' hq => (let ⟨_, hn⟩ := hall v m; ty_tup hn).here hq) <| wpAny_pure ?_
  have e2 : ((List.map (fun _ => Value.type "tuple") (v1 :: vs)).toArray.all fun x => x == Value.type "tuple") = true := by
    simp
  have e1 : (List.map (fun _ => Value.type "tuple") (v1 :: vs)).toArray[0]? = some (Value.type "tuple") := by simp
  rw [e1]
  dsimp only
  rw [if_pos e2]
  exact wpAny_pure <| wpAny_pure h
theorem tup_sortable {a : Addr} {v1 : Value} {vs : List Value} {k : Value → List Int} (hu : A.units < cLine) (hv : ∀ v ∈ v1 :: vs, TS.TupInts s.heap v (k v)) (h1 : k v1 = []) (ha : ∀ v ∈ v1 :: vs, v ≠ .ref a) :
    SrtO.SortableO prog w A s a (v1 :: vs) fun v u => HT.lexLt (k v) (k u) := by
  intro h' keep
  have hv' : ∀ v ∈ v1 :: vs, TS.TupInts h' v (k v) := fun v hm => by
    obtain ⟨b, its, e, ht, ia⟩ := hv v hm
    obtain ⟨o, ho, r⟩ := ht
    exact ⟨b, its, e, ⟨o, keep b o (fun z => ha v hm (by rw [e, z])) ho, r⟩, ia⟩
  refine ⟨oneType', fun Q E hq => kind_tups (s := { s with heap := h' }) (by have := hv' v1 List.mem_cons_self; rw [h1] at this; exact this) (fun v m => ⟨_, hv' v (List.mem_cons_of_mem _ m)⟩) hq, fun p q hp hq => ?_⟩
  exact lt_tups (s := { s with heap := h' }) (Q := fun r s' => s' = { s with heap := h' } ∧ r = HT.lexLt (k p.1) (k q.1)) (E := fun _ _ => False) hu (hv' p.1 hp) (hv' q.1 hq) ⟨rfl, rfl⟩
end
end TI

set_option Elab.async false
set_option linter.all false
set_option maxRecDepth 100000
set_option maxHeartbeats 4000000
namespace L2
open PySem PySem.Spec PyProof.Rows
theorem ps_eq {α : Type} {r : α → α → Prop} (anti : ∀ a b, r a b → r b a → a = b) : ∀ {l m : List α}, l.Perm m → l.Pairwise r → m.Pairwise r → l = m
  | [], m, p, _, _ => (List.Perm.nil_eq p)
  | a :: l, [], p, _, _ => absurd p.length_eq (by simp)
  | a :: l, b :: m, p, h1, h2 => by
    obtain ⟨a1, a2⟩ := List.pairwise_cons.mp h1
    obtain ⟨b1, b2⟩ := List.pairwise_cons.mp h2
    have e : a = b := by
      rcases List.mem_cons.mp (p.mem_iff.mp (List.mem_cons_self (a := a) (l := l))) with e | e
      · exact e
      · rcases List.mem_cons.mp (p.mem_iff.mpr (List.mem_cons_self (a := b) (l := m))) with e2 | e2
        · exact e2.symm
        · exact anti _ _ (a1 b e2) (b1 a e)
    subst e
    rw [ps_eq anti (List.Perm.cons_inv p) a2 b2]
/-- stable, by lexLt -/
def insL (x : List Int) : List (List Int) → List (List Int)
  | [] => [x]
  | y :: r => if HT.lexLt y x then y :: insL x r else x :: y :: r
def sortL (l : List (List Int)) : List (List Int) := l.foldr insL []
theorem insL_perm {x : List Int} : ∀ {l : List (List Int)}, (insL x l).Perm (x :: l)
  | [] => List.Perm.refl _
  | y :: r => by
    unfold insL
    split
    · exact ((insL_perm (l := r)).cons y).trans (List.Perm.swap _ _ _)
    · exact List.Perm.refl _
theorem sortL_perm : ∀ {l : List (List Int)}, (sortL l).Perm l
  | [] => List.Perm.refl _
  | x :: r => insL_perm.trans ((sortL_perm (l := r)).cons x)
abbrev LeL (x y : List Int) : Prop := HT.lexLt y x = false
theorem insL_pw {x : List Int} : ∀ {l : List (List Int)}, l.Pairwise LeL → (insL x l).Pairwise LeL
  | [], _ => List.pairwise_singleton _ _
  | y :: r, h => by
    obtain ⟨h1, h2⟩ := List.pairwise_cons.mp h
    unfold insL
    split
    · rename_i c
      refine List.pairwise_cons.mpr ⟨fun z hz => ?_, insL_pw h2⟩
      rcases List.mem_cons.mp (insL_perm.mem_iff.mp hz) with e | e
      · rw [e]; exact NtL.lex_asym _ _ c
      · exact h1 z e
    · rename_i c
      have c : HT.lexLt y x = false := by simpa using c
      refine List.pairwise_cons.mpr ⟨fun z hz => ?_, h⟩
      rcases List.mem_cons.mp hz with e | e
      · rw [e]; exact c
      · exact NtL.lex_tr _ _ _ c (h1 z e)
theorem sortL_pw : ∀ {l : List (List Int)}, (sortL l).Pairwise LeL
  | [] => List.Pairwise.nil
  | _ :: r => insL_pw (sortL_pw (l := r))
theorem lex_anti : ∀ (x y : List Int), LeL x y → LeL y x → x = y
  | [], [], _, _ => rfl
  | [], _ :: _, _, h => by simp [LeL, HT.lexLt] at h
  | _ :: _, [], h, _ => by simp [LeL, HT.lexLt] at h
  | a :: x, b :: y, h1, h2 => by
    unfold LeL at h1 h2
    rw [HT.lexLt_cons] at h1 h2
    by_cases e : a = b
    · subst e
      rw [if_pos rfl] at h1 h2
      rw [lex_anti x y h1 h2]
    · rw [if_neg (fun z => e z.symm)] at h1
      rw [if_neg e] at h2
      have := of_decide_eq_false h1
      have := of_decide_eq_false h2
      omega
/-- a tracked tuple of ints -/
def TupJ (H : Hp) (x : V) (ns : List Int) : Prop := ∃ t, x = V.ref t ∧ H t = some (.tup (ns.map V.int))
inductive TupL (K : PySem.W.Frag) (H : Hp) : List V → List (List Int) → Prop
  | nil : TupL K H [] []
  | cons {x : V} {ns : List Int} {xs : List V} {nss : List (List Int)} (h : TupJ H x ns) (r : TupL K H xs nss) : TupL K H (x :: xs) (ns :: nss)
def rSortTI (K : PySem.W.Frag) : List V → Hp → VK → Prop := fun vs H Q => ∃ (a : Addr) (xs : List V) (nss : List (List Int)), vs = [V.ref a] ∧ SqL K H a xs ∧ TupL K H xs ([] :: nss) ∧
  ∀ (ys : List V) (p : Addr), TupL K H ys (sortL ([] :: nss)) → H p = none → Q (.ref p) (upd H p (.lst ys))
noncomputable def kvOf (h : Heap) (u : Value) : List Int := open Classical in if e : ∃ ns, TS.TupInts h u ns then Classical.choose e else []
theorem tup_uni {h : Heap} {u : Value} {ns ms : List Int} (a : TS.TupInts h u ns) (b : TS.TupInts h u ms) : ns = ms := by
  obtain ⟨a1, its, rfl, ⟨o, ho, hc, n, hd⟩, ia⟩ := a
  obtain ⟨b1, its2, e, ⟨o2, ho2, hc2, n2, hd2⟩, ib⟩ := b
  cases e
  rw [ho] at ho2
  cases ho2
  rw [hd] at hd2
  cases hd2
  exact (SrtO.iv_ints ia).symm.trans (SrtO.iv_ints ib)
theorem kv_eq {h : Heap} {u : Value} {ns : List Int} (a : TS.TupInts h u ns) : kvOf h u = ns := by
  have e : ∃ ns, TS.TupInts h u ns := ⟨ns, a⟩
  unfold kvOf
  rw [dif_pos e]
  exact tup_uni (Classical.choose_spec e) a
section
variable {X : Cx}
theorem tupL_raw {pins : List (Addr × Obj)} {σ : St} {H : Hp} {s : Shared} (I : Inv X pins σ H s) : ∀ {xs : List V} {us : List Value} {nss : List (List Int)}, Vals xs us → TupL X.K H xs nss →
    us.map (kvOf s.heap) = nss ∧ (∀ u ∈ us, TS.TupInts s.heap u (kvOf s.heap u) ∧ (∃ t, u = Value.ref t) ∧ TupJ H (bkV u) (kvOf s.heap u))
  | _, _, _, .nil, .nil => ⟨rfl, fun u m => absurd m (by simp)⟩
  | _, u :: us, _, .cons r rv, .cons h t => by
    obtain ⟨i1, i2⟩ := tupL_raw I rv t
    obtain ⟨a, e, hs⟩ := id h
    subst e
    cases r
    have raw := tupI_raw I (.inl (.inl hs))
    have ek := kv_eq raw
    refine ⟨by rw [List.map_cons, i1, ek], fun z m => ?_⟩
    rcases List.mem_cons.mp m with e | m
    · rw [e, ek]
      exact ⟨raw, ⟨a, rfl⟩, h⟩
    · exact i2 z m
theorem cr_sortTI (hu : X.A.units + 64 < cLine) : CallR X (.builtin "sorted") (rSortTI X.K) := by
  intro pins s σ H vs us Q I r h
  obtain ⟨a, xs, nss, rfl, hs, ht, q⟩ := h
  obtain ⟨its, rv, hl, hz⟩ := I.list hs
  rw [Vals.ref1 r]
  obtain ⟨e1, e2⟩ := tupL_raw I rv ht
  obtain ⟨v1, rest, rfl⟩ : ∃ v1 rest, its = v1 :: rest := by
    cases its with
    | nil => simp at e1
    | cons v1 rest => exact ⟨v1, rest, rfl⟩
  have k1 : kvOf s.heap v1 = [] := by
    rw [List.map_cons] at e1
    exact (List.cons.inj e1).1
  refine SrtO.sorted_ord (NtL.swo_lexL (kvOf s.heap)) hl.isList (by rw [← rv.length]; exact hz) (fun h2 h₁ a' _ keep => ?_) fun out h1 h2 => ?_
  · refine TI.tup_sortable (by have e : X.A.in1.in1.units = X.A.units + 1 + 1 := rfl; omega) (fun v m => ?_) k1 (fun v m => ?_)
    · obtain ⟨b, its, e, ⟨o, ho, r⟩, ia⟩ := (e2 v m).1
      exact ⟨b, its, e, ⟨o, (keep b o ho).2, r⟩, ia⟩
    · obtain ⟨b, its, e, ⟨o, ho, r⟩, ia⟩ := (e2 v m).1
      rw [e]
      exact fun z => (keep b o ho).1 (Value.ref.inj z)
  · have mo : ∀ v ∈ out, v ∈ v1 :: rest := fun v m => h2.perm.mem_iff.mp m
    have hr : ∀ v ∈ out, ∃ t, v = Value.ref t := fun v m => (e2 v (mo v m)).2.1
    have eo : out.map (kvOf s.heap) = sortL ([] :: nss) := by
      refine ps_eq lex_anti ?_ (List.pairwise_map.mpr (h1.imp fun {x y} z => z)) sortL_pw
      have p1 := h2.perm.map (kvOf s.heap)
      rw [e1] at p1
      exact p1.trans sortL_perm.symm
    have tl : ∀ l : List Value, (∀ v ∈ l, v ∈ v1 :: rest) → TupL X.K H (l.map bkV) (l.map (kvOf s.heap)) := by
      intro l
      induction l with
      | nil => exact fun _ => .nil
      | cons v l ih => exact fun m => .cons (e2 v (m v List.mem_cons_self)).2.2 (ih fun u hu => m u (List.mem_cons_of_mem _ hu))
    have tl := tl out mo
    rw [eo] at tl
    obtain ⟨ep, he'⟩ := PyProof.Rows.sortedAll_at s.heap (v1 :: rest) out.toArray
    have hlen : (out.map bkV).length ≤ sizeLine := by
      rw [List.length_map, h2.perm.length_eq, ← rv.length]
      exact hz
    exact ⟨.ref _, upd H (s.heap.objs.size + 1) (.lst (out.map bkV)), I.laid (t' := s.toks) (fun _ _ => PyProof.Rows.sortedAll_old) (Nat.le_succ _) ⟨hlen, out, ep, bkV_vals hr, he'⟩, rfl, q _ _ tl (I.hok.fresh (Nat.le_succ _))⟩
end
end L2
namespace EV
open PySem L2
def tupsD : List Dt → Option (List (List Int))
  | [] => some []
  | .tup ds :: r => match intsD ds, tupsD r with
    | some ns, some nss => some (ns :: nss)
    | _, _ => none
  | _ :: _ => none
def dST : List Dt → Option (List Dt)
  | [.lst ds] => match tupsD ds with
    | some ([] :: nss) => some ((sortL ([] :: nss)).map fun ns => .tup (ns.map .int))
    | _ => none
  | _ => none
section
variable {G : Stat} {an : An} {w w' : Wd} {H H' : Hp} {S S' : Sto} {W : WX} {X : Cx}
theorem tups_ok : ∀ {ds : List Dt} {vs : List V} {nss : List (List Int)}, PerL G w H ds vs → tupsD ds = some nss → TupL G.K H vs nss
  | [], _, _, .nil, e => by cases e; exact .nil
  | d :: r, _, nss, .cons h k, e => by
    cases h with
    | @tup a xs ds ht kt =>
      unfold tupsD at e
      cases e1 : intsD ds with
      | none => rw [e1] at e; simp at e
      | some ns =>
        cases e2 : tupsD r with
        | none => rw [e1, e2] at e; simp at e
        | some ms =>
          rw [e1, e2] at e
          cases e
          exact .cons ⟨a, rfl, by rw [← ints_ok kt e1]; exact ht⟩ (tups_ok k e2)
    | _ => cases e
theorem ok_tups : ∀ {vs : List V} {nss : List (List Int)}, TupL G.K H vs nss → PerL G w H (nss.map fun ns => Dt.tup (ns.map .int)) vs
  | _, _, .nil => .nil
  | _, _, .cons ⟨t, e, h⟩ r => by
    subst e
    exact .cons (.tup h (PerL.ints _)) (ok_tups r)
theorem okF_st : PrF G (rSortTI G.K) dST := by
  intro an w S H ds xs z Q hS t e q
  match ds, e with
  | [.lst ds], e =>
    obtain ⟨v, rfl, tv⟩ := TpL.one t
    obtain ⟨a, ys, rfl, h1, h2⟩ := tv.lst
    unfold dST at e
    cases e1 : tupsD ds with
    | none => simp only [e1] at e; cases e
    | some ms =>
      match ms, e1 with
      | [], e1 => simp only [e1] at e; cases e
      | (i :: ns) :: nss, e1 => simp only [e1] at e; cases e
      | [] :: nss, e1 =>
        simp only [e1] at e
        cases e
        exact ⟨a, ys, nss, rfl, h1, tups_ok h2 e1, fun ys p tl hp => q w H p ys Grow.refl hS hp (ok_tups tl)⟩
end
end EV

set_option Elab.async false
set_option linter.all false
set_option maxRecDepth 100000
/-! EvY: short forms; defs of data that answer lists. -/
namespace EV
open PySem L2
section
variable {G : Stat} {an : An} {w w' : Wd} {H H' : Hp} {S S' : Sto} {W : WX} {X : Cx}
def dNeg (d : Dt) : Option Dt := match d with
  | .int i => some (.int (-i))
  | _ => none
theorem ok_neg : Op1Ok G (rU fun i => .int (-i)) dNeg := by
  intro an w S H d x z Q hS t e q
  cases d with
  | int i =>
    cases t.int
    cases e
    exact ⟨i, rfl, q w H _ Grow.refl hS (.int _)⟩
  | _ => cases e
theorem se_neg {a : Expr} {ma : Mx} {pos : Pos} (ha : SE G an W X a ma) : SE G an W X (.UnaryOp .USub a pos) (mOp1 dNeg ma) := se_un un_neg ok_neg ha
section
variable {k : Nat} {a b c : Expr} {ma mb mc : Mx} {pos : Pos}
theorem se_lele (ha : SE G an W X a ma) (hb : SE G an W X b mb) (hc : SE G an W X c mc) (hm : lastMarks [.LtE, .LtE] [b, c] = false := by with_unfolding_all rfl) : SE G an W X (.Compare a [.LtE, .LtE] [b, c] pos) (mChain dLe dLe ma mb mc) :=
  se_chain op_le ok_rB0 op_le ok_rB0 ha hb hc (pe_chain op_le op_le ha hb hc hm)
theorem se_lelt (ha : SE G an W X a ma) (hb : SE G an W X b mb) (hc : SE G an W X c mc) (hm : lastMarks [.LtE, .Lt] [b, c] = false := by with_unfolding_all rfl) : SE G an W X (.Compare a [.LtE, .Lt] [b, c] pos) (mChain dLe dLt ma mb mc) :=
  se_chain op_le ok_rB0 op_lt ok_rB0 ha hb hc (pe_chain op_le op_lt ha hb hc hm)
theorem se_ltle (ha : SE G an W X a ma) (hb : SE G an W X b mb) (hc : SE G an W X c mc) (hm : lastMarks [.Lt, .LtE] [b, c] = false := by with_unfolding_all rfl) : SE G an W X (.Compare a [.Lt, .LtE] [b, c] pos) (mChain dLt dLe ma mb mc) :=
  se_chain op_lt ok_rB0 op_le ok_rB0 ha hb hc (pe_chain op_lt op_le ha hb hc hm)
theorem se_ltlt (ha : SE G an W X a ma) (hb : SE G an W X b mb) (hc : SE G an W X c mc) (hm : lastMarks [.Lt, .Lt] [b, c] = false := by with_unfolding_all rfl) : SE G an W X (.Compare a [.Lt, .Lt] [b, c] pos) (mChain dLt dLt ma mb mc) :=
  se_chain op_lt ok_rB0 op_lt ok_rB0 ha hb hc (pe_chain op_lt op_lt ha hb hc hm)
end
theorem tv_read {m : Mx} {σ : L2.St} {H : Hp} {Q : Bool → Hp → Prop} (h : tTe G an W (mbV m) σ H Q) : tM G an W m σ H (fun x H' => ∃ k, x = .bl k ∧ Q k H') := by
  obtain ⟨env, w, S, hE, hS, q⟩ := h
  refine ⟨env, w, S, hE, hS, (Pst.bind q).imp (fun x S1 w1 H1 _ g1 s1 q1 v rv => ?_) fun _ _ _ z => z⟩
  cases rv with
  | loc h => exact q1.elim
  | p h => cases h with
    | bl b => exact ⟨b, rfl, q1 w1 H1 Grow.refl s1⟩
    | _ => exact q1.elim
theorem chain_read {ma mb mc : Mx} {r r' : R2} {f f' : Dt → Dt → Option Dt} (hf : Op2Ok G r f) (hf' : Op2Ok G r' f') {σ : L2.St} {H : Hp} {Q : VK} (h : tM G an W (mChain f f' ma mb mc) σ H Q) : tChain r r' (tM G an W ma) (tM G an W mb) (tM G an W mc) σ H Q := by
  obtain ⟨env, w, S, hE, hS, q⟩ := h
  refine ⟨env, w, S, hE, hS, (Pst.bind q).imp (fun x S1 w1 H1 r1 g1 s1 q1 v rv => ?_) fun _ _ _ z => z⟩
  refine ⟨env, w1, S1, hE.mono g1, s1, (Pst.bind q1).imp (fun y S2 w2 H2 r2 g2 s2 q2 u ru => ?_) fun _ _ _ z => z⟩
  cases rv with
  | loc h => exact q2.elim
  | @p d _ pv => cases ru with
    | loc h => exact q2.elim
    | @p e _ pu =>
      dsimp only at q2
      cases e1 : f d e with
      | none => rw [e1] at q2; exact q2.elim
      | some z =>
        rw [e1] at q2
        refine hf an w2 S2 H2 d e v u z _ s2 (.per (pv.mono g2)) (.per pu) e1 fun w3 H3 v3 g3 s3 p3 => ?_
        cases p3 with
        | bl k =>
          refine ⟨k, rfl, ?_⟩
          cases k with
          | false => exact q2 w3 H3 g3 s3 _ (.p (.bl false))
          | true =>
            refine ⟨env, w3, S2, ((hE.mono g1).mono g2).mono g3, s3, (Pst.bind (Pst.from q2 g3)).imp (fun t S4 w4 H4 r4 g4 s4 q4 v4 rv4 => ?_) fun _ _ _ z => z⟩
            cases rv4 with
            | loc h => exact q4.elim
            | @p c _ pc =>
              dsimp only at q4
              cases e2 : f' e c with
              | none => rw [e2] at q4; exact q4.elim
              | some z =>
                rw [e2] at q4
                exact hf' an w4 S4 H4 e c u v4 z _ s4 (.per ((pu.mono g3).mono g4)) (.per pc) e2 fun w5 H5 v5 g5 s5 p5 => q4 w5 H5 g5 s5 v5 (.p p5)
        | _ => exact q2.elim
section
variable {k : Nat} {a b c : Expr} {ma mb mc : Mx} {pos : Pos}
theorem st_cmp {r : R2} {f : Dt → Dt → Option Dt} {cop : CmpOp} (ho : OpR X (compareOp cop) r) (hf : Op2Ok G r f) (ha : SE G an W X a ma) (hb : SE G an W X b mb) (hm : behindInMarks cop b = false) : ST G an W X (.Compare a [cop] [b] pos) (mbV (mOp2 f ma mb)) :=
  PT.imp (pt_cmpR ho ha hb hm) fun _ _ _ h => op2_read hf (tv_read h)
theorem st_lt (ha : SE G an W X a ma) (hb : SE G an W X b mb) : ST G an W X (.Compare a [.Lt] [b] pos) (mbV (mOp2 dLt ma mb)) := st_cmp op_lt ok_rB0 ha hb (nomark _)
theorem st_le (ha : SE G an W X a ma) (hb : SE G an W X b mb) : ST G an W X (.Compare a [.LtE] [b] pos) (mbV (mOp2 dLe ma mb)) := st_cmp op_le ok_rB0 ha hb (nomark _)
theorem st_gt (ha : SE G an W X a ma) (hb : SE G an W X b mb) : ST G an W X (.Compare a [.Gt] [b] pos) (mbV (mOp2 dGt ma mb)) := st_cmp op_gt ok_rB0 ha hb (nomark _)
theorem st_ge (ha : SE G an W X a ma) (hb : SE G an W X b mb) : ST G an W X (.Compare a [.GtE] [b] pos) (mbV (mOp2 dGe ma mb)) := st_cmp op_ge ok_rB0 ha hb (nomark _)
theorem st_eq (g : Gd G X W k) (ha : SE G an W X a ma) (hb : SE G an W X b mb) : ST G an W X (.Compare a [.Eq] [b] pos) (mbV (mOp2 dEq ma mb)) := st_cmp (op_eqD g.u64) (by rw [g.K]; exact ok_eq) ha hb (nomark _)
theorem st_ne (g : Gd G X W k) (ha : SE G an W X a ma) (hb : SE G an W X b mb) : ST G an W X (.Compare a [.NotEq] [b] pos) (mbV (mOp2 dNe ma mb)) := st_cmp (op_neD g.u64) (by rw [g.K]; exact ok_ne) ha hb (nomark _)
theorem st_in (g : Gd G X W k) (ha : SE G an W X a ma) (hb : SE G an W X b mb) (hm : behindInMarks .In b = false := by rfl) : ST G an W X (.Compare a [.In] [b] pos) (mbV (mOp2 (dIn false) ma mb)) := st_cmp op_in_seq (by rw [g.K]; exact ok_in) ha hb hm
theorem st_nin (g : Gd G X W k) (ha : SE G an W X a ma) (hb : SE G an W X b mb) (hm : behindInMarks .NotIn b = false := by rfl) : ST G an W X (.Compare a [.NotIn] [b] pos) (mbV (mOp2 (dIn true) ma mb)) := st_cmp op_notIn_seq (by rw [g.K]; exact ok_in) ha hb hm
theorem st_lele (ha : SE G an W X a ma) (hb : SE G an W X b mb) (hc : SE G an W X c mc) (hm : lastMarks [.LtE, .LtE] [b, c] = false := by with_unfolding_all rfl) : ST G an W X (.Compare a [.LtE, .LtE] [b, c] pos) (mbV (mChain dLe dLe ma mb mc)) :=
  PT.imp (pt_chain op_le op_le ha hb hc hm) fun _ _ _ h => chain_read ok_rB0 ok_rB0 (tv_read h)
theorem st_lelt (ha : SE G an W X a ma) (hb : SE G an W X b mb) (hc : SE G an W X c mc) (hm : lastMarks [.LtE, .Lt] [b, c] = false := by with_unfolding_all rfl) : ST G an W X (.Compare a [.LtE, .Lt] [b, c] pos) (mbV (mChain dLe dLt ma mb mc)) :=
  PT.imp (pt_chain op_le op_lt ha hb hc hm) fun _ _ _ h => chain_read ok_rB0 ok_rB0 (tv_read h)
theorem st_ltle (ha : SE G an W X a ma) (hb : SE G an W X b mb) (hc : SE G an W X c mc) (hm : lastMarks [.Lt, .LtE] [b, c] = false := by with_unfolding_all rfl) : ST G an W X (.Compare a [.Lt, .LtE] [b, c] pos) (mbV (mChain dLt dLe ma mb mc)) :=
  PT.imp (pt_chain op_lt op_le ha hb hc hm) fun _ _ _ h => chain_read ok_rB0 ok_rB0 (tv_read h)
theorem st_ltlt (ha : SE G an W X a ma) (hb : SE G an W X b mb) (hc : SE G an W X c mc) (hm : lastMarks [.Lt, .Lt] [b, c] = false := by with_unfolding_all rfl) : ST G an W X (.Compare a [.Lt, .Lt] [b, c] pos) (mbV (mChain dLt dLt ma mb mc)) :=
  PT.imp (pt_chain op_lt op_lt ha hb hc hm) fun _ _ _ h => chain_read ok_rB0 ok_rB0 (tv_read h)
end
/-! ### defs of data whose answer is a list -/
inductive RyL where
  | ok (ds : List Dt) | exc (c : Nat) (p : Dt) | bad
abbrev Pl := List Dt → RyL
def toPL (f : Fl) : Pl := fun ds => match f (ds.map .p) [] with
  | .ok es _ => .ok es
  | .exc c p _ => .exc c p
  | _ => .bad
def purL (g : Pl) : Fl := fun xs S => match allP xs with
  | some ds => match g ds with
    | .ok es => .ok es S
    | .exc c p => .exc c p S
    | .bad => .bad
  | none => .bad
theorem PerL.unb {ds : List Dt} {vs : List V} (g : Grow w.bare H w' H') (k : PerL G w' H' ds vs) : PerL G w H' ds vs := (k.cut g).unbare
theorem pureL_spec {n : Nat} {f : Fl} (vs : List V) (H : Hp) (Q : VK) (E : XK) (h : spOfF G n (purL (toPL f)) vs H Q E) : spOfF G n f vs H Q E := by
  obtain ⟨xs, w, S, r, hn, hS, q⟩ := h
  unfold purL at q
  cases e : allP xs with
  | none => rw [e] at q; exact q.elim
  | some ds =>
    have hp := RvL.all r e
    rw [e] at q
    dsimp only at q
    have ex := allP_eq e
    refine ⟨xs, w.bare, [], ?_, hn, hS.bare, ?_⟩
    · rw [ex]
      exact hp.bare.vals
    · rw [ex]
      unfold toPL at q
      cases e2 : f (ds.map .p) [] with
      | ok es S' =>
        rw [e2] at q
        intro w' H' g s a ys ha hy
        exact q w H' (Grow.unbare hS g).1 (hS.unbare g s) a ys ha (hy.unb g)
      | exc c p S' =>
        rw [e2] at q
        intro w' H' cls dd g s x
        refine q w H' cls dd (Grow.unbare hS g).1 (hS.unbare g s) ⟨x.cls, ?_⟩
        have := x.pay
        cases ec : G.cf c with
        | none => rw [ec] at this; exact this
        | some fl =>
          rw [ec] at this
          obtain ⟨d, v, h1, h2, h3⟩ := this
          exact ⟨d, v, h1, h2, (h3.cut g).unbare⟩
      | bad => rw [e2] at q; exact q.elim
theorem FnL.pure {k : Nat} {x : Str} {a : Addr} {n : Nat} {dd : List Dt} {f : Fl} (h : FnL G k x a n dd f) : FnL G k x a n dd (purL (toPL f)) :=
  ⟨let ⟨fd, ps, ds, dvs, F, r⟩ := h.ex; ⟨fd, ps, ds, dvs, F.imp pureL_spec, r⟩, h.mg, h.kp⟩
end
end EV

set_option Elab.async false
set_option linter.all false
set_option maxRecDepth 100000
/-! EvL: a lambda handed to a def that catches what it raises. -/
namespace EV
open PySem L2
/-- what a catcher makes of the class c with the payload p -/
abbrev Cat := Nat → Dt → Option Dt
def mMet (m : Mx) (fine : Str) (cat : Cat) : Mx := fun env S => match m env S with
  | .ok _ S' => .ok (.p (.str fine)) S'
  | .exc c p S' => (match cat c p with
    | some d => .ok (.p d) S'
    | none => .bad)
  | .bad => .bad
section
variable {G : Stat} {an : An} {w w' : Wd} {H H' : Hp} {S S' : Sto} {W : WX} {X : Cx}
theorem Grow.ext (e : LamX.ExtN H H') : Grow w H w H' :=
  ⟨⟨[], by simp⟩, fun _ m => m, fun b m n => absurd m n, fun b m n => absurd m n, fun b o h _ nt => e b o h nt, fun b xs h => e b _ h (fun ps z => nomatch z), fun b o u h => e b _ h (fun ps z => nomatch z)⟩
theorem StoR.ext (s : StoR G an w S H) (e : LamX.ExtN H H') (t : G.tbs H') : StoR G an w S H' :=
  ⟨s.len, s.nd, fun n a h => by
    obtain ⟨d, h1, c⟩ := s.at' n a h
    obtain ⟨o, h2, co⟩ := c.ho
    exact ⟨d, h1, c.mono (Grow.ext e) ((e a _ h2 co.ntbl).trans h2.symm)⟩, fun a m => ⟨(s.ax a m).1, by
    obtain ⟨o, h, co⟩ := (s.ax a m).2
    exact ⟨o, e a _ h co.ntbl, co⟩⟩, an.m _ _ _ _ (Grow.ext e) s.anc, t⟩
/-- the catcher's reading of the lambda's -/
def TTm (G : Stat) (an : An) (fine : Str) (cat : Cat) : (XK → Hp → VK → Prop) → Hp → VK → Prop := fun tl H Q =>
  tl (fun cls dd H' => ∃ (c : Nat) (p : Dt) (w : Wd) (S : Sto) (z : Dt), ExR G w H' c p cls dd ∧ StoR G an w S H' ∧ cat c p = some z ∧ ∀ w2 H2 v, Grow w H' w2 H2 → StoR G an w2 S H2 → Per G w2 H2 z v → Q v H2) H (fun _ H' => Q (.str fine) H')
theorem met_read {T : List (Addr × Str)} {m : Mx} {fine : Str} {cat : Cat} (hT : ∀ H, G.tbs H → LamX.Tabs T H) (hT' : ∀ H, LamX.Tabs T H → G.tbs H) {σ : L2.St} {Q : VK} (h : tM G an W (mMet m fine cat) σ H Q) :
    LamX.tLam T (TTm G an fine cat) (fun E => tM G an (fun c d _ H => E c d H) m) σ H Q := by
  obtain ⟨env, w, S, hE, hS, q⟩ := h
  refine ⟨hT H hS.tb, fun H1 eN T1 => ?_⟩
  have g0 : Grow w H w H1 := Grow.ext eN
  refine ⟨env, w, S, hE.mono g0, hS.ext eN (hT' H1 T1), ?_⟩
  unfold mMet at q
  cases e : m env S with
  | ok x S' =>
    rw [e] at q
    exact fun w' H' g s v rv => q w' H' (g0.trans g) s _ (.p (.str fine))
  | bad => rw [e] at q; exact q.elim
  | exc c p S' =>
    rw [e] at q
    intro w' H' cls dd g s x
    cases e2 : cat c p with
    | none => simp only [e2] at q; exact q.elim
    | some z =>
      simp only [e2] at q
      exact ⟨c, p, w', S', z, x, s, e2, fun w2 H2 v g2 s2 pv => q w2 H2 ((g0.trans g).trans g2) s2 v (.p pv)⟩
theorem Gd.lam {k : Nat} (g : Gd G X W k) {A : Around} {outer : List PySem.Env} {s : Shared} {E : XK} {scope : Scope} {f c' : Addr} (hr : Room k (A.deeper (LamX.lamEnv X scope s.heap.objs.size f c'))) : Gd G (LamX.lamCx X A outer s H E scope f c') (fun c d _ H => E c d H) k :=
  ⟨g.P, g.w, g.K, g.mg, g.base, rfl, g.nd, takes_of rfl rfl rfl rfl, hr, passes_of rfl⟩
/-- x(lambda: body), x a catcher -/
theorem se_met {T : List (Addr × Str)} {x a : Str} {gx c P : Addr} {k : Nat} {pg : Arguments} {bg : List Stmt} {sg : Scope} {dV kV doc pm cdv ct oc : Value} {an2 od : Option Addr} {osl : Array (Option Value)} {Ng : List Str}
    {params : Arguments} {body : Expr} {scope : Scope} {p lpos pos : Pos} {m : Mx} {fine : Str} {cat : Cat} (g : Gd G X W (k + 2)) (hT : ∀ H, G.tbs H → LamX.Tabs T H) (hT' : ∀ H, LamX.Tabs T H → G.tbs H) (hm : G.mg x = some (.ref gx)) (hk : PySem.W.keepIn G.K (.ref gx) = true)
    (lk : G.K.lookup gx = some ⟨oc, od, .func (PySem.W.fnOf x x pg bg sg dV kV doc pm an2 cdv ct), osl⟩) (hcg : PySem.W.codeIn G.K cdv x = true) (hb : L2.Binds G.K (PySem.W.fnOf x x pg bg sg dV kV doc pm an2 cdv ct) [a] []) (Sg : FnScope Ng [a] sg) (hNg : Ng[0]? = some a) (hva : Vis sg a)
    (hG : LamX.GivesTo X Ng x sg gx cdv bg a (X.env.qual ++ "<lambda>") (TTm G an fine cat))
    (TB : LamX.TabB G.base G.mg c P) (hcode : X.env.code = .ref c) (hmT : (P, X.env.qual ++ "<lambda>") ∈ T) (hu : ∀ p ∈ T, p.1 = P → p.2 = X.env.qual ++ "<lambda>") (L : LamX.LamS X.env.scope scope)
    (hbody : ∀ (A : Around) (outer : List PySem.Env) (s : Shared) (H : Hp) (E : XK) (f c' : Addr), Gd G (LamX.lamCx X A outer s H E scope f c') (fun c d _ H => E c d H) k → SE G an (fun c d _ H => E c d H) (LamX.lamCx X A outer s H E scope f c') body m)
    (hg : Gl X x := by rfl) (hdef : defaultsOf params X.env = ([], []) := by rfl)
    (hbind : ∀ (q : Str) (cl : List (Str × Addr)) (pm cv ctv : Value), bindArgs (PySem.W.kla_fn "<lambda>" q params body scope cl pm cv ctv) ⟨[], []⟩ = pure [] := by intros; rfl)
    (hdb : (x == ("__debug__" : Str)) = false := by decide) (hd : (a == ("__debug__" : Str)) = false := by decide) (hcd : (a == ("__classdict__" : Str)) = false := by decide) :
    SE G an W X (.Call (.Name x p) [.Lambda params body scope lpos] [] pos) (mMet m fine cat) :=
  PE.imp (LamX.pe_lamcall (T := T) (TT := TTm G an fine cat) (k := k) (c := c) (P := P) (g := gx) (t := fun E => tM G an (fun c d _ H => E c d H) m) hg (by rw [g.mg]; exact hm) (by rw [g.K]; exact hk) (by rw [g.K]; exact lk) (by rw [g.K]; exact hcg) (by rw [g.K]; exact hb) Sg hNg hva hG
    (by rw [g.base, g.mg]; exact TB) hcode hmT hu g.room L hdef hbind (fun A outer s H E f c' hr => hbody A outer s H E f c' ((show Gd G X W k from ⟨g.P, g.w, g.K, g.mg, g.base, g.calm, g.nd, g.tk, g.room.mono (by omega), g.pass⟩).lam hr)) hdb hd hcd) fun σ H Q h => met_read hT hT' h
end
end EV

set_option Elab.async false
set_option linter.all false
set_option maxRecDepth 100000
/-! EvM: try with several clauses, some of them with a name. -/
namespace EV
open PySem PySem.Spec PyProof.Rows L2
/-- a clause: its class, the slot of its name, its suite -/
abbrev Clause := Value × Option Nat × (Addr → Value → Option Addr → TS)
def endsLess (D : Ends) (i : Nat) : Ends := ⟨fun σ H => D.nx (σ.set i none) H, D.rt, fun σ H => D.bk (σ.set i none) H, fun σ H => D.ct (σ.set i none) H⟩
def clauseGoes (D : Ends) : Option Nat → (Addr → Value → Option Addr → TS) → Value → Option Addr → L2.St → Hp → Prop
  | none, ts, cls, d, σ, H => ∀ a, H a = none → ts a cls d D σ H
  | some i, ts, cls, d, σ, H => ∀ a, H a = none → (σ.set i (some (.ref a)))[i]? = some (some (V.ref a)) → ts a cls d (endsLess D i) (σ.set i (some (.ref a))) H
def wMix (K : PySem.W.Frag) (Wout : WX) (D : Ends) : List Clause → WX
  | [] => Wout
  | (c, o, ts) :: r => fun cls d σ H => ∃ b, PySem.W.exmOne K cls c = some b ∧ (b = true → clauseGoes D o ts cls d σ H) ∧ (b = false → wMix K Wout D r cls d σ H)
/-- how a clause's name is told -/
def NameAt (X : Cx) : Option Str → Option Nat → Prop
  | none, none => True
  | some n, some i => X.N.Nodup ∧ X.N[i]? = some n ∧ X.env.kindOf n = some .local
  | _, _ => False
def SuiteOk (X : Cx) (su : List Stmt) (ts : Addr → Value → Option Addr → TS) : Prop :=
  ∀ (a : Addr) (ob : Obj) (cls : Value) (d : Option Addr) (pn : List (Addr × Obj)), Zc cls d ob → (∃ fs, ob.data = .fields fs) → PSs (X.suite a ((a, ob) :: pn)) su (ts a cls d)
inductive MixOk (X : Cx) : List ExceptHandler → List Clause → Prop
  | nil : MixOk X [] []
  | cons {x : Str} {c : Value} {o : Option Nat} {on : Option Str} {ts : Addr → Value → Option Addr → TS} {b0 : Stmt} {su : List Stmt} {np p : Pos} {hds : List ExceptHandler} {l : List Clause} (hc : Names X x c) (hn : NameAt X on o) (hs : SuiteOk X (b0 :: su) ts) (r : MixOk X hds l) :
      MixOk X (.ExceptHandler (some (.Name x np)) on (b0 :: su) p :: hds) ((c, o, ts) :: l)
section
variable {X : Cx} {pins : List (Addr × Obj)} {σ : L2.St} {H : Hp}
/-- the clauses one after the other, once the exception at a has landed -/
theorem mix_run {Wout : WX} {D : Ends} {a : Addr} {B : Heap} {sI s2 : Shared} {cls : Value} {d : Option Addr} {h3 : Heap} (ok : X.Ok) (hs : X.stack = X.env :: X.outer) (hf : X.env.frame = some X.env.locals) (tk : Takes X Wout)
    (J : Inv X pins σ H sI) (nb : ∀ b o, sI.heap.get? b = some o → b ∉ frs X.stack → B.get? b = some o) (up : sI.heap.UpToSlots s2.heap) (fly : HandSPX.FlyingZ B (X.env :: X.outer) a (Zc cls d) h3) (up3 : s2.heap.UpToSlots h3)
    (na : H a = none) (os : s2.os = sI.os) (ag : AllBare s2.gens) (aL : a ≠ X.env.locals) (aF : a ∉ X.fs) {hds : List ExceptHandler} {l : List Clause} (hm : MixOk X hds l) :
    wMix X.K Wout D l cls d σ H → wpAny (model X.prog X.w) X.A (handleBy (.ref a) X.env hds) (SP X pins D) X.xe { s2 with heap := h3 } := by
  induction hm with
  | nil =>
    intro out
    refine wpAny_handleBy_nil ?_
    obtain ⟨_, _, _, ob, fs, T, oT, ts, g1, _, g3, g4, _⟩ := id fly
    unfold PySem.passOn
    refine wpAny_bind (wpAny_field g1 g3 g4 ?_)
    rw [if_neg (show ¬ ((Value.ref T == Value.none) = true) by simp)]
    have onward : wpAny (model X.prog X.w) X.A (setFlight (.ref a) X.env.frame) (fun _ z => wpAny (model X.prog X.w) X.A (throw (.ref a) : Sem Flow) (SP X pins D) X.xe z) X.xe { s2 with heap := h3 } := by
      rw [hf]
      exact HandSPX.setFlight_upZ fly fun h4 held up4 => wpAny_throw (tk _ _ ⟨a, B, sI, pins, σ, H, cls, d, rfl, J, nb, (up.trans up3).trans up4, .inr (.inr (by rw [hs]; exact held)), na, os, ag, out⟩)
    first
      | exact wpAny_bind (wpAny_pure (wpAny_bind onward))
      | exact wpAny_bind onward
  | @cons x c o on ts b0 su np p hds l hc hn hsu r ih =>
    rintro ⟨b, isC, yes, no⟩
    obtain ⟨ob3, fs3, there3, z3, f3⟩ := fly.there
    have K3 : Inv X pins σ H { s2 with heap := h3 } := J.landed nb fly.1 (up.trans up3) os ag
    have U3 := K3.suite there3 f3 na aL aF
    have looks : PySem.W.Looks (model X.prog X.w) h3 (typeOf (.ref a)) cls := fun A Q E s k q => wpAny_typeOf_ref (k _ _ there3) (by rw [z3.1]; exact q)
    have judge := PySem.W.exm_one (M := model X.prog X.w) K3.kIn looks isC
    have look : ∀ {Q E : Value → Shared → Prop}, Q c { s2 with heap := h3 } → wpAny (model X.prog X.w) (X.A.mark (some (.ref a))) (eval (.Name x np) X.env) Q E { s2 with heap := h3 } := fun {Q E} q => by
      obtain ⟨gl, db, m | ⟨m, bo, nn⟩⟩ := hc
      · exact ld_glob (X := X.suite a ((a, ob3) :: (X.pn ++ pins))) U3 gl m q db
      · exact ld_blt (X := X.suite a ((a, ob3) :: (X.pn ++ pins))) U3 gl m bo q nn db
    refine wpAny_handleBy_cons (codeAny_handlers_test (look (judge.here ?_))) (by intro q; cases q)
    cases b with
    | false => exact ih (no rfl)
    | true =>
      have go := yes rfl
      have fresh : ∀ {h4 : Heap}, HandSPX.FlyingZ B (X.env :: X.outer) a (Zc cls d) h4 → h3.UpToSlots h4 → ∃ ob fs, Zc cls d ob ∧ ob.data = .fields fs ∧ Inv (X.suite a ((a, ob) :: (X.pn ++ pins))) [] σ H { s2 with heap := h4 } := fun {h4} fl4 up4 => by
        obtain ⟨ob, fs, g1, g2, g3⟩ := fl4.there
        have K4 : Inv X pins σ H { s2 with heap := h4 } := J.landed nb fl4.1 ((up.trans up3).trans up4) os ag
        exact ⟨ob, fs, g2, g3, K4.suite g1 g3 na aL aF⟩
      cases o with
      | none =>
        cases on with
        | some n => exact hn.elim
        | none =>
          refine codeAny_handlers_suite (HandSPX.lands_againZ fly fun h4 fl4 up4 => ?_)
          obtain ⟨ob, fs, g2, g3, U4⟩ := fresh fl4 up4
          refine wpAny_mono ((hsu a ob cls d (X.pn ++ pins) g2 ⟨_, g3⟩).run [] _ _ H _ U4 (go a na)) (fun f s6 sp => ?_) (fun _ _ z => False.elim z)
          match f, sp with
          | .next, ⟨_, _, U6, q⟩ => exact ⟨_, _, U6.unsuite ok, q⟩
          | .brk, ⟨_, _, U6, q⟩ => exact ⟨_, _, U6.unsuite ok, q⟩
          | .cont, ⟨_, _, U6, q⟩ => exact ⟨_, _, U6.unsuite ok, q⟩
          | .ret _, ⟨_, _, _, U6, rv, q⟩ => exact ⟨_, _, _, U6.unsuite ok, rv, q⟩
      | some i =>
        cases on with
        | none => exact hn.elim
        | some n =>
          obtain ⟨hN, hi, hl⟩ := hn
          refine codeAny_handlers_suite_as (HandSPX.lands_againZ fly fun h4 fl4 up4 => ?_)
          obtain ⟨ob, fs, g2, g3, U4⟩ := fresh fl4 up4
          refine store_ok (X := X.suite a ((a, ob) :: (X.pn ++ pins))) (v := .ref a) U4 hN hi (Or.inl hl) rfl (fun s5 U5 => ?_) (.inr hl)
          refine wpAny_mono ((hsu a ob cls d (X.pn ++ pins) g2 ⟨_, g3⟩).run [] s5 _ H _ U5 (go a na (List.getElem?_set_self (by rw [J.len]; exact (List.getElem?_eq_some_iff.mp hi).1)))) (fun f s6 sp => ?_) (fun _ _ z => False.elim z)
          have drop : ∀ {σ6 : L2.St} {H6 : Hp} {R : Shared → Prop}, Inv (X.suite a ((a, ob) :: (X.pn ++ pins))) [] σ6 H6 s6 → (∀ s7, Inv X pins (σ6.set i none) H6 s7 → R s7) →
              wpAny (model X.prog X.w) X.A (do bindName X.env n .none; unbindBehindTheSuite X.env n p) (fun _ s7 => R s7) X.xe s6 := fun {_ _ _} U6 hq => gone_ok (U6.unsuite ok) hN hi hl hq
          match f, sp with
          | .next, ⟨_, _, U6, q⟩ => exact drop U6 fun s7 K7 => ⟨_, _, K7, q⟩
          | .brk, ⟨_, _, U6, q⟩ => exact drop U6 fun s7 K7 => ⟨_, _, K7, q⟩
          | .cont, ⟨_, _, U6, q⟩ => exact drop U6 fun s7 K7 => ⟨_, _, K7, q⟩
          | .ret _, ⟨_, _, _, U6, rv, q⟩ => exact drop U6 fun s7 K7 => ⟨_, _, _, K7, rv, q⟩
theorem ps_try_mix {body : List Stmt} {hd : ExceptHandler} {hds : List ExceptHandler} {l : List Clause} {pos : Pos} {tb : WX → TS} {Wout : WX} (hs : X.stack = X.env :: X.outer) (hf : X.env.frame = some X.env.locals) (tk : Takes X Wout)
    (hb : ∀ (W : WX) (pn : List (Addr × Obj)) (xe : Value → Shared → Prop), Takes (X.tr pn xe) W → PassesOwn (model X.prog X.w) X.A X.env xe → PSs (X.tr pn xe) body (tb W)) (hm : MixOk X (hd :: hds) l) :
    PS X (.Try body (hd :: hds) [] [] pos) (fun D σ H => tb (wMix X.K Wout D l) D σ H) := by
  refine ⟨fun pins s σ H D I h => ?_⟩
  have ok := I.ok
  have fr : X.A.frames = some (X.env :: X.outer) := by rw [ok.frames, hs]
  refine wpAny_Try_except (wpAny_mono ((hb (wMix X.K Wout D l) (X.pn ++ pins) (fun e s1 => wpAny (model X.prog X.w) X.A (noteFrame e X.env) (fun _ s2 => wpAny (model X.prog X.w) X.A (setFlight e none) (fun _ s3 =>
    wpAny (model X.prog X.w) X.A (handleBy e X.env (hd :: hds)) (SP X pins D) X.xe s3) X.xe s2) X.xe s1) (fun u s2 xx => ?_) PassesOwn.looking).run [] s σ H D (I.toTry _) h) (fun f s1 sp => ?_) (fun e s1 he => he))
  · obtain ⟨a, B, sI, pins2, σ2, H2, cls, d, rfl, J2, nb, up, sky, na, os, ag, w⟩ := xx
    have J : Inv X pins σ2 H2 sI := J2.ofTry ok
    have sky2 : Sky B (X.env :: X.outer) a (Zc cls d) X.env.locals s2.heap := by rw [← hs]; exact sky
    refine (show wpAny (model X.prog X.w) X.A (noteFrame (.ref a) X.env) _ _ _ from Sky.land Zc.steady fr hf sky2 fun h3 fly up3 => ?_)
    obtain ⟨ob, fs, g1, _, g3⟩ := fly.there
    have away : a ∉ frs (X.env :: X.outer) := fun hm => by
      obtain ⟨_, o2, e2, no⟩ := fly.2.2.1.mem hm
      rw [g1] at e2
      cases e2
      exact no _ g3
    refine mix_run ok hs hf tk J nb up fly up3 na os ag (fun z => away (List.mem_filterMap.mpr ⟨X.env, List.mem_cons_self, by rw [hf, z]⟩)) (fun m => ?_) hm w
    obtain ⟨e, he, q⟩ := List.mem_filterMap.mp m
    exact away (List.mem_filterMap.mpr ⟨e, List.mem_cons_of_mem _ he, q⟩)
  · match f, sp with
    | .next, ⟨_, _, J, q⟩ => exact wpAny_execs_nil ⟨_, _, J.ofTry ok, q⟩
    | .brk, ⟨_, _, J, q⟩ => exact ⟨_, _, J.ofTry ok, q⟩
    | .cont, ⟨_, _, J, q⟩ => exact ⟨_, _, J.ofTry ok, q⟩
    | .ret _, ⟨_, _, _, J, rv, q⟩ => exact ⟨_, _, _, J.ofTry ok, rv, q⟩
end
end EV

set_option Elab.async false
set_option linter.all false
set_option maxRecDepth 100000
/-! EvG: what hangs on the stack's guards: repr; defs that are run where no guard is under way; catchers. -/
namespace EV
open PySem PySem.Spec PyProof.Rows L2
abbrev Gu (X : Cx) : Prop := X.A.guards = some []
section
variable {G : Stat} {an : An} {w w' : Wd} {H H' : Hp} {S S' : Sto} {W : WX} {X : Cx}
/-! ### repr -/
def dRepr : Dt → Option Dt
  | .non => some (.str "None")
  | .bl b => some (.str (if b then "True" else "False"))
  | .int i => if i.natAbs.log2 < 1920 then some (.str (toString i)) else none
  | .str x => if (reprText x).length ≤ 1000000 then some (.str (reprText x)) else none
  | d => match toPy d with
    | some y => if y.showable && !y.hasDict && decide (y.depth ≤ 60) && decide (y.shown.length ≤ 1000000) && isDisplay y then some (.str y.shown) else none
    | none => none
def rRepr (K : PySem.W.Frag) : List V → Hp → VK → Prop := fun xs H Q => ∃ v, xs = [v] ∧ ((v = .non ∧ Q (.str "None") H) ∨ (∃ b, v = .bl b ∧ Q (.str (if b then "True" else "False")) H) ∨ (∃ i : Int, v = .int i ∧ i.natAbs.log2 < 1920 ∧ Q (.str (toString i)) H) ∨
  (∃ x, v = .str x ∧ (reprText x).length ≤ sizeLine ∧ Q (.str (reprText x)) H) ∨ ∃ y : PyData, Dp K H v y ∧ y.showable = true ∧ y.hasDict = false ∧ y.depth ≤ 60 ∧ y.shown.length ≤ sizeLine ∧ isDisplay y = true ∧ Q (.str y.shown) H)
theorem call_repr (gu : Gu X) (hu : X.A.units + 64 < cLine) : CallR X (.builtin "repr") (rRepr X.K) := by
  intro pins s σ H xs us Q I r h
  obtain ⟨v, rfl, h⟩ := h
  obtain ⟨u, rfl, rv⟩ := vals1 r
  rcases h with ⟨rfl, q⟩ | ⟨b, rfl, q⟩ | ⟨i, rfl, hz, q⟩ | ⟨x, rfl, hz, q⟩ | ⟨y, hy, h1, h2, h3, h4, h5, q⟩
  · cases rv
    exact PySem.P.repr_of_none ⟨.str _, H, I.tok _, ⟨_, rfl⟩, q⟩
  · cases rv
    exact PySem.P.repr_of_bool ⟨.str _, H, I.tok _, ⟨_, rfl⟩, q⟩
  · obtain ⟨t, rfl⟩ := rv
    exact PySem.P.repr_of_int hz ⟨.str _, H, I.tok _, ⟨_, rfl⟩, q⟩
  · obtain ⟨t, rfl⟩ := rv
    exact PySem.P.repr_of_str ⟨.str _, H, I.tok _, ⟨_, rfl⟩, q⟩ hz
  · obtain ⟨as, rd⟩ := Dp.reads I y v u hy rv
    obtain ⟨a, rfl⟩ := isRef_of_reads rd h5
    exact repr_of_reads' rd h1 (PyData.noDict_hsm h2) gu (by omega) (fun _ _ e => e) (fun h' t tk hk => ⟨.str _, H, I.kept hk, ⟨_, rfl⟩, q⟩) h4
theorem mil_line {n : Nat} (h : n ≤ 1000000) : n ≤ sizeLine := line_ok (decide_eq_true (by omega))
theorem ok_repr1 {d z : Dt} {v : V} {Q : VK} (s : StoR G an w S H) (t : Tp G w H d v) (e : dRepr d = some z) (q : ∀ w' H' v', Grow w H w' H' → StoR G an w' S H' → Per G w' H' z v' → Q v' H') : rRepr G.K [v] H Q := by
  have fin : ∀ {x : Str}, z = .str x → Q (.str x) H := fun {x} ez => by
    subst ez
    exact q w H _ Grow.refl s (.str _)
  have big : ∀ y, toPy d = some y → (∃ a, v = .ref a) → (y.showable && !y.hasDict && decide (y.depth ≤ 60) && decide (y.shown.length ≤ 1000000) && isDisplay y) = true → z = .str y.shown → rRepr G.K [v] H Q := fun y ey _ h ez => by
    simp only [Bool.and_eq_true, decide_eq_true_eq, Bool.not_eq_true'] at h
    obtain ⟨⟨⟨⟨h1, h2⟩, h3⟩, h4⟩, h5⟩ := h
    exact ⟨v, rfl, .inr (.inr (.inr (.inr ⟨y, t.py ey, h1, h2, h3, mil_line h4, h5, fin ez⟩)))⟩
  have gen : ∀ o, toPy d = o → (∃ a, v = .ref a) → (match o with
      | some y => if y.showable && !y.hasDict && decide (y.depth ≤ 60) && decide (y.shown.length ≤ 1000000) && isDisplay y then some (Dt.str y.shown) else none
      | none => none) = some z → rRepr G.K [v] H Q := fun o eo hv h => by
    cases o with
    | none => cases h
    | some y =>
      dsimp only at h
      split at h
      · rename_i hc
        exact big y eo hv hc (Option.some.inj h).symm
      · cases h
  cases d with
  | non => cases t.non; exact ⟨_, rfl, .inl ⟨rfl, fin (Option.some.inj e).symm⟩⟩
  | bl b => cases t.bl; exact ⟨_, rfl, .inr (.inl ⟨b, rfl, fin (Option.some.inj e).symm⟩)⟩
  | int i =>
    cases t.int
    have e : (if i.natAbs.log2 < 1920 then some (Dt.str (toString i)) else none) = some z := e
    split at e
    · rename_i hz
      exact ⟨_, rfl, .inr (.inr (.inl ⟨i, rfl, hz, fin (Option.some.inj e).symm⟩))⟩
    · cases e
  | str x =>
    cases t.str
    have e : (if (reprText x).length ≤ 1000000 then some (Dt.str (reprText x)) else none) = some z := e
    split at e
    · rename_i hz
      exact ⟨_, rfl, .inr (.inr (.inr (.inl ⟨x, rfl, mil_line hz, fin (Option.some.inj e).symm⟩)))⟩
    · cases e
  | tup ds =>
    obtain ⟨a, xs, ev, _, _⟩ := t.tup
    exact gen _ rfl ⟨a, ev⟩ e
  | lst ds =>
    obtain ⟨a, xs, ev, _, _⟩ := t.lst
    exact gen _ rfl ⟨a, ev⟩ e
  | fro ds =>
    obtain ⟨a, xs, ev, _, _⟩ := t.fro
    exact gen _ rfl ⟨a, ev⟩ e
  | tux ds =>
    obtain ⟨a, xs, ev, _, _⟩ := t.tux
    exact gen _ rfl ⟨a, ev⟩ e
  | dct ks ds => unfold dRepr at e; simp [toPy] at e
  | fn i => unfold dRepr at e; simp [toPy] at e
  | dtt a b => unfold dRepr at e; simp [toPy] at e
  | dcx a b c d => unfold dRepr at e; simp [toPy] at e
  | obj a b c => unfold dRepr at e; simp [toPy] at e
def dReprL : List Dt → Option Dt
  | [d] => dRepr d
  | _ => none
theorem ok_repr : PrOk G (rRepr G.K) dReprL := by
  intro an w S H ds xs z Q s ts ef q
  match ds, ef with
  | [d], ef =>
    obtain ⟨v, rfl, t⟩ := ts.one
    exact ok_repr1 s t ef q
/-! ### defs that are run where no guard is under way -/
structure FnG (G : Stat) (k : Nat) (f : Addr) (fd : FuncData) (ps : List Str) (sp : Sp) : Prop where
  len : ∀ vs H Q E, sp vs H Q E → vs.length = ps.length
  go : ∀ (A : Around) (outer : List PySem.Env) (s : Shared) (H : Hp) (args : Args) (us : List Value) (vs : List V) (Q : VK) (E : XK), A.guards = some [] → Room k A → Env0 G.P G.w G.K G.mg G.base A outer s H → BindsTo s fd args (ps.zip us) → Vals vs us → sp vs H Q E →
    codeAny (model G.P G.w) A (.call (.ref f) args) (CR (L2.CX G.P G.w) outer G.P G.w H s Q E) s
theorem FnG.mono {j k : Nat} {f : Addr} {fd : FuncData} {ps : List Str} {sp : Sp} (F : FnG G j f fd ps sp) (h : j ≤ k) : FnG G k f fd ps sp := ⟨F.len, fun A outer s H args us vs Q E g r => F.go A outer s H args us vs Q E g (r.mono h)⟩
theorem FnG.imp {k : Nat} {f : Addr} {fd : FuncData} {ps : List Str} {sp sp' : Sp} (F : FnG G k f fd ps sp) (h : ∀ vs H Q E, sp' vs H Q E → sp vs H Q E) : FnG G k f fd ps sp' :=
  ⟨fun vs H Q E q => F.len vs H Q E (h _ _ _ _ q), fun A outer s H args us vs Q E g r e b v q => F.go A outer s H args us vs Q E g r e b v (h _ _ _ _ q)⟩
theorem FnG.of {k : Nat} {f : Addr} {fd : FuncData} {ps : List Str} {sp : Sp} (F : FnOk G.P G.w G.K G.mg G.base (L2.CX G.P G.w) k f fd ps sp) : FnG G k f fd ps sp := ⟨F.len, fun A outer s H args us vs Q E _ r => F.run A outer s H args us vs Q E r⟩
/-- a def whose code object is c -/
structure FunC (K : PySem.W.Frag) (x : Str) (st : Stmt) (f c : Addr) (fd : FuncData) : Prop where
  ex : ∃ (oc : Value) (od : Option Addr) (kV doc pm : Value) (an : Option Addr) (ct : Value) (osl : Array (Option Value)), fd = PySem.W.fnOf x x (defArgs st) (defBody st) (defScope st) .none kV doc pm an (.ref c) ct ∧ K.lookup f = some ⟨oc, od, .func fd, osl⟩ ∧ PySem.W.codeIn K (.ref c) x = true
  kp : PySem.W.keepIn K (.ref f) = true
theorem fn_okG {x : Str} {st : Stmt} {f c : Addr} {fd : FuncData} {N ps : List Str} {k n : Nat} {m : Sx} (F : FunC G.K x st f c fd) (Sc : FnScope N ps (defScope st)) (hn : ps.length = n)
    (hb : ∀ (A : Around) (outer : List PySem.Env) (s : Shared) (H : Hp) (E : XK), Gd G (cxOf (L2.CX G.P G.w) G.P G.w G.K G.mg G.base N x (defScope st) f (.ref c) A outer s H E) (fun c d _ H => E c d H) k → Gu (cxOf (L2.CX G.P G.w) G.P G.w G.K G.mg G.base N x (defScope st) f (.ref c) A outer s H E) →
      SB G an0 (fun c d _ H => E c d H) (cxOf (L2.CX G.P G.w) G.P G.w G.K G.mg G.base N x (defScope st) f (.ref c) A outer s H E) (defBody st) m) :
    FnG G (k + 1) f fd ps (spOf G n (fnSem N.length m)) := by
  obtain ⟨oc, od, kV, doc, pm, an, ct, osl, rfl, lk, hcd⟩ := F.ex
  have len : ∀ vs H Q E, spOf G n (fnSem N.length m) vs H Q E → vs.length = ps.length := fun vs H Q E ⟨xs, w, S, r, h1, _⟩ => by rw [← r.length, h1, hn]
  refine ⟨len, fun A outer s H args us vs Q E gu hr e0 bt rv sp => LamX.run_ofS lk hcd Sc hr e0 bt rv (len _ _ _ _ sp) fun hr2 => ⟨_, hb A outer s H E ⟨rfl, rfl, rfl, rfl, rfl, rfl, Sc.nd, takes_of rfl rfl rfl rfl, hr2, passes_of rfl⟩ gu, fn_read sp⟩⟩
structure FnD (G : Stat) (k : Nat) (x : Str) (a : Addr) (n : Nat) (f : Fs) : Prop where
  ex : ∃ fd ps, FnG G k a fd ps (spOf G n f) ∧ Binds G.K fd ps []
  mg : G.mg x = some (.ref a)
  kp : PySem.W.keepIn G.K (.ref a) = true
theorem FnD.mono {j k : Nat} {x : Str} {a : Addr} {n : Nat} {f : Fs} (h : FnD G j x a n f) (hj : j ≤ k) : FnD G k x a n f := ⟨let ⟨fd, ps, F, b⟩ := h.ex; ⟨fd, ps, F.mono hj, b⟩, h.mg, h.kp⟩
theorem go_fnG {k : Nat} {f : Addr} {fd : FuncData} {ps : List Str} {sp : Sp} {us : List Value} {vs : List V} {pins : List (Addr × Obj)} {σ : L2.St} {s : Shared} {Q : VK} (g : Gd G X W k) (gu : Gu X) (F : FnG G k f fd ps sp) (hb : Binds G.K fd ps [])
    (I : Inv X pins σ H s) (r : Vals vs us) (h : sp vs H Q (WE W σ)) : wpAny (model X.prog X.w) X.A (call (.ref f) us) (EP X pins σ Q) X.xe s := by
  have lenUs : (us ++ []).length = ps.length := by rw [List.append_nil]; exact r.length.symm.trans (F.len _ _ _ _ h)
  have bt := hb s us (by rw [← g.K]; exact I.kIn) lenUs
  have e0 := I.env0
  rw [g.P, g.w, g.K, g.mg, g.base] at e0
  have go := F.go X.A X.stack s H ⟨us, []⟩ (us ++ []) vs Q (WE W σ) gu g.room e0 bt (by rw [List.append_nil]; exact r) h
  rw [← g.P, ← g.w] at go
  refine wpAny_call (codeAny_mono go fun res s2 hr => ?_)
  match res, hr with
  | .error e, hr => exact passAt g.tk σ pins H s e s2 I hr
  | .ok (.ret u), hr => exact I.after hr
theorem se_callD {k n : Nat} {x : Str} {a : Addr} {f : Fs} {e : Expr} {es : List Expr} {ma : Ma} {p pos : Pos} (g : Gd G X W k) (gu : Gu X) (h : FnD G k x a n f) (ha : SA G an W X (e :: es) ma) (hg : Gl X x := by rfl)
    (hdb : (x == ("__debug__" : Str)) = false := by decide) (he : starEach (e :: es) X.env = (false, eval e X.env) :: starEach es X.env := by rfl) (hpl : (backTo pos (starEach es X.env)).any (·.1) = false := by rfl) :
    SE G an W X (.Call (.Name x p) (e :: es) [] pos) (mCall f n [] ma) := by
  obtain ⟨fd, ps, F, hb⟩ := h.ex
  refine ⟨fun pins s σ H Q I ⟨env, w, S, hE, hS, q⟩ => ?_⟩
  refine wpAny_Call_Name_kw (ld_glob I hg (by rw [g.mg]; exact h.mg) ?_ hdb)
  refine PySem.W.callWith_K (h₀ := X.base) I.ok.mod.kin (by rw [g.K]; exact h.kp) (thn (ha.run pos pins s σ H (fun vs H1 => spOf G n f vs H1 Q (WE W σ)) I ⟨env, w, S, hE, hS, (Pst.bind q).imp (fun xs S1 w1 H1 r1 g1 s1 q1 vs rvs => ?_) fun _ _ _ z => z⟩) fun us s1 ⟨vs, H1, I1, r, q⟩ => ⟨I1.kIn, ?_⟩) he hpl
  · simp only [List.map_nil, List.append_nil] at q1
    split at q1
    · rename_i hl
      exact spOf_of rvs hl s1 q1
    · exact q1.elim
  · exact go_fnG g gu F hb I1 r q
/-! ### a call of a local name that holds a def -/
def mCallL (i : Nat) (tbl : Nat → Option (Nat × Fs)) (ma : Ma) : Mx := fun env S => match env[i]? with
  | some (some (.p (.fn j))) => (match tbl j with
    | some (n, f) => (ma env S).bind fun xs S1 => if xs.length = n then f xs S1 else .bad
    | none => .bad)
  | _ => .bad
theorem se_callL {k i : Nat} {x : Str} {tbl : Nat → Option (Nat × Fs)} {e : Expr} {es : List Expr} {ma : Ma} {p pos : Pos} (g : Gd G X W k) (T : ∀ j n f, tbl j = some (n, f) → ∃ y, FnF G k y (G.fa j) n [] f) (hN : X.N[i]? = some x) (hv : Vis X.env.scope x) (ha : SA G an W X (e :: es) ma)
    (hdb : (x == ("__debug__" : Str)) = false := by decide) (hcd : (x == ("__classdict__" : Str)) = false := by decide)
    (he : starEach (e :: es) X.env = (false, eval e X.env) :: starEach es X.env := by rfl) (hpl : (backTo pos (starEach es X.env)).any (·.1) = false := by rfl) :
    SE G an W X (.Call (.Name x p) (e :: es) [] pos) (mCallL i tbl ma) := by
  refine ⟨fun pins s σ H Q I ⟨env, w, S, hE, hS, q⟩ => ?_⟩
  unfold mCallL at q
  cases e1 : env[i]? with
  | none => rw [e1] at q; exact q.elim
  | some o =>
    match o, e1 with
    | none, e1 => rw [e1] at q; exact q.elim
    | some (.loc _), e1 => rw [e1] at q; exact q.elim
    | some (.p d), e1 =>
      cases d with
      | fn j =>
        rw [e1] at q
        dsimp only at q
        cases e2 : tbl j with
        | none => rw [e2] at q; exact q.elim
        | some nf =>
          obtain ⟨n, f⟩ := nf
          rw [e2] at q
          dsimp only at q
          obtain ⟨v, hσ, rv⟩ := hE.at' i _ e1
          have ev : v = .ref (G.fa j) := by
            cases rv with
            | p h => cases h; rfl
          subst ev
          obtain ⟨y, FF⟩ := T j n f e2
          obtain ⟨fd, ps, ds, dvs, F, hb, hd, hdd⟩ := FF.ex
          have hdv : dvs = [] := by
            have := (hdd w H).length
            cases dvs with
            | nil => rfl
            | cons _ _ => simp at this
          subst hdv
          refine wpAny_Call_Name_kw (thn ((pe_var (pos := p) hN hv hdb hcd).run pins s σ H (fun v H1 => v = .ref (G.fa j) ∧ H1 = H) I ⟨.ref (G.fa j), hσ, rfl, rfl⟩) fun u s1 ⟨v, H1, I1, r1, q1⟩ => ?_)
          obtain ⟨rfl, rfl⟩ := q1
          cases r1
          refine PySem.W.callWith_K (h₀ := X.base) I.ok.mod.kin (by rw [g.K]; exact FF.kp) (thn (ha.run pos pins s1 σ _ (fun vs H1 => spOf G n f (vs ++ []) H1 Q (WE W σ)) I1 ⟨env, w, S, hE, hS, (Pst.bind q).imp (fun xs S1 w1 H1 r1 g1 s1 q1 vs rvs => ?_) fun _ _ _ z => z⟩) fun us s2 ⟨vs, H2, I2, r, q⟩ => ⟨I2.kIn, ?_⟩) he hpl
          · split at q1
            · rename_i hl
              rw [List.append_nil]
              exact spOf_of rvs hl s1 q1
            · exact q1.elim
          · exact go_fn g F hb hd I2 r q
      | _ => rw [e1] at q; exact q.elim
end
end EV

set_option Elab.async false
set_option linter.all false
set_option maxRecDepth 100000
/-! EvH: a def that calls the lambda that it got and tells what it raised. -/
namespace EV
open PySem PySem.Spec PyProof.Rows L2
section
variable {G : Stat} {an : An} {w w' : Wd} {H H' : Hp} {S S' : Sto} {W : WX} {X : Cx}
theorem ExR.mono (g : Grow w H w' H') {c : Nat} {p : Dt} {cls : Value} {dd : Option Addr} (s : StoR G an w S H) (x : ExR G w H c p cls dd) : ExR G w' H' c p cls dd := by
  refine ⟨x.cls, ?_⟩
  have := x.pay
  cases e : G.cf c with
  | none => rw [e] at this; exact this
  | some f =>
    rw [e] at this
    obtain ⟨d, v, h1, h2, h3⟩ := this
    refine ⟨d, v, h1, g.keep d _ h2 (fun m => ?_), h3.mono g⟩
    exact s.outk h2 (fun z => z) m
/-! ### what a clause's expression is worth: by the class and the payload -/
def tH (G : Stat) (an : An) (a : Addr) (cls : Value) (d : Option Addr) (o : Option Nat) (hv : Cat) : TE := fun σ H Q => (∀ i, o = some i → σ[i]? = some (some (V.ref a))) ∧ ∃ c p w S z, ExR G w H c p cls d ∧ StoR G an w S H ∧ hv c p = some z ∧
  ∀ w2 H2 v, Grow w H w2 H2 → StoR G an w2 S H2 → Per G w2 H2 z v → Q v H2
abbrev CatL := Nat → Dt → Option (List Dt)
def tHA (G : Stat) (an : An) (a : Addr) (cls : Value) (d : Option Addr) (o : Option Nat) (hv : CatL) : TA := fun σ H Q => (∀ i, o = some i → σ[i]? = some (some (V.ref a))) ∧ ∃ c p w S zs, ExR G w H c p cls d ∧ StoR G an w S H ∧ hv c p = some zs ∧
  ∀ w2 H2 vs, Grow w H w2 H2 → StoR G an w2 S H2 → PerL G w2 H2 zs vs → Q vs H2
section
variable {a : Addr} {cls : Value} {d : Option Addr} {o : Option Nat}
theorem he_str {x : Str} {j : Nat} {pos : Pos} : PE X (.Constant (.str x) j pos) (tH G an a cls d o fun _ _ => some (.str x)) :=
  PE.imp pe_str fun σ H Q ⟨_, c, p, w, S, z, _, s, e, q⟩ => by
    cases e
    exact q w H _ Grow.refl s (.str _)
def hvNil : CatL := fun _ _ => some []
def hvCons (h : Cat) (r : CatL) : CatL := fun c p => match h c p, r c p with
  | some x, some xs => some (x :: xs)
  | _, _ => none
theorem ha_nil : PA X [] (tHA G an a cls d o hvNil) := PA.imp pa_nil fun σ H Q ⟨_, c, p, w, S, z, _, s, e, q⟩ => by
  cases e
  exact q w H _ Grow.refl s .nil
theorem ha_cons {e : Expr} {es : List Expr} {h : Cat} {r : CatL} (he : PE X e (tH G an a cls d o h)) (hr : PA X es (tHA G an a cls d o r)) (hs : starEach (e :: es) X.env = (false, eval e X.env) :: starEach es X.env := by rfl) : PA X (e :: es) (tHA G an a cls d o (hvCons h r)) :=
  PA.imp (pa_cons he hr hs) fun σ H Q ⟨n, c, p, w, S, zs, x, s, e, q⟩ => by
    unfold hvCons at e
    cases e1 : h c p with
    | none => rw [e1] at e; cases e
    | some z1 => cases e2 : r c p with
      | none => rw [e1, e2] at e; cases e
      | some z2 =>
        rw [e1, e2] at e
        cases e
        exact ⟨n, c, p, w, S, z1, x, s, e1, fun w2 H2 v g2 s2 pv => ⟨n, c, p, w2, S, z2, x.mono g2 s, s2, e2, fun w3 H3 vs g3 s3 pvs => q w3 H3 _ (g2.trans g3) s3 (.cons (pv.mono g3) pvs)⟩⟩
def hvTup (r : CatL) : Cat := fun c p => match r c p with
  | some zs => if line zs.length then some (.tup zs) else none
  | none => none
theorem he_tup {es : List Expr} {x1 : Nat} {pos : Pos} {r : CatL} (h : PA X es (tHA G an a cls d o r)) : PE X (.Tuple es x1 pos) (tH G an a cls d o (hvTup r)) :=
  PE.imp (pe_tup h) fun σ H Q ⟨n, c, p, w, S, z, x, s, e, q⟩ => by
    unfold hvTup at e
    cases e1 : r c p with
    | none => rw [e1] at e; cases e
    | some zs =>
      rw [e1] at e
      dsimp only at e
      split at e
      · rename_i hl
        cases e
        exact ⟨n, c, p, w, S, zs, x, s, e1, fun w2 H2 vs g2 s2 pvs => ⟨by rw [← pvs.length]; exact line_ok hl, fun b hb => q w2 _ _ (g2.trans (Grow.obj s2 hb)) (s2.obj hb) (.tup upd_same (pvs.mono (Grow.obj s2 hb)))⟩⟩
      · cases e
def hvAdd (h1 h2 : Cat) : Cat := fun c p => match h1 c p, h2 c p with
  | some x, some y => dAdd x y
  | _, _ => none
theorem he_add {e1 e2 : Expr} {h1 h2 : Cat} {pos : Pos} (hK : X.K = G.K) (ha : PE X e1 (tH G an a cls d o h1)) (hb : PE X e2 (tH G an a cls d o h2)) : PE X (.BinOp e1 .Add e2 pos) (tH G an a cls d o (hvAdd h1 h2)) :=
  PE.imp (pe_op (op_addU (X := X)) ha hb) fun σ H Q ⟨n, c, p, w, S, z, x, s, e, q⟩ => by
    unfold hvAdd at e
    cases e1 : h1 c p with
    | none => rw [e1] at e; cases e
    | some z1 => cases e2 : h2 c p with
      | none => rw [e1, e2] at e; cases e
      | some z2 =>
        rw [e1, e2] at e
        refine ⟨n, c, p, w, S, z1, x, s, e1, fun w2 H2 v g2 s2 pv => ⟨n, c, p, w2, S, z2, x.mono g2 s, s2, e2, fun w3 H3 u g3 s3 pu => ?_⟩⟩
        rw [hK]
        exact ok_addU an w3 S H3 z1 z2 v u z Q s3 (.per (pv.mono g3)) (.per pu) e fun w4 H4 v4 g4 s4 p4 => q w4 H4 v4 ((g2.trans g3).trans g4) s4 p4
def hvRepr (h : Cat) : Cat := fun c p => match h c p with
  | some x => dRepr x
  | none => none
theorem he_repr {e : Expr} {h : Cat} {p pos : Pos} (gu : Gu X) (hu : X.A.units + 64 < cLine) (hK : X.K = G.K) (hmg : X.mg = G.mg) (hm : G.mg "repr" = none) (he : PE X e (tH G an a cls d o h)) (hg : Gl X "repr" := by rfl)
    (hs : starEach [e] X.env = (false, eval e X.env) :: starEach [] X.env := by rfl) (hpl : (backTo pos (starEach [] X.env)).any (·.1) = false := by rfl) : PE X (.Call (.Name "repr" p) [e] [] pos) (tH G an a cls d o (hvRepr h)) :=
  PE.imp (pe_callB (call_repr gu hu) hg (by rw [hmg]; exact hm) (by decide +kernel) (pa_cons he pa_nil hs) (by decide) (by decide) hs hpl) fun σ H Q ⟨n, c, p, w, S, z, x, s, e, q⟩ => by
    unfold hvRepr at e
    cases e1 : h c p with
    | none => rw [e1] at e; cases e
    | some z1 =>
      rw [e1] at e
      refine ⟨n, c, p, w, S, z1, x, s, e1, fun w2 H2 v g2 s2 pv => ?_⟩
      rw [hK]
      exact ok_repr1 s2 (.per pv) e fun w4 H4 v4 g4 s4 p4 => q w4 H4 v4 (g2.trans g4) s4 p4
end
/-- error.f, error the exception that was caught -/
def hvGiven (c0 : Nat) : Cat := fun c p => if c = c0 then some p else none
theorem he_given {Z : Cx} {a : Addr} {c0 i : Nat} {ob : Obj} {cls : Value} {d : Option Addr} {pn : List (Addr × Obj)} {e n : Str} {p pos : Pos} (hK : Z.K = G.K) (T : XfC G.K (G.ca c0)) (hno : PySem.W.findIn G.K (.ref (G.ca c0)) n = some none) (hcf : G.cf c0 = some n)
    (hz : Zc cls d ob) (hf : ∃ fs, ob.data = .fields fs) (he : PE (Z.suite a ((a, ob) :: pn)) (.Name e p) (tVar i)) (hb : attributeBase (.Name e p) n Z.env (eval (.Name e p) Z.env) = eval (.Name e p) Z.env := by rfl) :
    PE (Z.suite a ((a, ob) :: pn)) (.Attribute (.Name e p) n pos) (tH G an a cls d (some i) (hvGiven c0)) :=
  PE.imp (pe_xf (X := Z) (by rw [hK]; exact T) (by rw [hK]; exact hno) hz hf he hb) fun σ H Q ⟨nm, c, p, w, S, z, x, s, e, q⟩ => by
    unfold hvGiven at e
    split at e
    · rename_i ec
      cases e
      subst ec
      have pay := x.pay
      rw [hcf] at pay
      obtain ⟨dd, v, h1, h2, h3⟩ := pay
      exact ⟨V.ref a, nm i rfl, rfl, x.cls, dd, [(n, v)], v, h1, h2, by simp [List.lookup], q w H v Grow.refl s h3⟩
    · cases e
/-! ### the clauses -/
inductive CatOk (G : Stat) (an : An) (Z : Cx) : List ExceptHandler → List (Nat × Option Nat × Cat) → Prop
  | nil : CatOk G an Z [] []
  | cons {x : Str} {h : Nat} {o : Option Nat} {on : Option Str} {e : Expr} {hv : Cat} {np rp p : Pos} {hds : List ExceptHandler} {l : List (Nat × Option Nat × Cat)} (hc : Names Z x (.ref (G.ca h))) (hn : NameAt Z on o)
      (he : ∀ (a : Addr) (ob : Obj) (cls : Value) (d : Option Addr) (pn : List (Addr × Obj)), Zc cls d ob → (∃ fs, ob.data = .fields fs) → PE (Z.suite a ((a, ob) :: pn)) e (tH G an a cls d o hv)) (r : CatOk G an Z hds l) :
      CatOk G an Z (.ExceptHandler (some (.Name x np)) on [.Return (some e) rp] p :: hds) ((h, o, hv) :: l)
abbrev Sub := Nat → Nat → Option Bool
def catB (sub : Sub) : List (Nat × Option Nat × Cat) → Cat
  | [], _, _ => none
  | (h, _, hv) :: r, c, p => match sub c h with
    | some true => hv c p
    | some false => catB sub r c p
    | none => none
def clausesOf (G : Stat) (an : An) (l : List (Nat × Option Nat × Cat)) : List Clause := l.map fun t => (.ref (G.ca t.1), t.2.1, fun a cls d D σ H => tH G an a cls d t.2.1 t.2.2 σ H D.rt)
theorem mix_of {Z : Cx} {hds : List ExceptHandler} {l : List (Nat × Option Nat × Cat)} (h : CatOk G an Z hds l) : MixOk Z hds (clausesOf G an l) := by
  induction h with
  | nil => exact .nil
  | cons hc hn he r ih => exact .cons hc hn (fun a ob cls d pn z f => pss_one (ps_ret (he a ob cls d pn z f))) ih
theorem mix_read {Z : Cx} {sub : Sub} (hK : Z.K = G.K) (hx : ∀ c h b, sub c h = some b → PySem.W.exmOne G.K (.ref (G.ca c)) (.ref (G.ca h)) = some b) {D : Ends} {cls : Value} {d : Option Addr} {σ : L2.St} {H : Hp} {c : Nat} {p z : Dt} {w : Wd} {S : Sto} (x : ExR G w H c p cls d) (s : StoR G an w S H)
    (q : ∀ w2 H2 v, Grow w H w2 H2 → StoR G an w2 S H2 → Per G w2 H2 z v → D.rt v H2) {W : WX} : ∀ {l : List (Nat × Option Nat × Cat)}, catB sub l c p = some z → wMix Z.K W D (clausesOf G an l) cls d σ H
  | [], e => by cases e
  | (h, o, hv) :: r, e => by
    unfold catB at e
    cases es : sub c h with
    | none => rw [es] at e; cases e
    | some b =>
      rw [es] at e
      refine ⟨b, by rw [hK, x.cls]; exact hx c h b es, fun hb => ?_, fun hb => ?_⟩
      · subst hb
        cases o with
        | none => exact fun a na => ⟨fun i z => (nomatch z), c, p, w, S, z, x, s, e, q⟩
        | some i => exact fun a na hs => ⟨fun j ej => by cases ej; exact hs, c, p, w, S, z, x, s, e, q⟩
      · subst hb
        exact mix_read hK hx x s q e
/-- what the catcher makes of the lambda's reading -/
def tFine (G : Stat) (an : An) (fine : Dt) : Hp → VK → Prop := fun H Q => ∃ w S, StoR G an w S H ∧ ∀ w2 H2 v, Grow w H w2 H2 → StoR G an w2 S H2 → Per G w2 H2 fine v → Q v H2
def TTc (G : Stat) (an : An) (fine : Dt) (cat : Cat) : (XK → Hp → VK → Prop) → Hp → VK → Prop := fun tl H Q =>
  tl (fun cls dd H' => ∃ (c : Nat) (p : Dt) (w : Wd) (S : Sto) (z : Dt), ExR G w H' c p cls dd ∧ StoR G an w S H' ∧ cat c p = some z ∧ ∀ w2 H2 v, Grow w H' w2 H2 → StoR G an w2 S H2 → Per G w2 H2 z v → Q v H2) H (fun _ H' => tFine G an fine H' Q)
def mCat (m : Mx) (fine : Dt) (cat : Cat) : Mx := fun env S => match m env S with
  | .ok _ S' => .ok (.p fine) S'
  | .exc c p S' => (match cat c p with
    | some d => .ok (.p d) S'
    | none => .bad)
  | .bad => .bad
theorem cat_read {T : List (Addr × Str)} {m : Mx} {fine : Dt} {cat : Cat} (hT : ∀ H, G.tbs H → LamX.Tabs T H) (hT' : ∀ H, LamX.Tabs T H → G.tbs H) {σ : L2.St} {Q : VK} (h : tM G an W (mCat m fine cat) σ H Q) :
    LamX.tLam T (TTc G an fine cat) (fun E => tM G an (fun c d _ H => E c d H) m) σ H Q := by
  obtain ⟨env, w, S, hE, hS, q⟩ := h
  refine ⟨hT H hS.tb, fun H1 eN T1 => ?_⟩
  have g0 : Grow w H w H1 := Grow.ext eN
  refine ⟨env, w, S, hE.mono g0, hS.ext eN (hT' H1 T1), ?_⟩
  unfold mCat at q
  cases e : m env S with
  | ok x S' =>
    rw [e] at q
    exact fun w' H' g s v rv => ⟨w', S', s, fun w2 H2 v2 g2 s2 p2 => q w2 H2 ((g0.trans g).trans g2) s2 v2 (.p p2)⟩
  | bad => rw [e] at q; exact q.elim
  | exc c p S' =>
    rw [e] at q
    intro w' H' cls dd g s x
    cases e2 : cat c p with
    | none => simp only [e2] at q; exact q.elim
    | some z =>
      simp only [e2] at q
      exact ⟨c, p, w', S', z, x, s, e2, fun w2 H2 v g2 s2 pv => q w2 H2 ((g0.trans g).trans g2) s2 v (.p pv)⟩
/-- how the fine end is told: an expression of constants -/
def FineOk (G : Stat) (an : An) (Z : Cx) (e : Expr) (fine : Dt) : Prop := PE Z e fun _ H Q => tFine G an fine H Q
theorem fine_str {Z : Cx} {x : Str} {j : Nat} {pos : Pos} : FineOk G an Z (.Constant (.str x) j pos) (.str x) := PE.imp pe_str fun σ H Q ⟨w, S, s, q⟩ => q w H _ Grow.refl s (.str _)
theorem fine_two {Z : Cx} {x y : Str} {j j2 x1 : Nat} {p p2 pos : Pos} : FineOk G an Z (.Tuple [.Constant (.str x) j p, .Constant (.str y) j2 p2] x1 pos) (.tup [.str x, .str y]) :=
  PE.imp (pe_tup (pa_cons pe_str (pa_cons pe_str pa_nil))) fun σ H Q ⟨w, S, s, q⟩ => ⟨line_ok (show line 2 = true by decide), fun b hb => q w _ _ (Grow.obj s hb) (s.obj hb) (.tup upd_same (.cons (.str _) (.cons (.str _) .nil)))⟩
theorem cat_gives {Ng : List Str} {x a q : Str} {sg : Scope} {gx : Addr} {cdg : Value} {p1 p2 p3 p4 p5 : Pos} {hd : ExceptHandler} {hds : List ExceptHandler} {l : List (Nat × Option Nat × Cat)} {sub : Sub} {fe : Expr} {fine : Dt} (hK : X.K = G.K)
    (hx : ∀ c h b, sub c h = some b → PySem.W.exmOne G.K (.ref (G.ca c)) (.ref (G.ca h)) = some b) (h0 : ∀ f : Addr, (L2.start Ng [V.ref f])[0]? = some (some (V.ref f)))
    (hc : ∀ (s : Shared) (H : Hp), CatOk G an (cxOf C8.CX0 X.prog X.w X.K X.mg X.base Ng x sg gx cdg X.A X.stack s H C8.E0).nox (hd :: hds) l)
    (hf : ∀ (s : Shared) (H : Hp), FineOk G an (cxOf C8.CX0 X.prog X.w X.K X.mg X.base Ng x sg gx cdg X.A X.stack s H C8.E0).nox fe fine) :
    LamX.GivesTo X Ng x sg gx cdg [.Try [.Expr (.Call (.Name a p1) [] [] p2) p3] (hd :: hds) [] [] p4, .Return (some fe) p5] a q (TTc G an fine (catB sub l)) := by
  intro f c' s H Q tl act hcode h
  refine ⟨_, pss_cons (ps_try_mix (X := (cxOf C8.CX0 X.prog X.w X.K X.mg X.base Ng x sg gx cdg X.A X.stack s H C8.E0).nox)
      (tb := fun W D σ H => ∃ Ech : XK, (∀ cls d σ' H', Ech cls d H' → W cls d σ' H') ∧ σ[0]? = some (some (.ref f)) ∧ H c' = some (LamX.CodeO c' q) ∧ tl Ech H fun _ H1 => D.nx σ H1)
      rfl rfl LamX.takes0 (fun W pn xe tk _ => ?_) (mix_of (hc s H))) (pss_one (ps_ret (hf s H))), ?_⟩
  · refine ⟨fun pins s' σ H' D I h' => ?_⟩
    obtain ⟨Ech, hW, h1, h2, h3⟩ := h'
    exact (pss_one (ps_expr (pos := p3) (act W pn xe Ech p1 p2 tk hW))).run pins s' σ H' D I ⟨h1, h2, h3⟩
  · exact ⟨_, fun cls d σ' H' ⟨c, p, w, S, z, x, s, e, q⟩ => mix_read hK hx x s q e, h0 f, hcode, h⟩
end
end EV

set_option Elab.async false
set_option linter.all false
set_option maxRecDepth 100000
set_option maxHeartbeats 2000000
/-! EvW: the law's own call, where no guard is under way; tables of code objects. -/
namespace EV
open PySem PySem.Spec PyProof.Rows L2
/-- what the abstract heap is to hold ahead of the law: the tables, and the script, if it is not written -/
def H0 (K : PySem.W.Frag) (tabs : List Addr) (a : Addr) (vs : List Value) (ns : List Int) : Hp := fun b =>
  if b ∈ tabs then some (.tbl #[]) else if b = a ∧ K.lookup a = none then some (.frz { cls := .type "list", data := .seq vs.toArray } (.lst (ns.map V.int))) else none
section
variable {P : Program} {w : World} {K : PySem.W.Frag} {mg mb : Str → Option Value} {a : Addr} {cs : List (Addr × Addr)} {s1 : Shared} {vs : List Value} {ns : List Int}
theorem H0_no {tabs : List Addr} {b : Addr} (h1 : b ∉ tabs) (h2 : ¬ (b = a ∧ K.lookup a = none)) : H0 K tabs a vs ns b = none := by
  unfold H0
  rw [if_neg h1, if_neg h2]
theorem H0_tab {tabs : List Addr} {b : Addr} (h1 : b ∈ tabs) : H0 K tabs a vs ns b = some (.tbl #[]) := if_pos h1
theorem H0_scr {tabs : List Addr} (h1 : a ∉ tabs) (h2 : K.lookup a = none) : H0 K tabs a vs ns a = some (.frz { cls := .type "list", data := .seq vs.toArray } (.lst (ns.map V.int))) := by
  unfold H0
  rw [if_neg h1, if_pos ⟨rfl, h2⟩]
theorem H0_cases {tabs : List Addr} (h1 : a ∉ tabs) (b : Addr) : (b ∈ tabs ∧ H0 K tabs a vs ns b = some (.tbl #[])) ∨ (b = a ∧ K.lookup a = none ∧ H0 K tabs a vs ns b = some (.frz { cls := .type "list", data := .seq vs.toArray } (.lst (ns.map V.int)))) ∨ (b ∉ tabs ∧ H0 K tabs a vs ns b = none) := by
  rcases Classical.em (b ∈ tabs) with m | m
  · exact .inl ⟨m, H0_tab m⟩
  · rcases Classical.em (b = a ∧ K.lookup a = none) with q | q
    · obtain ⟨rfl, q⟩ := q
      exact .inr (.inl ⟨rfl, q, H0_scr m q⟩)
    · exact .inr (.inr ⟨m, H0_no m q⟩)
/-- the law's promise is read at the caller -/
theorem law_end {k : Nat} {fa : Addr} {fd : FuncData} {x : Str} {sp : Sp} (KX : K.In s1.heap) (hns : s1.heap.Ns mainGlobals mg) (hb : s1.heap.Ns builtinsNs mb) (hbb : ∀ x : Str, x ≠ "__name__" → mb x = bootBuiltins x) (hlim : s1.heap.NoLimit) (hg : s1.gens = #[])
    (hT : ∀ p ∈ cs, s1.heap.get? p.2 = some { cls := .none, data := .fields #[] }) (nT : ∀ p ∈ cs, K.lookup p.2 = none) (hC : ∀ p ∈ cs, PySem.W.CodeHd s1.heap p.1 p.2)
    (hbm : ∃ (bm : Addr) (ob : Obj), mg "__builtins__" = some (.ref bm) ∧ bm ≠ builtinsNs ∧ s1.heap.get? bm = some ob ∧ ob.cls = .type "module" ∧ ob.dict = some builtinsNs ∧ ob.data = .plain)
    (ha : s1.heap.get? a = some { cls := .type "list", data := .seq vs.toArray }) (hi : IntsAre vs ns) (hl : ns.length ≤ sizeLine) (hr : Room k callerA) (hbind : ∀ (s : Shared) (u : Value), BindsTo s fd ⟨[u], []⟩ [(x, u)])
    (F : ∀ base : Heap, K.In base → base.Ns mainGlobals mg → (∀ p ∈ cs, LamX.TabB base mg p.1 p.2) → ∃ G : Stat, G.P = P ∧ G.w = w ∧ G.K = K ∧ G.mg = mg ∧ G.base = base ∧ FnG G k fa fd [x] sp)
    (hsp : ∀ H : Hp, (∀ p ∈ cs, H p.2 = some (.tbl #[])) → SqL K H a (ns.map V.int) → sp [.ref a] H (fun v _ => v = .bl true) fun _ _ _ => False) :
    codeAny (model P w) callerA (.call (.ref fa) ⟨[.ref a], []⟩) (fun r s' => r = .ok (.ret (.bool true)) ∧ OldK s1.heap s'.heap ∧ s'.os = s1.os ∧ AllBare s'.gens) s1 := by
  obtain ⟨tabs, et⟩ : ∃ t, t = cs.map (·.2) := ⟨_, rfl⟩
  have inT : ∀ p ∈ cs, p.2 ∈ tabs := fun p hp => by rw [et]; exact List.mem_map.mpr ⟨p, hp, rfl⟩
  have tab : ∀ b ∈ tabs, ∃ p ∈ cs, p.2 = b := fun b hb => by rw [et] at hb; exact List.mem_map.mp hb
  have isT : ∀ b ∈ tabs, s1.heap.get? b = some { cls := .none, data := .fields #[] } := fun b hb => by
    obtain ⟨p, hp, rfl⟩ := tab b hb
    exact hT p hp
  have aT : a ∉ tabs := fun m => by
    have z := (isT a m).symm.trans ha
    have z' : Data.fields #[] = Data.seq vs.toArray _ := congrArg Obj.data (Option.some.inj z)
    cases z'
  have rv := vals_ints hi
  obtain ⟨H, eH⟩ : ∃ H, H = H0 K tabs a vs ns := ⟨_, rfl⟩
  have cas := H0_cases (K := K) (vs := vs) (ns := ns) aT
  rw [← eH] at cas
  -- what is not the script and no table is seen in the hidden heap
  have seen : ∀ {b : Addr} {o : Obj}, s1.heap.get? b = some o → (∀ us n, o.data ≠ .seq us n) → o.data ≠ .fields #[] → H b = none ∧ (hidT s1.heap H).get? b = some o := fun {b o} e n1 n2 => by
    rcases cas b with ⟨m, _⟩ | ⟨rfl, _, _⟩ | ⟨_, q⟩
    · rw [isT b m] at e
      cases e
      exact (n2 rfl).elim
    · rw [ha] at e
      cases e
      exact (n1 _ _ rfl).elim
    · exact ⟨q, hidT_get e q⟩
  have nsSeen : ∀ {b : Addr} {m : Str → Option Value}, s1.heap.Ns b m → (hidT s1.heap H).Ns b m := fun {b m} ⟨o, es, ep, e, d, r⟩ => ⟨o, es, ep, (seen e (fun us n z => by rw [d] at z; cases z) (fun z => by rw [d] at z; cases z)).2, d, r⟩
  have KB : K.In (hidT s1.heap H) := fun b o e => by
    have e1 := KX b o e
    rcases cas b with ⟨m, _⟩ | ⟨rfl, q, _⟩ | ⟨_, q⟩
    · obtain ⟨p, hp, rfl⟩ := tab b m
      rw [nT p hp] at e
      cases e
    · rw [q] at e
      cases e
    · exact hidT_get e1 q
  have md : L2.Mod K mg (hidT s1.heap H) := ⟨KB, nsSeen hns, ⟨mb, nsSeen hb, hbb⟩, let ⟨mc, z1, z2⟩ := hlim; ⟨mc, nsSeen z1, z2⟩⟩
  have apart : ∀ {b : Addr} {o : Obj} {m : Str → Option Value}, s1.heap.Ns b m → s1.heap.get? b = some o → (∀ es ep, o.data ≠ .dict es ep) → False := fun {b o m} ⟨o2, es, ep, e, d, _⟩ e2 n => by
    rw [e] at e2
    cases e2
    exact n _ _ d
  have TB : ∀ p ∈ cs, LamX.TabB (hidT s1.heap H) mg p.1 p.2 := fun p hp => by
    have tp := hT p hp
    refine ⟨?_, ?_, fun z => ?_⟩
    · obtain ⟨o, us, file, tf, flags, tg, inF, text, tt, g1, g2, g3, g4, g5⟩ := hC p hp
      exact ⟨o, us, file, tf, flags, tg, inF, text, tt, (seen g1 (fun us n z => by rw [g3] at z; cases z) (fun z => by rw [g3] at z; cases z; simp at g4)).2, g2, g3, g4, g5⟩
    · obtain ⟨bm, ob, b1, b2, b3, b4, b5, b6⟩ := hbm
      refine ⟨bm, ob, b1, b2, fun z => ?_, fun z => ?_, (seen b3 (fun us n z => by rw [b6] at z; cases z) (fun z => by rw [b6] at z; cases z)).2, b4, b5, b6⟩
      · rw [z] at b3
        exact apart hns b3 fun es ep q => by rw [b6] at q; cases q
      · rw [z, tp] at b3
        cases b3
        cases b6
    · rw [← z] at tp
      exact apart hns tp fun es ep q => by cases q
  have hok : HOk P w H s1.heap := fun b u z => by
    rcases cas b with ⟨m, q⟩ | ⟨rfl, _, q⟩ | ⟨_, q⟩
    · rw [q] at z
      cases z
      exact isT b m
    · rw [q] at z
      cases z
      exact ⟨ha, by rw [List.length_map]; exact hl, vs, _, rv, ha⟩
    · rw [q] at z
      cases z
  have sq : SqL K H a (ns.map V.int) := by
    cases q : K.lookup a with
    | none =>
      rw [eH]
      exact .inl (.inr ⟨_, H0_scr aT q⟩)
    | some o =>
      have z := KX a o q
      rw [ha] at z
      cases z
      exact .inr ⟨_, vs.toArray, _, q, rfl, rfl, rfl, by rw [List.size_toArray, hi.length]; exact hl, by simpa using rv⟩
  have tH0 : ∀ p ∈ cs, H p.2 = some (.tbl #[]) := fun p hp => by rw [eH]; exact H0_tab (inT p hp)
  have e0 : Env0 P w K mg (hidT s1.heap H) callerA [] s1 H := ⟨rfl, md, fun b o e => of_hidT e, Nat.le_of_eq (hidT_size _ _), trivial, fun b m => absurd (show b ∈ ([] : List Addr) from m) (by simp), hok, .of_eq hg⟩
  obtain ⟨G, e1, e2, e3, e4, e5, FG⟩ := F _ KB (nsSeen hns) TB
  subst e1 e2 e3 e4
  have e0 : Env0 G.P G.w G.K G.mg G.base callerA [] s1 H := by rw [e5]; exact e0
  refine codeAny_mono (FG.go callerA [] s1 H ⟨[.ref a], []⟩ [.ref a] [.ref a] _ _ rfl hr e0 (hbind s1 (.ref a)) (.cons rfl .nil) (hsp H tH0 sq)) fun r s' res => ?_
  match r, res with
  | .error e, res =>
    obtain ⟨_, _, _, _, _, _, _, _, _, _, _, _, z⟩ := res
    exact z.elim
  | .ok (.ret u), ⟨v, H', os, bare, un, hok', ru, q⟩ =>
    have q : v = .bl true := q
    subst q
    obtain rfl : u = Value.bool true := ru
    have same : ∀ b o, b ∉ tabs → s1.heap.get? b = some o → s'.heap.get? b = some o := fun b o nb e => by
      rcases cas b with ⟨m, _⟩ | ⟨rfl, _, z⟩ | ⟨_, z⟩
      · exact absurd m nb
      · obtain ⟨f1, _⟩ := hok _ _ z
        obtain ⟨f2, _⟩ := hok' _ _ (un.frzs _ _ _ z)
        rw [e] at f1
        cases f1
        exact f2
      · exact un.keep b o e z (fun m => absurd (show b ∈ ([] : List Addr) from m) (by simp)) (by simp)
    refine ⟨rfl, ⟨fun b o e => ?_, fun b o e => ?_⟩, os, bare⟩
    · rcases Classical.em (b ∈ tabs) with m | m
      · obtain ⟨p, hp, rfl⟩ := tab b m
        obtain ⟨more, z⟩ := un.tbls p.2 #[] (tH0 p hp)
        have tp := hT p hp
        rw [tp] at e
        cases e
        exact .inr (.inl ⟨((hC p hp).tab tp).isCodeTable, rfl, #[], more, rfl, by rw [Array.empty_append]; have := hok' p.2 _ z; rw [Array.empty_append] at this; exact this⟩)
      · exact .inl (same b o m e)
    · rcases Classical.em (b ∈ tabs) with m | m
      · obtain ⟨p, hp, rfl⟩ := tab b m
        obtain ⟨more, z⟩ := un.tbls p.2 #[] (tH0 p hp)
        exact ⟨_, hok' p.2 _ z⟩
      · exact ⟨o, same b o m e⟩
end
end EV

set_option Elab.async false
set_option linter.all false
set_option maxRecDepth 100000
/-! EvK: x(lambda: ..) with x a catcher, a, b, .. = displays with new lists, {}. -/
namespace EV
open PySem PySem.Spec PyProof.Rows L2
section
variable {G : Stat} {an : An} {w w' : Wd} {H H' : Hp} {S S' : Sto} {W : WX} {X : Cx}
/-- a, b, .. = (e, f, ..), the tuple laid and parted: new lists stay cells -/
def sSetTA (is : List Nat) (ma : Ma) : Sx := fun env S => liftE (ma env S) env fun xs S1 => if xs.length = is.length ∧ line xs.length = true then .nx (setAll env is xs) S1 else .bad
theorem ss_setTA {st : Stmt} {is : List Nat} {ma : Ma} (hK : X.K = G.K) (h : PS X st (tAsg (tTup (tAr G an W ma)) (gTup X.K is.length (gsOf is)))) : SS G an W X st (sSetTA is ma) := by
  refine PS.imp h fun D σ H ⟨env, w, S, hE, hS, q⟩ => ⟨env, w, S, hE, hS, (PsS.lift q hE).imp (fun xs S1 w1 H1 r1 g1 s1 q1 vs rvs => ?_) fun _ _ _ z => z⟩
  split at q1
  · rename_i hc
    obtain ⟨hl, hn⟩ := hc
    refine ⟨by rw [← rvs.length]; exact line_ok hn, fun b hb => ⟨b, vs, rfl, .inl (.inl upd_same), by rw [← rvs.length]; exact hl, gsOf_all (by rw [← rvs.length]; exact hl) ?_⟩⟩
    have g2 := Grow.obj (o := .tup vs) s1 hb
    exact q1 w1 _ _ g2 (s1.obj hb) (((hE.mono g1).mono g2).setAll (rvs.mono g2))
  · exact q1.elim
theorem se_dct0 {pos : Pos} : SE G an W X (.Dict [] [] pos) (mLit (.dct [] [])) :=
  PE.imp (pe_frz pe_dnewK) fun σ H Q ⟨env, w, S, hE, hS, q⟩ => fun p hp => ⟨p, _, rfl, upd_same, trivial, fun od => by rw [upd_upd]; exact q w _ (Grow.obj hS hp) (hS.obj hp) _ (.p (.dct upd_same rfl .nil))⟩
/-- where the catcher stands -/
structure CatAt (G : Stat) (x : Str) (st : Stmt) (a : Str) (gx : Addr) (cdv : Value) : Prop where
  mg : G.mg x = some (.ref gx)
  kp : PySem.W.keepIn G.K (.ref gx) = true
  ex : ∃ (oc : Value) (od : Option Addr) (kV doc pm ct : Value) (an : Option Addr) (osl : Array (Option Value)), G.K.lookup gx = some ⟨oc, od, .func (PySem.W.fnOf x x (defArgs st) (defBody st) (defScope st) .none kV doc pm an cdv ct), osl⟩ ∧ L2.Binds G.K (PySem.W.fnOf x x (defArgs st) (defBody st) (defScope st) .none kV doc pm an cdv ct) [a] []
  cd : PySem.W.codeIn G.K cdv x = true
/-- the table of the maker's code object -/
structure LamC (G : Stat) (T : List (Addr × Str)) (c P : Addr) (q : Str) : Prop where
  tb : LamX.TabB G.base G.mg c P
  mem : (P, q) ∈ T
  uq : ∀ p ∈ T, p.1 = P → p.2 = q
structure TbT (G : Stat) (T : List (Addr × Str)) : Prop where
  to : ∀ H, G.tbs H → LamX.Tabs T H
  of : ∀ H, LamX.Tabs T H → G.tbs H
theorem se_cat {T : List (Addr × Str)} {x a : Str} {st : Stmt} {gx c P : Addr} {cdv : Value} {Ng : List Str} {k : Nat} {params : Arguments} {body : Expr} {scope : Scope} {p lpos pos : Pos} {m : Mx} {fine : Dt} {cat : Cat} (g : Gd G X W (k + 2)) (hT : TbT G T) (C : CatAt G x st a gx cdv) {qu : Str} (L : LamC G T c P (qu ++ "<lambda>"))
    (Sg : FnScope Ng [a] (defScope st)) (hNg : Ng[0]? = some a) (hva : Vis (defScope st) a) (hG : LamX.GivesTo X Ng x (defScope st) gx cdv (defBody st) a (X.env.qual ++ "<lambda>") (TTc G an fine cat)) (hcode : X.env.code = .ref c) (hL : LamX.LamS X.env.scope scope)
    (hbody : ∀ (A : Around) (outer : List PySem.Env) (s : Shared) (H : Hp) (E : XK) (f c' : Addr), Gd G (LamX.lamCx X A outer s H E scope f c') (fun c d _ H => E c d H) k → SE G an (fun c d _ H => E c d H) (LamX.lamCx X A outer s H E scope f c') body m)
    (hg : Gl X x := by rfl) (hdef : defaultsOf params X.env = ([], []) := by rfl)
    (hbind : ∀ (q : Str) (cl : List (Str × Addr)) (pm cv ctv : Value), bindArgs (PySem.W.kla_fn "<lambda>" q params body scope cl pm cv ctv) ⟨[], []⟩ = pure [] := by intros; rfl)
    (hdb : (x == ("__debug__" : Str)) = false := by decide) (hd : (a == ("__debug__" : Str)) = false := by decide) (hcd : (a == ("__classdict__" : Str)) = false := by decide) (hq : X.env.qual = qu := by rfl) :
    SE G an W X (.Call (.Name x p) [.Lambda params body scope lpos] [] pos) (mCat m fine cat) := by
  obtain ⟨oc, od, kV, doc, pm, ct, an2, osl, lk, hb⟩ := C.ex
  subst hq
  refine PE.imp (LamX.pe_lamcall (T := T) (TT := TTc G an fine cat) (k := k) (c := c) (P := P) (g := gx) (t := fun E => tM G an (fun c d _ H => E c d H) m) hg (by rw [g.mg]; exact C.mg) (by rw [g.K]; exact C.kp) (by rw [g.K]; exact lk) (by rw [g.K]; exact C.cd) (by rw [g.K]; exact hb) Sg hNg hva hG
    (by rw [g.base, g.mg]; exact L.tb) hcode L.mem L.uq g.room hL hdef hbind (fun A outer s H E f c' hr => hbody A outer s H E f c' ((show Gd G X W k from ⟨g.P, g.w, g.K, g.mg, g.base, g.calm, g.nd, g.tk, g.room.mono (by omega), g.pass⟩).lam hr)) hdb hd hcd) fun σ H Q h => cat_read hT.to hT.of h
theorem Gd.uc {k : Nat} (g : Gd G X W k) : X.A.units + 3 + 64 < cLine := by
  have := g.room.un
  omega
end
end EV

set_option Elab.async false
set_option linter.all false
set_option maxRecDepth 100000
set_option maxHeartbeats 4000000
/-! EvZ: what the written part says, and the ties to it. -/
namespace EV
open PySem PySem.Spec PyProof.Rows L2
/-- what the written part says of a def -/
structure At (K : PySem.W.Frag) (x : Str) (st : Stmt) (f : Addr) : Prop where
  ns : PySem.W.nsIn K mainGlobals x = some (some (.ref f))
  ex : ∃ (oc : Value) (od : Option Addr) (kV doc pm : Value) (an : Option Addr) (cdv ct : Value) (osl : Array (Option Value)), K.lookup f = some ⟨oc, od, .func (PySem.W.fnOf x x (defArgs st) (defBody st) (defScope st) .none kV doc pm an cdv ct), osl⟩ ∧ PySem.W.codeIn K cdv x = true
  kp : PySem.W.keepIn K (.ref f) = true
theorem at_mk {K : PySem.W.Frag} {x : Str} {st : Stmt} {f : Addr} {oc : Value} {od : Option Addr} {kV doc pm : Value} {an : Option Addr} {cdv ct : Value} {osl : Array (Option Value)} (a : PySem.W.nsIn K mainGlobals x = some (some (.ref f)))
    (l : K.lookup f = some ⟨oc, od, .func (PySem.W.fnOf x x (defArgs st) (defBody st) (defScope st) .none kV doc pm an cdv ct), osl⟩) (c : PySem.W.codeIn K cdv x = true) (k : PySem.W.keepIn K (.ref f) = true) : At K x st f := ⟨a, ⟨_, _, _, _, _, _, _, _, _, l, c⟩, k⟩
theorem At.fn {K : PySem.W.Frag} {x : Str} {st : Stmt} {f : Addr} (A : At K x st f) : ∃ fd, Fun K x x st f fd := by
  obtain ⟨oc, od, kV, doc, pm, an, cdv, ct, osl, l, c⟩ := A.ex
  exact ⟨_, fun_mk l c A.kp⟩
/-- .. whose code object is c -/
structure AtC (K : PySem.W.Frag) (x : Str) (st : Stmt) (f c : Addr) : Prop where
  ns : PySem.W.nsIn K mainGlobals x = some (some (.ref f))
  ex : ∃ (oc : Value) (od : Option Addr) (kV doc pm : Value) (an : Option Addr) (ct : Value) (osl : Array (Option Value)), K.lookup f = some ⟨oc, od, .func (PySem.W.fnOf x x (defArgs st) (defBody st) (defScope st) .none kV doc pm an (.ref c) ct), osl⟩ ∧ PySem.W.codeIn K (.ref c) x = true
  kp : PySem.W.keepIn K (.ref f) = true
theorem atC_mk {K : PySem.W.Frag} {x : Str} {st : Stmt} {f c : Addr} {oc : Value} {od : Option Addr} {kV doc pm : Value} {an : Option Addr} {ct : Value} {osl : Array (Option Value)} (a : PySem.W.nsIn K mainGlobals x = some (some (.ref f)))
    (l : K.lookup f = some ⟨oc, od, .func (PySem.W.fnOf x x (defArgs st) (defBody st) (defScope st) .none kV doc pm an (.ref c) ct), osl⟩) (d : PySem.W.codeIn K (.ref c) x = true) (k : PySem.W.keepIn K (.ref f) = true) : AtC K x st f c := ⟨a, ⟨_, _, _, _, _, _, _, _, l, d⟩, k⟩
theorem AtC.fn {K : PySem.W.Frag} {x : Str} {st : Stmt} {f c : Addr} (A : AtC K x st f c) : ∃ fd, FunC K x st f c fd := by
  obtain ⟨oc, od, kV, doc, pm, an, ct, osl, l, d⟩ := A.ex
  exact ⟨_, ⟨⟨oc, od, kV, doc, pm, an, ct, osl, rfl, l, d⟩, A.kp⟩⟩
theorem AtC.at {K : PySem.W.Frag} {x : Str} {st : Stmt} {f c : Addr} (A : AtC K x st f c) : At K x st f := by
  obtain ⟨oc, od, kV, doc, pm, an, ct, osl, l, d⟩ := A.ex
  exact ⟨A.ns, ⟨_, _, _, _, _, _, _, _, _, l, d⟩, A.kp⟩
/-- .. with its last arguments given -/
structure AtD (K : PySem.W.Frag) (x : Str) (st : Stmt) (i : Int) (f : Addr) : Prop where
  ns : PySem.W.nsIn K mainGlobals x = some (some (.ref f))
  ex : ∃ (T : Addr) (oc : Value) (od : Option Addr) (kV doc pm : Value) (an : Option Addr) (cdv ct : Value) (osl : Array (Option Value)) (o : Obj) (tk : Tok) (n : Nat), K.lookup f = some ⟨oc, od, .func (PySem.W.fnOf x x (defArgs st) (defBody st) (defScope st) (.ref T) kV doc pm an cdv ct), osl⟩ ∧ PySem.W.codeIn K cdv x = true ∧ K.lookup T = some o ∧ o.data = .seq #[.int i tk] n
  kp : PySem.W.keepIn K (.ref f) = true
theorem atD_mk {K : PySem.W.Frag} {x : Str} {st : Stmt} {i : Int} {f T : Addr} {oc : Value} {od : Option Addr} {kV doc pm : Value} {an : Option Addr} {cdv ct : Value} {osl : Array (Option Value)} {tc : Value} {td : Option Addr} {tk : Tok} {n : Nat} {tsl : Array (Option Value)} (a : PySem.W.nsIn K mainGlobals x = some (some (.ref f)))
    (l : K.lookup f = some ⟨oc, od, .func (PySem.W.fnOf x x (defArgs st) (defBody st) (defScope st) (.ref T) kV doc pm an cdv ct), osl⟩) (t : K.lookup T = some ⟨tc, td, .seq #[.int i tk] n, tsl⟩) (c : PySem.W.codeIn K cdv x = true) (k : PySem.W.keepIn K (.ref f) = true) : AtD K x st i f := ⟨a, ⟨_, _, _, _, _, _, _, _, _, _, _, _, _, l, c, t, rfl⟩, k⟩
/-! ### exception classes -/
structure XcA (K : PySem.W.Frag) (x : Str) (C : Addr) : Prop where
  ns : PySem.W.nsIn K mainGlobals x = some (some (.ref C))
  kP : PySem.W.keepIn K (.ref C) = true
  bP : PySem.W.subIn K (.ref C) (.type "BaseException") = some true
  tP : PySem.W.typeIn K (.ref C) = some (.type "type")
  iC : PySem.W.isClsIn K C = true
theorem exm_two {K : PySem.W.Frag} {S T : Addr} {b : Bool} (h1 : PySem.W.subIn K (.ref T) (.type "BaseException") = some true) (h2 : PySem.W.isClsIn K T = true) (h3 : PySem.W.typeIn K (.ref T) = some (.type "type")) (h4 : PySem.W.subIn K (.ref S) (.ref T) = some b) : PySem.W.exmOne K (.ref S) (.ref T) = some b := by
  unfold PySem.W.exmOne
  have e1 : (PySem.W.subIn K (.ref T) (.type "BaseException") == some true) = true := by rw [h1]; rfl
  have e2 : ((PySem.W.clsIn K T).isSome && PySem.W.typeIn K (.ref T) == some (.type "type")) = true := by
    have h2' : (PySem.W.clsIn K T).isSome = true := h2
    rw [h2', h3]
    rfl
  rw [if_pos e1]
  exact (if_pos e2).trans h4
section
variable {G : Stat} {h : Heap}
theorem ExT.of {c : Nat} {x : Str} {C : Addr} (X : G.K.In h) (N : h.Ns mainGlobals G.mg) (A : XcA G.K x C) (e : G.ca c = C) (ef : G.cf c = none) (xP : PySem.W.excIn G.K C [.type "ValueError", .type "Exception", .type "BaseException", .type "object"] "ValueError.__new__" = true) : ExT G c x := by
  subst e
  exact ⟨PySem.W.mg_of X N A.ns, xP, A.kP, A.bP, A.tP, ef⟩
theorem oex_mk {K : PySem.W.Frag} {x : Str} {C : Addr} (A : XcA K x C) {nm q : Str} {N : Addr} {bs bm : List Value} {sn : List Str} {sub : List Value} {ab : Bool} {col : Option Bool} {dd : Option Addr} {m0 m1 m2 m3 m5 : Option Value} (l : K.lookup C = some (excClassObj nm q C N bs bm true sn sub ab col dd m0 m1 m2 m3 m5 "ValueError.__new__"))
    (r : PySem.HandSPX.refsVE bm = true) (sa : PySem.W.findIn K (.ref C) "__setattr__" = some (some (.builtin "object.__setattr__"))) : OexC K C := ⟨⟨nm, q, N, bs, bm, sn, sub, ab, col, dd, m0, m1, m2, m3, m5, l, r⟩, sa, A.bP, A.tP, A.kP⟩
/-- the __init__ that keeps its argument -/
theorem init_ok {C fI : Addr} {f qual : Str} {st : Stmt} {p0 : Str} {oc : Value} {od : Option Addr} {dV kV doc pm : Value} {an : Option Addr} {cdv ct : Value} {osl : Array (Option Value)} (T : OexC G.K C) (hno : PySem.W.findIn G.K (.ref C) f = some none)
    (lk : G.K.lookup fI = some ⟨oc, od, .func (PySem.W.fnOf "__init__" qual (defArgs st) (defBody st) (defScope st) dV kV doc pm an cdv ct), osl⟩) (hcd : PySem.W.codeIn G.K cdv qual = true) (Sc : FnScope ["self", p0] ["self", p0] (defScope st))
    (hb : ∀ (A : Around) (outer : List PySem.Env) (s : Shared) (H : Hp) (E : XK), PSs (cxOf CX0 G.P G.w G.K G.mg G.base ["self", p0] qual (defScope st) fI cdv A outer s H E) (defBody st) (tOst G.K f (tVar 0) (tVar 1))) :
    FnOk G.P G.w G.K G.mg G.base CX0 1 fI (PySem.W.fnOf "__init__" qual (defArgs st) (defBody st) (defScope st) dV kV doc pm an cdv ct) ["self", p0] (spI C f) :=
  fn_of lk hcd Sc (fun vs H Q E ⟨a, v, e, _⟩ => by rw [e]; rfl) fun A outer s H vs Q E hr hsp => ⟨_, hb A outer s H E, init_read T hno rfl hsp⟩
/-- what the written part says of the class over ValueError whose __init__ keeps its argument -/
structure XcI (G : Stat) (x f : Str) (C fI : Addr) : Prop where
  A : XcA G.K x C
  T : OexC G.K C
  iC : PySem.W.findIn G.K (.ref C) "__init__" = some (some (.ref fI))
  tI : PySem.W.typeIn G.K (.ref fI) = some (.type "function")
  hno : PySem.W.findIn G.K (.ref C) f = some none
  xf : XfC G.K C
  fn : ∃ fd ps, FnOk G.P G.w G.K G.mg G.base CX0 1 fI fd ps (spI C f) ∧ Binds G.K fd ps []
theorem ExI.of {c : Nat} {x f : Str} {C fI : Addr} (X : G.K.In h) (N : h.Ns mainGlobals G.mg) (A : XcI G x f C fI) (e : G.ca c = C) (ef : G.cf c = some f) : ExI G c x f := by
  subst e
  obtain ⟨fd, ps, F, b⟩ := A.fn
  exact ⟨PySem.W.mg_of X N A.A.ns, A.T, ⟨fI, fd, ps, A.iC, A.tI, F, b⟩, ef⟩
theorem ss_raiseI' {an : An} {W : WX} {X : Cx} {k c : Nat} {x f : Str} {e : Expr} {m : Mx} {p pos pos2 : Pos} (g : Gd G X W k) (hk : 2 ≤ k) (T : ExI G c x f) (h : SE G an W X e m) (hg : Gl X x := by rfl) (hdb : (x == ("__debug__" : Str)) = false := by decide)
    (he : starEach [e] X.env = (false, eval e X.env) :: starEach [] X.env := by rfl) (hpl : (backTo pos (starEach [] X.env)).any (·.1) = false := by rfl) : SS G an W X (.Raise (some (.Call (.Name x p) [e] [] pos)) none pos2) (sRaiseI c m) := by
  obtain ⟨j, rfl⟩ : ∃ j, k = j + 2 := ⟨k - 2, by omega⟩
  exact ss_raiseI g T h hg hdb he hpl
/-! ### defs -/
theorem mkF {k n : Nat} {x : Str} {st : Stmt} {a : Addr} {fd : FuncData} {ps : List Str} {f : Fs} (X : G.K.In h) (N : h.Ns mainGlobals G.mg) (A : At G.K x st a) (F : FnOk G.P G.w G.K G.mg G.base (L2.CX G.P G.w) k a fd ps (spOf G n f)) (b : Binds G.K fd ps []) : FnF G k x a n [] f :=
  ⟨⟨fd, ps, [], [], F, b, .nil, fun _ _ => .nil⟩, PySem.W.mg_of X N A.ns, A.kp⟩
theorem mkL {k n : Nat} {x : Str} {st : Stmt} {a : Addr} {fd : FuncData} {ps : List Str} {f : Fl} (X : G.K.In h) (N : h.Ns mainGlobals G.mg) (A : At G.K x st a) (F : FnOk G.P G.w G.K G.mg G.base (L2.CX G.P G.w) k a fd ps (spOfF G n f)) (b : Binds G.K fd ps []) : FnL G k x a n [] f :=
  ⟨⟨fd, ps, [], [], F, b, .nil, fun _ _ => .nil⟩, PySem.W.mg_of X N A.ns, A.kp⟩
theorem mkD {k n : Nat} {x : Str} {st : Stmt} {a c : Addr} {fd : FuncData} {ps : List Str} {f : Fs} (X : G.K.In h) (N : h.Ns mainGlobals G.mg) (A : AtC G.K x st a c) (F : FnG G k a fd ps (spOf G n f)) (b : Binds G.K fd ps []) : FnD G k x a n f :=
  ⟨⟨fd, ps, F, b⟩, PySem.W.mg_of X N A.ns, A.kp⟩
theorem bad_ok {k n : Nat} {a : Addr} {fd : FuncData} {ps : List Str} : FnOk G.P G.w G.K G.mg G.base (L2.CX G.P G.w) k a fd ps (spOf G n fun _ _ => .bad) :=
  ⟨fun _ _ _ _ ⟨_, _, _, _, _, _, q⟩ => q.elim, fun _ _ _ _ _ _ _ _ _ _ _ _ _ ⟨_, _, _, _, _, _, q⟩ => q.elim⟩
/-- a def whose last argument may be left out -/
theorem dflt_mk {k n : Nat} {x : Str} {st : Stmt} {a : Addr} {i : Int} {N0 ps : List Str} {m : Sx} (X : G.K.In h) (N : h.Ns mainGlobals G.mg) (A : AtD G.K x st i a) (Sc : FnScope N0 ps (defScope st)) (hn : ps.length = n) (j : Nat)
    (hb : ∀ (cdv : Value) (A : Around) (outer : List PySem.Env) (s : Shared) (H : Hp) (E : XK), Gd G (cxOf (L2.CX G.P G.w) G.P G.w G.K G.mg G.base N0 x (defScope st) a cdv A outer s H E) (fun c d _ H => E c d H) k →
      SB G an0 (fun c d _ H => E c d H) (cxOf (L2.CX G.P G.w) G.P G.w G.K G.mg G.base N0 x (defScope st) a cdv A outer s H E) (defBody st) m)
    (bd : ∀ fd : FuncData, FunD G.K x x (defArgs st) (defBody st) (defScope st) [.int i] [] a fd → ∃ ds, Vals [V.int i] ds ∧ Binds G.K fd ps ds) : FnF G (k + 1) x a n [.int i] (fnSem N0.length m) := by
  obtain ⟨T, oc, od, kV, doc, pm, an, cdv, ct, osl, o, tk, n2, l, c, t, ot⟩ := A.ex
  have D : FunD G.K x x (defArgs st) (defBody st) (defScope st) [.int i] [] a _ := ⟨⟨oc, od, .ref T, kV, doc, pm, an, cdv, ct, osl, rfl, l, c, .inr ⟨by simp, T, o, [.int i tk], n2, rfl, t, ot, .cons ⟨tk, rfl⟩ .nil⟩, .inl rfl⟩, A.kp⟩
  obtain ⟨ds, r, b⟩ := bd _ D
  have F : FnOk G.P G.w G.K G.mg G.base (L2.CX G.P G.w) (k + 1) a _ ps (spOf G n (fnSem N0.length m)) :=
    fn_of l c Sc (fun vs H Q E ⟨xs, w, S, r, h1, _⟩ => by rw [← r.length, h1, hn]) fun A outer s H vs Q E hr hsp => ⟨_, hb cdv A outer s H E (show Gd G _ _ k from ⟨rfl, rfl, rfl, rfl, rfl, rfl, Sc.nd, takes_of rfl rfl rfl rfl, hr, passes_of rfl⟩), fn_read hsp⟩
  exact ⟨⟨_, ps, ds, [.int i], F, b, r, fun _ _ => .cons (.int _) .nil⟩, PySem.W.mg_of X N A.ns, A.kp⟩
end
/-- what is fixed, with the tables T -/
def GS (P : Program) (w : World) (K : PySem.W.Frag) (mg : Str → Option Value) (base : Heap) (fa ca : Nat → Addr) (cf : Nat → Option Str) (fl : Nat → List Str) (T : List (Addr × Str)) : Stat where
  P := P
  w := w
  K := K
  mg := mg
  base := base
  fa := fa
  ca := ca
  cf := cf
  fl := fl
  tbs := LamX.Tabs T
  tbm := fun H H' k _ t p hp => by
    obtain ⟨ps, h1, h2, h3⟩ := t p hp
    refine ⟨ps, k _ _ h1 (fun z => z), h2, fun pos cv hc => ?_⟩
    obtain ⟨c, e1, e2⟩ := h3 pos cv hc
    exact ⟨c, e1, k _ _ e2 (fun z => z)⟩
/-- the law's own promise -/
def spL (K : PySem.W.Frag) (T : List Addr) : Sp := fun vs H Q _ => ∃ (a : Addr) (ns : List Int), vs = [.ref a] ∧ SqL K H a (ns.map V.int) ∧ ns.length ≤ 63 ∧ (∀ P ∈ T, H P = some (.tbl #[])) ∧ ∀ H', Q (.bl true) H'
/-- the script, as a list of data -/
def Scr (ns : List Int) (s : Dt) : Prop := s = .lst (ns.map .int) ∨ s = .fro (ns.map .int)
theorem law_spec {G : Stat} {T : List (Addr × Str)} {f : Fs} (ht : ∀ H, LamX.Tabs T H → G.tbs H) (ok : ∀ {ns : List Int} {s : Dt}, Scr ns s → ns.length ≤ 63 → ∃ S', f [.p s] [] = .ok (.p (.bl true)) S') (vs : List V) (H : Hp) (Q : VK) (E : XK) (h : spL G.K (T.map (·.1)) vs H Q E) : spOf G 1 f vs H Q E := by
  obtain ⟨a, ns, rfl, hS, hl, hT, q⟩ := h
  obtain ⟨s, hs, p⟩ : ∃ s, Scr ns s ∧ Per G ⟨[], []⟩ H s (.ref a) := by
    rcases hS with (e | ⟨o, e⟩) | e
    · exact ⟨_, .inl rfl, .lst e (by simp) (by simp) (PerL.ints ns)⟩
    · exact ⟨_, .inr rfl, .frz e (PerL.ints ns)⟩
    · exact ⟨_, .inr rfl, .wri (fun _ => .inr e) (PerL.ints ns)⟩
  obtain ⟨S', e⟩ := ok hs hl
  refine ⟨[.p s], ⟨[], []⟩, [], .cons (.p p) .nil, rfl, ⟨rfl, List.nodup_nil, fun n a z => by simp at z, fun a z => by simp at z, trivial, ht H fun p hp => LamX.TabS.nil (hT _ (List.mem_map.mpr ⟨p, hp, rfl⟩))⟩, ?_⟩
  rw [e]
  intro w' H' g st v rv
  cases rv with
  | p p => cases p; exact q H'
/-- the law's row, where its promise asks for no guard -/
theorem walk_G {l : PySem.W.OpenLaw} {k : Nat} {q : Program} {loose : List Str} {XP : (Str → Option Value) → Heap → Prop} {YP : World → Heap → Prop} {d : DefRec} {K : Params → PySem.W.Frag} {cs : List (Addr × Addr)} (hn : l.most = some 63) (hdf : d.params.defaults = []) (hr : Room k callerA)
    (hY : ∀ (w : World) (h : Heap), YP w h → (K w.params).In h) (hT : ∀ (w : World) (h : Heap), YP w h → ∀ p ∈ cs, h.get? p.2 = some { cls := .none, data := .fields #[] })
    (F : ∀ (w : World) (mg : Str → Option Value) (fa : Addr) (h : Heap), (K w.params).In h → h.Ns mainGlobals mg → mg d.name = some (.ref fa) → (∀ p ∈ cs, (K w.params).lookup p.2 = none) ∧ (∀ p ∈ cs, PySem.W.codeHdIn (K w.params) p.1 p.2 = true) ∧
      ∃ fd : FuncData, (∀ (s : Shared) (u : Value), BindsTo s fd ⟨[u], []⟩ [("script", u)]) ∧ ∀ base : Heap, (K w.params).In base → base.Ns mainGlobals mg → (∀ p ∈ cs, LamX.TabB base mg p.1 p.2) → ∃ G : Stat, G.P = l.prog ∧ G.w = w ∧ G.K = K w.params ∧ G.mg = mg ∧ G.base = base ∧ FnG G k fa fd ["script"] (spL G.K (cs.map (·.2)))) :
    PySem.W.WalkO q loose XP YP l.row.toRowW d [] (fun f vs => PySem.call f vs) := by
  refine Att.attach_callB hn hdf fun w s₀ s₁ mg mb fa o pm cd doc a vs ns G Y ho hd hcd hmg hobj hints hlen hbits hg => ?_
  have KX := hY w _ Y
  obtain ⟨nT, hC, fd, hb, hF⟩ := F w mg fa _ KX G.T.g hmg
  exact law_end (sp := spL (K w.params) (cs.map (·.2))) KX G.T.g G.T.b G.T.builtins G.T.nolimit hg (hT w _ Y) nT (fun p hp => PySem.W.codeHd_of_K KX (hC p hp)) G.T.bmain hobj hints (Nat.le_trans hlen (line_ok (show line 63 = true by decide))) hr hb
    (fun base k1 k2 k3 => by
      obtain ⟨G, e1, e2, e3, e4, e5, e6⟩ := hF base k1 k2 k3
      exact ⟨G, e1, e2, e3, e4, e5, by rw [← e3]; exact e6⟩)
    fun H hH hS => ⟨a, ns, rfl, hS, hlen, fun P hP => by
      obtain ⟨p, hp, rfl⟩ := List.mem_map.mp hP
      exact hH p hp, fun _ => rfl⟩
end EV
namespace EV
open PySem PySem.Spec PyProof.Rows L2
theorem FnD.pure {G : Stat} {k : Nat} {x : Str} {a : Addr} {n : Nat} {f : Fs} (h : FnD G k x a n f) : FnD G k x a n (pur (toP f)) := ⟨let ⟨fd, ps, F, b⟩ := h.ex; ⟨fd, ps, F.imp pure_spec, b⟩, h.mg, h.kp⟩
theorem FunC.toFun {K : PySem.W.Frag} {x : Str} {st : Stmt} {f c : Addr} {fd : FuncData} (F : FunC K x st f c fd) : Fun K x x st f fd := by
  obtain ⟨oc, od, kV, doc, pm, an, ct, osl, e, l, d⟩ := F.ex
  exact ⟨⟨oc, od, kV, doc, pm, an, _, ct, osl, e, l, d⟩, F.kp⟩
end EV

set_option Elab.async false
set_option linter.all false
set_option maxRecDepth 100000
set_option maxHeartbeats 4000000
/-! EvN: small steps of the plain functions; answers that are told by computing. -/
namespace EV
open PySem PySem.Spec PyProof.Rows L2
mutual
def sameD : Dt → Dt → Bool
  | .int i, .int j => i == j
  | .bl a, .bl b => a == b
  | .non, .non => true
  | .tup xs, .tup ys => sameDL xs ys
  | _, _ => false
def sameDL : List Dt → List Dt → Bool
  | [], [] => true
  | x :: xs, y :: ys => sameD x y && sameDL xs ys
  | _, _ => false
end
mutual
theorem same_eq : ∀ (d e : Dt), sameD d e = true → d = e
  | .int i, e, h => by cases e <;> simp [sameD] at h; rw [h]
  | .bl i, e, h => by cases e <;> simp [sameD] at h; rw [h]
  | .non, e, h => by cases e <;> simp [sameD] at h; rfl
  | .tup xs, e, h => by
    cases e with
    | tup ys => rw [same_eqL xs ys (by simpa [sameD] using h)]
    | _ => simp [sameD] at h
  | .str x, e, h => by simp [sameD] at h
  | .lst x, e, h => by simp [sameD] at h
  | .dct x y, e, h => by simp [sameD] at h
  | .fn x, e, h => by simp [sameD] at h
  | .fro x, e, h => by simp [sameD] at h
  | .dtt x y, e, h => by simp [sameD] at h
  | .obj x y z, e, h => by simp [sameD] at h
theorem same_eqL : ∀ (ds es : List Dt), sameDL ds es = true → ds = es
  | [], es, h => by cases es <;> simp [sameDL] at h; rfl
  | d :: ds, es, h => by
    cases es with
    | nil => simp [sameDL] at h
    | cons e es =>
      have h := (Bool.and_eq_true _ _).mp (by simpa [sameDL] using h)
      rw [same_eq d e h.1, same_eqL ds es h.2]
end
def isOk (r : Ry) (d : Dt) : Bool := match r with
  | .ok e => sameD e d
  | _ => false
theorem isOk_eq {r : Ry} {d : Dt} (h : isOk r d = true) : r = .ok d := by
  cases r with
  | ok e => exact congrArg Ry.ok (same_eq e d h)
  | exc c p => cases h
  | bad => cases h
/-! ### draws: sizes -/
theorem lg {n : Nat} {i : Int} (h0 : 0 ≤ i) (h : i < 2 ^ n) : i.natAbs.log2 ≤ n := by
  by_cases z : i = 0
  · subst z; simp
  · have h1 : i.natAbs ≠ 0 := by omega
    have h2 : i.natAbs < 2 ^ n := by
      have : (i.natAbs : Int) = i := by omega
      have h3 : ((i.natAbs : Nat) : Int) < ((2 ^ n : Nat) : Int) := by rw [this]; simpa using h
      exact Int.ofNat_lt.mp h3
    exact Nat.le_of_lt ((Nat.log2_lt h1).mpr h2)
theorem mulI {i j : Int} (a b : Nat) (h0 : 0 ≤ i) (h : i < 2 ^ a) (k0 : 0 ≤ j) (k : j < 2 ^ b) (ab : a + b < 1000000 := by decide) : dMulI (.int i) (.int j) = some (.int (i * j)) := by
  have := lg h0 h
  have := lg k0 k
  show (if i.natAbs.log2 + j.natAbs.log2 < 1000000 then some (Dt.int (i * j)) else none) = _
  rw [if_pos (by omega)]
theorem dMul_i {i j : Int} (a b : Nat) (h0 : 0 ≤ i) (h : i < 2 ^ a) (k0 : 0 ≤ j) (k : j < 2 ^ b) (ab : a + b < 1000000 := by decide) : dMul (.int i) (.int j) = some (.int (i * j)) := by
  unfold dMul dOr
  rw [mulI a b h0 h k0 k ab]
theorem dMul_c {x y : Int} (a b : Nat) (h0 : 0 ≤ x) (h : x < 2 ^ a) (k0 : 0 ≤ y) (k : y < 2 ^ b) (ab : a + b < 1000000) : dMul (.int x) (.int y) = some (.int (x * y)) := dMul_i a b h0 h k0 k ab
theorem dAdd_i {i j : Int} : dAdd (.int i) (.int j) = some (.int (i + j)) := rfl
theorem dMod_i {i j : Int} (h : 0 < j) : dMod (.int i) (.int j) = some (.int (i % j)) := if_pos h
theorem dFdiv_i {i j : Int} (h : 0 < j) (k : j < 2 ^ 64) : dFdiv (.int i) (.int j) = some (.int (i / j)) := by
  have := lg (Int.le_of_lt h) k
  show (if decide (0 < j) && decide (j.natAbs.log2 < 9000) then some (Dt.int (i / j)) else none) = _
  rw [if_pos (by simp [h]; omega)]
/-- the cell h holds a pouch of draws: what is left of the script's number, the seed, the count -/
def Hat (top : Int) (h : Nat) (n : Nat) (S : Sto) : Prop := ∃ a b c : Int, S[h]? = some (.lst [.int a, .int b, .int c]) ∧ 0 ≤ a ∧ 0 ≤ b ∧ b < top ∧ 0 ≤ c ∧ c ≤ n
theorem set_take {S : Sto} {h : Nat} {v : Dt} : List.take (List.length S) (List.set S h v) = List.set S h v := List.take_of_length_le (by simp)
theorem take_len {α : Type} {S : List α} {n : Nat} (h : S.length = n) : S.take n = S := List.take_of_length_le (by omega)
theorem toP_ok {f : Fs} {ds : List Dt} {d : Dt} {S' : Sto} (h : f (ds.map .p) [] = .ok (.p d) S') : toP f ds = .ok d := by
  unfold toP
  rw [h]
theorem pur_ok {g : Pf} {xs : List Vl} {ds : List Dt} {d : Dt} {S : Sto} (h : allP xs = some ds) (k : g ds = .ok d) : pur g xs S = .ok (.p d) S := by
  unfold pur
  rw [h]
  dsimp only
  rw [k]
section
variable {env env' : Slo} {S S1 S2 S3 S' : Sto}
theorem fn_rt {N : Nat} {m : Sx} {xs : List Vl} {d : Dt} (h : m (xs.map some ++ List.replicate (N - xs.length) none) S = .rt (.p d) S') : fnSem N m xs S = .ok (.p d) (S'.take S.length) := by
  unfold fnSem
  rw [h]
  rfl
theorem seq_to {a b : Sx} {r : Out} (h : a env S = .nx env' S') (k : b env' S' = r) : sSeq a b env S = r := by
  unfold sSeq
  rw [h]
  exact k
theorem sFor_ok {mi : Mi} {g : Tg} {b : Sx} {ds : List Dt} {r : Out} (h : mi env S = .ok ds S') (k : sForL g b ds env S' = r) : sFor mi g b env S = r := by
  unfold sFor
  rw [h]
  exact k
theorem forL_cons {i : Nat} {b : Sx} {d : Dt} {ds : List Dt} (h : b (env.set i (some (.p d))) S = .nx env' S') : sForL (.n i) b (d :: ds) env S = sForL (.n i) b ds env' S' := by
  simp only [sForL, bindT, h]
theorem and_f {a b : Mb} (h : a env S = .ok false S') : mbAnd a b env S = .ok false S' := by unfold mbAnd; rw [h]; rfl
theorem and_t {a b : Mb} (h : a env S = .ok true S') : mbAnd a b env S = b env S' := by unfold mbAnd; rw [h]; rfl
theorem if_f {c : Mb} {a b : Sx} (h : c env S = .ok false S') : sIf c a b env S = b env S' := by unfold sIf; rw [h]; rfl
theorem if_t {c : Mb} {a b : Sx} (h : c env S = .ok true S') : sIf c a b env S = a env S' := by unfold sIf; rw [h]; rfl
theorem if_g {c : Mb} {a : Sx} (h : c env S = .ok false S1) : sIf c a sNx env S = .nx env S1 := if_f h
theorem call1 {f : Fs} {ma : Ma} {x : Vl} (h : ma env S = .ok [x] S') : mCall f 1 [] ma env S = f [x] S' := by unfold mCall; rw [h]; rfl
theorem call2 {f : Fs} {ma : Ma} {x y : Vl} (h : ma env S = .ok [x, y] S') : mCall f 2 [] ma env S = f [x, y] S' := by unfold mCall; rw [h]; rfl
theorem callF2 {f : Fl} {ma : Ma} {x y : Vl} (h : ma env S = .ok [x, y] S') : mCallF f 2 [] ma env S = f [x, y] S' := by unfold mCallF; rw [h]; rfl
theorem arg1 {a : Mx} {x : Vl} (h1 : a env S = .ok x S1) : maCons a maNil env S = .ok [x] S1 := by unfold maCons; rw [h1]; rfl
theorem arg2 {a b : Mx} {x y : Vl} (h1 : a env S = .ok x S1) (h2 : b env S1 = .ok y S2) : maCons a (maCons b maNil) env S = .ok [x, y] S2 := by unfold maCons; rw [h1]; simp only [Rz.bind, h2]; rfl
theorem tup2 {a b : Mx} {u v : Dt} (h1 : a env S = .ok (.p u) S1) (h2 : b env S1 = .ok (.p v) S2) : mPure dTup (maCons a (maCons b maNil)) env S = .ok (.p (.tup [u, v])) S2 := by unfold mPure; rw [arg2 h1 h2]; rfl
theorem or_f {a b : Mb} (h : a env S = .ok false S1) : mbOr a b env S = b env S1 := by unfold mbOr; rw [h]; rfl
theorem or_t {a b : Mb} (h : a env S = .ok true S1) : mbOr a b env S = .ok true S1 := by unfold mbOr; rw [h]; rfl
theorem not_t {a : Mb} (h : a env S = .ok true S1) : mbNot a env S = .ok false S1 := by unfold mbNot; rw [h]; rfl
theorem not_f {a : Mb} (h : a env S = .ok false S1) : mbNot a env S = .ok true S1 := by unfold mbNot; rw [h]; rfl
theorem tv {a : Mx} {b : Bool} (h : a env S = .ok (.p (.bl b)) S1) : mbV a env S = .ok b S1 := by unfold mbV; rw [h]; rfl
theorem op2 {f : Dt → Dt → Option Dt} {a b : Mx} {u v z : Dt} (h1 : a env S = .ok (.p u) S1) (h2 : b env S1 = .ok (.p v) S2) (hz : f u v = some z) : mOp2 f a b env S = .ok (.p z) S2 := by unfold mOp2; rw [h1]; simp only [Rz.bind, h2, deref, hz]
theorem par2 {i j : Nat} {a b : Mx} {x y : Vl} (h1 : a env S = .ok x S1) (h2 : b env S1 = .ok y S2) : sPar2 i j (maCons a (maCons b maNil)) env S = .nx ((env.set i (some x)).set j (some y)) S2 := by unfold sPar2; rw [arg2 h1 h2]; rfl
theorem set1 {i : Nat} {a : Mx} {x : Vl} (h : a env S = .ok x S1) : sSet i a env S = .nx (env.set i (some x)) S1 := by unfold sSet; rw [h]; rfl
theorem rtv {a : Mx} {x : Vl} (h : a env S = .ok x S1) : sRt a env S = .rt x S1 := by unfold sRt; rw [h]; rfl
theorem exp1 {a : Mx} {x : Vl} (h : a env S = .ok x S1) : sEx a env S = .nx env S1 := by unfold sEx; rw [h]; rfl
theorem andV_t {a b : Mx} (h : a env S = .ok (.p (.bl true)) S1) : mAndV a b env S = b env S1 := by unfold mAndV; rw [h]; rfl
theorem prV1 {f : List Dt → Option Dt} {ma : Ma} {d z : Dt} (h : ma env S = .ok [.p d] S1) (hz : f [d] = some z) : mPrV f ma env S = .ok (.p z) S1 := by unfold mPrV mPr; rw [h]; simp only [Rz.bind, derefs, deref, hz]
theorem prV2 {f : List Dt → Option Dt} {ma : Ma} {d e z : Dt} (h : ma env S = .ok [.p d, .p e] S1) (hz : f [d, e] = some z) : mPrV f ma env S = .ok (.p z) S1 := by unfold mPrV mPr; rw [h]; simp only [Rz.bind, derefs, deref, hz]
theorem ifV {c : Mb} {a b : Mx} {k : Bool} {x : Vl} (h : c env S = .ok k S1) (ht : k = true → a env S1 = .ok x S2) (hf : k = false → b env S1 = .ok x S2) : mIf c a b env S = .ok x S2 := by
  unfold mIf; rw [h]
  cases k with
  | true => exact ht rfl
  | false => exact hf rfl
end
theorem iBd_nat {d : Nat} (h : d ≤ 1000000) : iBd (d : Int) = true := by
  have h1 : -(2 ^ 62) ≤ (d : Int) := Int.le_trans (by decide : -(2 ^ 62) ≤ (0 : Int)) (Int.natCast_nonneg d)
  have h2 : (d : Int) < 2 ^ 62 := Int.lt_of_le_of_lt (Int.ofNat_le.mpr h) (by decide)
  exact Bool.and_eq_true_iff.mpr ⟨decide_eq_true h1, decide_eq_true h2⟩
theorem miR1_eq {m : Ma} {env : Slo} {S S' : Sto} {n : Int} (h : m env S = .ok [.p (.int n)] S') : miR1 m env S = if iBd n then .ok (rgL 0 n.toNat) S' else .bad := by
  unfold miR1
  rw [h]
  rfl
theorem miR1_ok {m : Ma} {env : Slo} {S S' : Sto} {d : Nat} (h : m env S = .ok [.p (.int (d : Int))] S') (hd : d ≤ 1000000) : miR1 m env S = .ok (rgL 0 d) S' :=
  (miR1_eq h).trans ((if_pos (iBd_nat hd)).trans (by rw [Int.toNat_natCast]))
theorem scr_len {ns : List Int} {s : Dt} (h : Scr ns s) : dLen [s] = some (.int (ns.length : Int)) := by
  rcases h with e | e <;> rw [e] <;> simp [dLen]
theorem scr_ix {ns : List Int} {s : Dt} (h : Scr ns s) {i : Nat} (hi : i < ns.length) : dIx s (.int (i : Int)) = some (.int ns[i]) := by
  rcases h with e | e <;> rw [e] <;> simp [dIx, atI, ixN, hi]
theorem pow_i {a : Int} {b : Nat} (h : (a.natAbs.log2 + 1) * b ≤ 134217728) : dPow (.int a) (.int (b : Int)) = some (.int (a ^ b)) := by
  show (if (decide (0 ≤ (b : Int)) && decide ((a.natAbs.log2 + 1) * (b : Int).toNat ≤ 134217728)) = true then some (Dt.int (a ^ (b : Int).toNat)) else none) = _
  rw [Int.toNat_natCast, if_pos (by simp [h])]
end EV

set_option Elab.async false
set_option linter.all false
set_option maxRecDepth 100000
set_option maxHeartbeats 2000000
/-! EvJ: dicts. -/
namespace EV
open PySem PySem.Spec PyProof.Rows L2
section
variable {X : Cx} {pins : List (Addr × Obj)} {σ : L2.St} {H H6 : Hp} {s : Shared}
/-- an entry laid by a comprehension -/
theorem dict_lay {A : Around} {E : Value → Shared → Prop} {D : Addr} {y z : V} {u r : Value} {Q : Unit → Shared → Prop} (hu : A.units + 1 < cLine) (I : Inv X pins σ H s) (p : DPut H D y z H6) (ry : RelV y u) (rz : RelV z r) (q : ∀ s2, Inv X pins σ H6 s2 → Q () s2) : wpAny (model X.prog X.w) A (dictSet D u r) Q E s := by
  rcases p with ⟨kvs, k, e, rfl, hl, rfl⟩ | ⟨kvs, k, b, e, rfl, eb, hl, rfl⟩
  · obtain ⟨_, ny, vs, rel, od⟩ := dk_of I.hok e
    have len := length_putK kvs k z
    refine wpAny_dictSet_pairs (hsz := by rw [← rel.length]; omega) (kV_is ry) od fun h2 od2 sb => q _ ?_
    exact d_write I (by rw [e]; trivial) sb (let ⟨o, _, _, ho, _⟩ := od2; ⟨o, ho⟩) (dk_new (by omega) ny (rel.put k rz) od2)
  · obtain rfl : u = Value.ref b := ry
    obtain ⟨_, ny, xs, rel, od⟩ := dt_of I.hok e
    have len := length_putK kvs k z
    refine wpAny_dictSet_heap (hsz := by rw [← Paired.length rel]; omega) (show A.units < cLine by omega) (key_of I.hok eb) od fun h2 od2 sb => q _ ?_
    obtain ⟨o, es, ep, ho, f2, f3, f4, _, f5⟩ := od2
    exact d_write I (by rw [e]; trivial) sb ⟨o, ho⟩ ⟨by omega, ny, _, (rel.put k eb rz).keeps (fun c ys ec => (upd_ne (ne_of ec e (fun z => nomatch z))).trans ec), o, es, ep, ho, f2, f3, f4, f5⟩
/-- what {k: v for target in iter if ..} asks, o0 the empty dict -/
def tDcG (o0 : HO) (wi : TI) (g : TG) (tt : TT) (tk tv : TE) (vs : List Nat) : TE := fun σ H Q => wi σ H fun J H1 => ∀ D, H1 D = none → ∃ W : Nat → Nat → Hp → Prop, (∃ m, W 0 m (upd H1 D o0)) ∧ ∀ i m H, W i m H → (J.stop i H ∧ Q (.ref D) H) ∨
  (J.go i H ∧ ∃ Nx : Hp → Prop, (∀ H', Nx H' → ∃ m', m' < m ∧ W (i + 1) m' H') ∧ ∀ x H', J.yld i H x H' → g x (wipe σ vs) H' fun σ2 H2 => wipe σ2 vs = wipe σ vs ∧ tt σ2 H2 fun b H3 => if b = true then tk σ2 H3 fun y H4 => tv σ2 H4 fun z H5 => ∃ H6, DPut H5 D y z H6 ∧ Nx H6 else Nx H3)
/-- what the compiler's block shows of a fresh dict's making: the walk's turns, one by one -/
theorem dict_core {pins : List (Addr × Obj)} {s : Shared} {σ : L2.St} {H : Hp} {Q : VK} {o0 : HO} {kx vx tg iter : Expr} {ifs : List Expr} {scope : Scope} {own : List (Str × Nat)} {pos pos2 : Pos} {wi : TI} {g : TG} {tt : TT} {tk tv : TE} {use : Option (Value → Sem Unit)} {Qf : Value → Shared → Prop}
    (calm : X.calm = true) (hu : X.A.units + 1 < cLine) (nd : X.N.Nodup) (new0 : ∀ h : Heap, sysModules < h.objs.size → ObjOk X.prog X.w H (h.push { cls := .type "dict", data := .dict #[] }) h.objs.size o0 ∧ ∀ H2 : Hp, ObjOk X.prog X.w H2 (h.push { cls := .type "dict", data := .dict #[] }) h.objs.size o0)
    (I : Inv X pins σ H s) (walk : PI X tg iter wi) (ok : BlkOk X.N X.env.scope scope own)
    (pgT : ∀ (s : Shared) (H : Hp) (C : Addr) (cl : List (Str × Addr)) (fp : List Addr), PG (X.blk s H scope (compEnvC scope cl C X.env) fp) tg g) (ptT : ∀ (s : Shared) (H : Hp) (C : Addr) (cl : List (Str × Addr)) (fp : List Addr), PTs (X.blk s H scope (compEnvC scope cl C X.env) fp) ifs tt)
    (pkT : ∀ (s : Shared) (H : Hp) (C : Addr) (cl : List (Str × Addr)) (fp : List Addr), PE (X.blk s H scope (compEnvC scope cl C X.env) fp) kx tk) (pvT : ∀ (s : Shared) (H : Hp) (C : Addr) (cl : List (Str × Addr)) (fp : List Addr), PE (X.blk s H scope (compEnvC scope cl C X.env) fp) vx tv)
    (hs : ∀ x, foldedSetIterable iter X.env x = pure x) (rd : tDcG o0 wi g tt tk tv (own.map (·.2)) σ H Q)
    (fin : ∀ D C s2 m H2, Inv X pins σ H2 s2 → Q (.ref D) H2 → s2.heap.Ns C m → FpOk X pins H2 C → compPost (model X.prog X.w) X.A X.xe use Qf (.ref D) C (.ok .next) s2) :
    wpAny (model X.prog X.w) X.A (comprehension (.DictComp kx vx [⟨tg, iter, ifs, 0⟩] scope pos) scope X.env pos2 newDict false (eval iter X.env) use) Qf X.xe s := by
  have capt : ∀ y ∈ scope.names, y.2 = .free → ∃ c, X.env.cells.lookup y.1 = some c := fun y hy e => (ok.free y hy e).elim (fun k => I.ok.has _ (.inl k)) (fun k => I.ok.has _ (.inr k))
  refine wpAny_comprehension_free (use := use) rfl hs (closure_ok capt) ok.kind (fun y hy e => by rw [ok.uniq y hy, e]) (thn (walk.run pins s σ H _ I rd) fun xv s1 hx => thn hx fun itv s2 h2 => ?_)
  obtain ⟨it, fp, tn, J, HA, rfl, IA, T, stA, fA, q⟩ := h2
  refine wpAny_newObj_type (newEnv_comp ?_)
  obtain ⟨D, hD⟩ : ∃ D, s2.heap.objs.size = D := ⟨_, rfl⟩
  rw [hD]
  obtain ⟨W, ⟨m0, w0⟩, turn⟩ := q D (IA.hok.fresh (Nat.le_of_eq hD))
  obtain ⟨sB, eB⟩ : ∃ sB : Shared, sB = { s2 with heap := s2.heap.push { cls := .type "dict", data := .dict #[] } } := ⟨_, rfl⟩
  obtain ⟨HB, eHB⟩ : ∃ HB : Hp, HB = upd HA D o0 := ⟨_, rfl⟩
  have hpB : sB.heap = s2.heap.push { cls := .type "dict", data := .dict #[] } := by rw [eB]
  have IB : Inv X pins σ HB sB := by
    rw [eB, eHB]
    refine IA.laid (t' := s2.toks) (fun b o e => Heap.get?_push_of_some _ e) (Nat.le_of_eq hD) ?_
    have z := (new0 s2.heap IA.big).2 (upd HA D o0)
    rw [hD] at z
    exact z
  have small : ∀ b ∈ fp, b < s2.heap.objs.size := fun b hb => let ⟨o, e, _⟩ := T.obj _ _ stA b hb; Heap.lt_size e
  have fB : ∀ b ∈ fp, FpOk X pins HB b ∧ b < sB.heap.objs.size := fun b hb => by
    have lt := small b hb
    have z := fA b hb
    exact ⟨⟨by rw [eHB, upd_ne (by rw [← hD]; exact Nat.ne_of_lt lt)]; exact z.1, z.2⟩, by rw [hpB, Heap.size_push]; exact Nat.lt_succ_of_lt lt⟩
  have stB : tn 0 sB.heap := T.keep _ _ _ stA fun b _ o e => by rw [hpB]; exact Heap.get?_push_of_some _ e
  rw [← eHB] at w0
  rw [← eB]
  have IC := block_start IB ok nd fB
  obtain ⟨env, eE⟩ : ∃ env, env = compEnvC scope (cellsFrom (sB.heap.objs.size + 1) scope.names (cloFrom X.env.cells scope.names [])) sB.heap.objs.size X.env := ⟨_, rfl⟩
  have pg := pgT sB HB sB.heap.objs.size (cellsFrom (sB.heap.objs.size + 1) scope.names (cloFrom X.env.cells scope.names [])) fp
  have pt := ptT sB HB sB.heap.objs.size (cellsFrom (sB.heap.objs.size + 1) scope.names (cloFrom X.env.cells scope.names [])) fp
  have pk := pkT sB HB sB.heap.objs.size (cellsFrom (sB.heap.objs.size + 1) scope.names (cloFrom X.env.cells scope.names [])) fp
  have pv := pvT sB HB sB.heap.objs.size (cellsFrom (sB.heap.objs.size + 1) scope.names (cloFrom X.env.cells scope.names [])) fp
  rw [← eE] at IC pg pt pk pv
  show codeAny (model X.prog X.w) X.A (.compStart (.DictComp kx vx [⟨tg, iter, ifs, 0⟩] scope pos) 0 (.ref it) (.ref D) (compEnvC scope (cellsFrom (sB.heap.objs.size + 1) scope.names (cloFrom X.env.cells scope.names [])) sB.heap.objs.size X.env)) (compPost (model X.prog X.w) X.A X.xe use Qf (.ref D) sB.heap.objs.size) _
  rw [← eE]
  have envL : env.locals = sB.heap.objs.size := by rw [eE]; rfl
  obtain ⟨sC, eC⟩ : ∃ sC : Shared, sC = { sB with heap := pushCells (sB.heap.push { cls := .type "dict", data := .dict #[] }) scope.names } := ⟨_, rfl⟩
  rw [← eC] at IC ⊢
  have stC : tn 0 sC.heap := T.keep _ _ _ stB fun b _ o e => by rw [eC]; exact pushCells_keeps _ _ _ _ (Heap.get?_push_of_some _ e)
  have away : ∀ {σ2 : L2.St} {H2 : Hp} {s3 : Shared}, Inv (X.blk sB HB scope env fp) [] σ2 H2 s3 → (∀ b ∈ fp, H2 b = none) → ∀ b ∈ fp, FpOk (X.blk sB HB scope env fp) [] H2 b := fun {_ _ _} K no b hb =>
    ⟨no b hb, (K.ok.exf b hb).1, K.ok.exfs b hb, .inl hb, fun x c e => (K.ok.exf b hb).2 x c e, fun p hp => absurd (show p ∈ ([] : List (Addr × Obj)) ++ [] from hp) (by simp)⟩
  refine (fun loop : codeAny (model X.prog X.w) X.A (.compLoop (.DictComp kx vx [⟨tg, iter, ifs, 0⟩] scope pos) 0 (.ref it) (.ref D) env) (compPost (model X.prog X.w) X.A X.xe use Qf (.ref D) sB.heap.objs.size) sC => codeAny_compStart_dict loop (T.self X.A 0 _ _ _ stC loop)) ?_
  refine compLoop_anyD (fun n s3 => ∃ i H2, Inv (X.blk sB HB scope env fp) [] (wipe σ (own.map (·.2))) H2 s3 ∧ tn i s3.heap ∧ (∀ b ∈ fp, H2 b = none) ∧ W i n H2) ?_ m0 ⟨0, HB, IC, stC, fun b hb => (fB b hb).1.1, w0⟩
  rintro n s3 ⟨i, H3, I3, st3, no3, w3⟩
  rcases turn i n H3 w3 with ⟨stop, done⟩ | ⟨go, Nx, nx, step⟩
  · refine thnF (T.done (X.blk sB HB scope env fp) rfl rfl rfl calm i [] s3 _ H3 (fun _ _ => False) I3 (away I3 no3) st3 stop) fun r s4 ⟨er, I4⟩ => ?_
    subst er
    have back : Inv X pins σ H3 s4 := IB.call' (ch := fp) I4.os I4.base I4.hok I4.bare fun b hb => ⟨(fB b hb).1.2.2.2.1, (fB b hb).1.2.1, (fB b hb).1.2.2.2.2.1, (fB b hb).1.2.2.2.2.2⟩
    obtain ⟨m, ns, _⟩ := I4.loc
    have ns : s4.heap.Ns env.locals m := ns
    have fr : H3 env.locals = none := I4.free
    rw [envL] at ns fr
    exact fin D sB.heap.objs.size s4 m H3 back done ns (IB.fpOk (Nat.le_refl _) fr)
  · refine thnF (T.item (X.blk sB HB scope env fp) rfl rfl rfl calm i [] s3 _ H3 (fun _ _ => False) I3 (away I3 no3) st3 go) fun r s4 ⟨u, er, h4⟩ => ?_
    subst er
    refine thnF h4 fun _ s5 ⟨x, H5, I5, rx, yl, st5, no5⟩ => ?_
    have P5 := I5.pinned (away I5 no5) (T.obj _ _ st5)
    refine thnF (pg.run _ s5 _ H5 x u _ P5 rx (step x H5 yl)) fun _ s6 ⟨σ6, H6, I6, wp, q6⟩ => ?_
    refine thnF (pt.run _ s6 σ6 H6 _ I6 q6) fun b s7 ⟨H7, I7, q7⟩ => ?_
    have next : ∀ {s8 : Shared} {H8 : Hp}, Inv (X.blk sB HB scope env fp) ([] ++ pinsAt fp s5.heap) σ6 H8 s8 → Nx H8 → ∃ m, m < n ∧ ∃ i H2, Inv (X.blk sB HB scope env fp) [] (wipe σ (own.map (·.2))) H2 s8 ∧ tn i s8.heap ∧ (∀ b ∈ fp, H2 b = none) ∧ W i m H2 := fun {s8 H8} K n8 => by
      obtain ⟨m2, lt, w8⟩ := nx H8 n8
      have pinned : ∀ b ∈ fp, ∀ o, s5.heap.get? b = some o → s8.heap.get? b = some o ∧ H8 b = none := fun b hb o e =>
        have z := K.pin (b, o) (List.mem_append_right _ (List.mem_append_right _ (mem_pinsAt hb e)))
        ⟨z.1, z.2.1⟩
      refine ⟨m2, lt, i + 1, H8, (K.unpinned (pins := [])).weak (by rw [← wp, wipe_length]) (fun j v e => by rw [← wp] at e; exact (wipe_some e).1), T.keep _ _ _ st5 fun b hb o e => (pinned b hb o e).1, fun b hb => ?_, w8⟩
      obtain ⟨o, e, _⟩ := T.obj _ _ st5 b hb
      exact (pinned b hb o e).2
    cases b with
    | false => exact next I7 q7
    | true =>
      have q7 : tk σ6 H7 _ := q7
      refine thnF (pk.run _ s7 σ6 H7 _ I7 q7) fun ku s8 ⟨yk, H8, I8, rk, q8⟩ => ?_
      refine thnF (pv.run _ s8 σ6 H8 _ I8 q8) fun vu s9 ⟨yv, H9, I9, rv, H10, put, n10⟩ => ?_
      exact dict_lay (X := X.blk sB HB scope env fp) hu I9 put rk rv fun s10 I10 => next I10 n10
/-- the comprehension as a value -/
theorem pe_dcT {kx vx tg iter : Expr} {ifs : List Expr} {scope : Scope} {own : List (Str × Nat)} {pos : Pos} {wi : TI} {g : TG} {tt : TT} {tk tv : TE} (hu : X.A.units + 1 < cLine) (hc : X.calm = true) (hN : X.N.Nodup) (hi : PI X tg iter wi) (ok : BlkOk X.N X.env.scope scope own)
    (hg : ∀ (s : Shared) (H : Hp) (C : Addr) (cl : List (Str × Addr)) (fp : List Addr), PG (X.blk s H scope (compEnvC scope cl C X.env) fp) tg g) (ht : ∀ (s : Shared) (H : Hp) (C : Addr) (cl : List (Str × Addr)) (fp : List Addr), PTs (X.blk s H scope (compEnvC scope cl C X.env) fp) ifs tt)
    (hk : ∀ (s : Shared) (H : Hp) (C : Addr) (cl : List (Str × Addr)) (fp : List Addr), PE (X.blk s H scope (compEnvC scope cl C X.env) fp) kx tk)
    (he : ∀ (s : Shared) (H : Hp) (C : Addr) (cl : List (Str × Addr)) (fp : List Addr), PE (X.blk s H scope (compEnvC scope cl C X.env) fp) vx tv) (hs : ∀ x, foldedSetIterable iter X.env x = pure x := by intro _; rfl) :
    PE X (.DictComp kx vx [⟨tg, iter, ifs, 0⟩] scope pos) (tDcG (.dT []) wi g tt tk tv (own.map (·.2))) := by
  refine ⟨fun pins s σ H Q I h => ?_⟩
  rw [arm_eval_DictComp]
  refine dict_core (Q := Q) hc hu hN (fun h hb => ⟨dt_empty h hb, fun H2 => dt_empty h hb⟩) I hi ok hg ht hk he hs h fun D C s' m H' I' q hn f => ⟨m, hn, fun h'' sb => ?_⟩
  obtain ⟨f0, f1, f2, f3, f4, f5⟩ := f
  exact ⟨.ref D, H', I'.turned (t' := s'.toks) (fun b o hb e => (sb.2 b hb).trans e) f0 f1 f3 f4 f5, rfl, q⟩
end

/-! ### keys -/
def keyD : Dt → Option Key
  | .int i => some (.inl i)
  | .str s => some (.inr s)
  | _ => none
def keysD : List Dt → Option (List Key)
  | [] => some []
  | d :: r => match keyD d, keysD r with
    | some k, some ks => some (k :: ks)
    | _, _ => none
def tkD : Dt → Option (List Key)
  | .tup ds => keysD ds
  | _ => none
def dtK : Key → Dt
  | .inl i => .int i
  | .inr s => .str s
section
variable {G : Stat} {an : An} {w w' : Wd} {H H' : Hp} {S S' : Sto} {W : WX} {X : Cx}
theorem keyD_ok {d : Dt} {v : V} {k : Key} (h : Tp G w H d v) (e : keyD d = some k) : v = kV k := by
  cases d with
  | int i => cases e; exact h.int
  | str i => cases e; exact h.str
  | _ => cases e
theorem keysD_ok : ∀ {ds : List Dt} {vs : List V} {ks : List Key}, PerL G w H ds vs → keysD ds = some ks → vs = ks.map kV
  | [], _, _, .nil, e => by cases e; rfl
  | d :: r, _, _, .cons h k, e => by
    unfold keysD at e
    cases h1 : keyD d with
    | none => rw [h1] at e; cases e
    | some a => cases h2 : keysD r with
      | none => rw [h1, h2] at e; cases e
      | some b =>
        rw [h1, h2] at e
        cases e
        rw [keyD_ok (.per h) h1, keysD_ok k h2]
        rfl
theorem tkD_ok {d : Dt} {v : V} {ks : List Key} (h : Tp G w H d v) (e : tkD d = some ks) : ∃ b, v = .ref b ∧ H b = some (.tup (ks.map kV)) := by
  cases d with
  | tup ds =>
    obtain ⟨a, xs, rfl, h1, k⟩ := h.tupH
    exact ⟨a, rfl, by rw [h1, keysD_ok k e]⟩
  | _ => cases e
theorem perL_keys : ∀ (ks : List Key), PerL G w H (ks.map dtK) (ks.map kV)
  | [] => .nil
  | .inl i :: r => .cons (.int i) (perL_keys r)
  | .inr s :: r => .cons (.str s) (perL_keys r)
theorem per_tk {b : Addr} {ks : List Key} (h : H b = some (.tup (ks.map kV))) : Per G w H (.tup (ks.map dtK)) (.ref b) := .tup h (perL_keys ks)
end
section
variable {κ : Type} [DecidableEq κ]
def getE : List κ → List Dt → κ → Option Dt
  | k' :: ks, d :: ds, k => if k' = k then some d else getE ks ds k
  | _, _, _ => none
def hasE (ks : List κ) (k : κ) : Bool := ks.any fun x => decide (x = k)
def repE : List κ → List Dt → κ → Dt → List Dt
  | k' :: ks, d' :: ds, k, d => (if k' = k then d else d') :: repE ks ds k d
  | _, _, _, _ => []
def putE (ks : List κ) (ds : List Dt) (k : κ) (d : Dt) : List κ × List Dt := if hasE ks k = true then (ks, repE ks ds k d) else (ks ++ [k], ds ++ [d])
variable {G : Stat} {an : An} {w w' : Wd} {H H' : Hp}
def OptR (G : Stat) (w : Wd) (H : Hp) : Option Dt → Option V → Prop
  | some d, r => ∃ v, r = some v ∧ Per G w H d v
  | none, r => r = none
theorem getE_ok : ∀ {kvs : List (κ × V)} {ks : List κ} {ds : List Dt} {k : κ}, kvs.map (·.1) = ks → PerL G w H ds (kvs.map (·.2)) → OptR G w H (getE ks ds k) (valV kvs k)
  | [], _, _, k, e, .nil => by subst e; exact valV_nil
  | p :: r, _, _ :: ds, k, e, .cons h t => by
    subst e
    show OptR G w H (if p.1 = k then some _ else getE (r.map (·.1)) ds k) (valV (p :: r) k)
    by_cases q : p.1 = k
    · rw [if_pos q]
      exact ⟨_, valV_pos q, h⟩
    · rw [if_neg q, valV_neg q]
      exact getE_ok rfl t
theorem rep_ok : ∀ {kvs : List (κ × V)} {ds : List Dt} {k : κ} {d : Dt} {v : V}, PerL G w H ds (kvs.map (·.2)) → Per G w H d v →
    PerL G w H (repE (kvs.map (·.1)) ds k d) ((kvs.map fun kv => if kv.1 = k then (kv.1, v) else kv).map (·.2))
  | [], _, _, _, _, .nil, _ => .nil
  | p :: r, _ :: ds, k, d, v, .cons h t, hd => by
    have ih := rep_ok (k := k) t hd
    show PerL G w H ((if p.1 = k then d else _) :: repE (r.map (·.1)) ds k d) ((if p.1 = k then (p.1, v) else p).2 :: _)
    by_cases q : p.1 = k
    · rw [if_pos q, if_pos q]; exact .cons hd ih
    · rw [if_neg q, if_neg q]; exact .cons h ih
theorem hasE_eq (kvs : List (κ × V)) (k : κ) : hasE (kvs.map (·.1)) k = kvs.any fun kv => decide (kv.1 = k) := by
  unfold hasE
  rw [List.any_map]
  rfl
theorem map_rep (kvs : List (κ × V)) (k : κ) (v : V) : (kvs.map fun kv => if kv.1 = k then (kv.1, v) else kv).map (·.1) = kvs.map (·.1) := by
  rw [List.map_map]
  refine List.map_congr_left fun p _ => ?_
  show (if p.1 = k then (p.1, v) else p).1 = p.1
  split <;> rfl
theorem putE_ok {kvs : List (κ × V)} {ks : List κ} {ds : List Dt} {k : κ} {d : Dt} {v : V} (e : kvs.map (·.1) = ks) (h : PerL G w H ds (kvs.map (·.2))) (hd : Per G w H d v) :
    (putK kvs k v).map (·.1) = (putE ks ds k d).1 ∧ PerL G w H (putE ks ds k d).2 ((putK kvs k v).map (·.2)) := by
  subst e
  unfold putK putE
  rw [hasE_eq]
  by_cases q : (kvs.any fun kv => decide (kv.1 = k)) = true
  · rw [if_pos q, if_pos q]
    exact ⟨map_rep kvs k v, rep_ok h hd⟩
  · rw [if_neg q, if_neg q]
    refine ⟨by simp, ?_⟩
    show PerL G w H (ds ++ [d]) ((kvs ++ [(k, v)]).map (·.2))
    rw [List.map_append]
    exact h.append (.cons hd .nil)
end

/-! ### d[k], k in d -/
/-- none: not such a dict and key; some none: the key lacks -/
def lookD (d y : Dt) : Option (Option Dt) := match d with
  | .dct ks ds => (keyD y).map (getE ks ds)
  | .dtt ks ds => (tkD y).map (getE ks ds)
  | _ => none
section
variable {G : Stat} {an : An} {w w' : Wd} {H H' : Hp} {S S' : Sto} {W : WX} {X : Cx}
theorem lookD_ok {d y : Dt} {v u : V} {o : Option Dt} (h : Tp G w H d v) (hy : Tp G w H y u) (e : lookD d y = some o) : ∃ a r, v = .ref a ∧ DGet H a u r ∧ OptR G w H o r := by
  cases d with
  | dct ks ds =>
    obtain ⟨a, kvs, rfl, h1, h2, h3⟩ := h.dct'
    unfold lookD at e
    cases e1 : keyD y with
    | none => rw [e1] at e; cases e
    | some k =>
      rw [e1] at e
      cases e
      have z := getE_ok (k := k) h2 h3
      exact ⟨a, _, rfl, .inl ⟨kvs, k, h1, keyD_ok hy e1, rfl⟩, z⟩
  | dtt ks ds =>
    obtain ⟨a, kvs, rfl, h1, h2, h3⟩ := h.dtt'
    unfold lookD at e
    cases e1 : tkD y with
    | none => rw [e1] at e; cases e
    | some k =>
      rw [e1] at e
      cases e
      have z := getE_ok (k := k) h2 h3
      obtain ⟨b, rfl, hb⟩ := tkD_ok hy e1
      exact ⟨a, _, rfl, .inr ⟨kvs, k, b, h1, rfl, hb, rfl⟩, z⟩
  | _ => cases e
def dGetD (d y : Dt) : Option Dt := match lookD d y with
  | some o => o
  | none => none
def rDGet : R2 := fun x y H Q => ∃ a v, x = .ref a ∧ DGet H a y (some v) ∧ Q v H
theorem ok_dget : Op2Ok G rDGet dGetD := by
  intro an w S H d e x y z Q s td te ef q
  unfold dGetD at ef
  cases h1 : lookD d e with
  | none => rw [h1] at ef; cases ef
  | some o =>
    rw [h1] at ef
    dsimp only at ef
    subst ef
    obtain ⟨a, r, rfl, g, x, rfl, p⟩ := lookD_ok td te h1
    exact ⟨a, x, rfl, g, q w H _ Grow.refl s p⟩
theorem se_dget {o i : Expr} {mo mi : Mx} {pos : Pos} (hu : X.A.units + 1 < cLine) (ho : SE G an W X o mo) (hi : SE G an W X i mi) (hs : NoSl i) : SE G an W X (.Subscript o i pos) (mOp2 dGetD mo mi) :=
  PE.imp (pe_dget hu ho hi hs) fun σ H Q h => op2_read ok_dget h
/-! in, not in -/
def dHasD (neg : Bool) (y d : Dt) : Option Dt := (lookD d y).map fun o => .bl (if neg = true then !o.isSome else o.isSome)
theorem OptR.isSome {o : Option Dt} {r : Option V} (h : OptR G w H o r) : r.isSome = o.isSome := by
  cases o with
  | none => rw [show r = none from h]; rfl
  | some d => obtain ⟨v, rfl, _⟩ := h; rfl
def rDIn (neg : Bool) : R2 := fun y x H Q => ∃ a o, x = .ref a ∧ DGet H a y o ∧ Q (.bl (if neg = true then !o.isSome else o.isSome)) H
theorem ok_din {neg : Bool} : Op2Ok G (rDIn neg) (dHasD neg) := by
  intro an w S H d e x y z Q s td te ef q
  unfold dHasD at ef
  cases h1 : lookD e d with
  | none => rw [h1] at ef; cases ef
  | some o =>
    rw [h1] at ef
    cases ef
    obtain ⟨a, r, rfl, g, p⟩ := lookD_ok te td h1
    exact ⟨a, r, rfl, g, q w H _ Grow.refl s (by rw [p.isSome]; exact .bl _)⟩
section
variable {a b : Expr} {ma mb : Mx} {pos : Pos}
theorem se_din (hu : X.A.units + 1 < cLine) (ha : SE G an W X a ma) (hb : SE G an W X b mb) (hm : behindInMarks .In b = false := by rfl) : SE G an W X (.Compare a [.In] [b] pos) (mOp2 (dHasD false) ma mb) :=
  PE.imp (pe_cmp (pc_din hu ha hb) hm) fun σ H Q h => op2_read (r := rDIn false) ok_din h
theorem se_dnin (hu : X.A.units + 1 < cLine) (ha : SE G an W X a ma) (hb : SE G an W X b mb) (hm : behindInMarks .NotIn b = false := by rfl) : SE G an W X (.Compare a [.NotIn] [b] pos) (mOp2 (dHasD true) ma mb) :=
  PE.imp (pe_cmp (pc_dnotin hu ha hb) hm) fun σ H Q h => op2_read (r := rDIn true) ok_din h
theorem st_din (hu : X.A.units + 1 < cLine) (ha : SE G an W X a ma) (hb : SE G an W X b mb) (hm : behindInMarks .In b = false := by rfl) : ST G an W X (.Compare a [.In] [b] pos) (mbV (mOp2 (dHasD false) ma mb)) :=
  PT.imp (pt_cmp (pc_din hu ha hb) hm) fun σ H Q h => op2_read (r := rDIn false) ok_din (tv_read h)
theorem st_dnin (hu : X.A.units + 1 < cLine) (ha : SE G an W X a ma) (hb : SE G an W X b mb) (hm : behindInMarks .NotIn b = false := by rfl) : ST G an W X (.Compare a [.NotIn] [b] pos) (mbV (mOp2 (dHasD true) ma mb)) :=
  PT.imp (pt_cmp (pc_dnotin hu ha hb) hm) fun σ H Q h => op2_read (r := rDIn true) ok_din (tv_read h)
/-! is None -/
def isNonD : Dt → Bool
  | .non => true
  | _ => false
def dIsN (neg : Bool) (d : Dt) : Option Dt := some (.bl (if neg = true then !isNonD d else isNonD d))
theorem isNon_ok {d : Dt} {v : V} (h : Tp G w H d v) : decide (v = .non) = isNonD d := by
  cases h with
  | per h => cases h <;> simp [isNonD]
  | cell h => cases h <;> simp [isNonD]
def rIsN (neg : Bool) : V → Hp → VK → Prop := fun x H Q => Q (.bl (if neg = true then !decide (x = .non) else decide (x = .non))) H
theorem ok_isN {neg : Bool} : Op1Ok G (rIsN neg) (dIsN neg) := by
  intro an w S H d x z Q s td ef q
  cases ef
  show Q (.bl (if neg = true then !decide (x = .non) else decide (x = .non))) H
  rw [isNon_ok td]
  exact q w H _ Grow.refl s (.bl _)
theorem se_isN {j : Nat} {p2 : Pos} (ha : SE G an W X a ma) : SE G an W X (.Compare a [.Is] [.Constant .none j p2] pos) (mOp1 (dIsN false) ma) :=
  PE.imp (pe_cmp (pc_isN ha)) fun σ H Q h => op1_read (r := rIsN false) ok_isN h
theorem se_notN {j : Nat} {p2 : Pos} (ha : SE G an W X a ma) : SE G an W X (.Compare a [.IsNot] [.Constant .none j p2] pos) (mOp1 (dIsN true) ma) :=
  PE.imp (pe_cmp (pc_notN ha)) fun σ H Q h => op1_read (r := rIsN true) ok_isN h
theorem st_isN {j : Nat} {p2 : Pos} (ha : SE G an W X a ma) : ST G an W X (.Compare a [.Is] [.Constant .none j p2] pos) (mbV (mOp1 (dIsN false) ma)) :=
  PT.imp (pt_cmp (pc_isN ha)) fun σ H Q h => op1_read (r := rIsN false) ok_isN (tv_read h)
theorem st_notN {j : Nat} {p2 : Pos} (ha : SE G an W X a ma) : ST G an W X (.Compare a [.IsNot] [.Constant .none j p2] pos) (mbV (mOp1 (dIsN true) ma)) :=
  PT.imp (pt_cmp (pc_notN ha)) fun σ H Q h => op1_read (r := rIsN true) ok_isN (tv_read h)
end
/-! ### by what stands there -/
def mAlt {α : Type} (c : Slo → Sto → Bool) (m1 m2 : Slo → Sto → Rz α) : Slo → Sto → Rz α := fun env S => if c env S = true then m1 env S else m2 env S
theorem mAlt_t {α : Type} {c : Slo → Sto → Bool} {m1 m2 : Slo → Sto → Rz α} {env : Slo} {S : Sto} (z : c env S = true) : mAlt c m1 m2 env S = m1 env S := if_pos z
theorem mAlt_f {α : Type} {c : Slo → Sto → Bool} {m1 m2 : Slo → Sto → Rz α} {env : Slo} {S : Sto} (z : ¬ c env S = true) : mAlt c m1 m2 env S = m2 env S := if_neg z
theorem se_alt {e : Expr} {m1 m2 : Mx} {c : Slo → Sto → Bool} (h1 : SE G an W X e m1) (h2 : SE G an W X e m2) : SE G an W X e (mAlt c m1 m2) := by
  refine ⟨fun pins s σ H Q I ⟨env, w, S, hE, hS, q⟩ => ?_⟩
  by_cases z : c env S = true
  · rw [mAlt_t z] at q; exact h1.run pins s σ H Q I ⟨env, w, S, hE, hS, q⟩
  · rw [mAlt_f z] at q; exact h2.run pins s σ H Q I ⟨env, w, S, hE, hS, q⟩
theorem st_alt {e : Expr} {m1 m2 : Mb} {c : Slo → Sto → Bool} (h1 : ST G an W X e m1) (h2 : ST G an W X e m2) : ST G an W X e (mAlt c m1 m2) := by
  refine ⟨fun pins s σ H Q I ⟨env, w, S, hE, hS, q⟩ => ?_⟩
  by_cases z : c env S = true
  · rw [mAlt_t z] at q; exact h1.run pins s σ H Q I ⟨env, w, S, hE, hS, q⟩
  · rw [mAlt_f z] at q; exact h2.run pins s σ H Q I ⟨env, w, S, hE, hS, q⟩
theorem si_alt {tg e : Expr} {m1 m2 : Mi} {c : Slo → Sto → Bool} (h1 : SI G an W X tg e m1) (h2 : SI G an W X tg e m2) : SI G an W X tg e (mAlt c m1 m2) := by
  refine ⟨fun pins s σ H R I ⟨env, w, S, hE, hS, q⟩ => ?_⟩
  by_cases z : c env S = true
  · rw [mAlt_t z] at q; exact h1.run pins s σ H R I ⟨env, w, S, hE, hS, q⟩
  · rw [mAlt_f z] at q; exact h2.run pins s σ H R I ⟨env, w, S, hE, hS, q⟩
/-- the value is a dict -/
def isDic (m : Mx) : Slo → Sto → Bool := fun env S => match m env S with
  | .ok x S1 => (match deref S1 x with
    | some (.dct _ _) => true
    | some (.dtt _ _) => true
    | _ => false)
  | _ => false
/-! ### a new dict with tuple keys -/
abbrev Md := Slo → Sto → Rz (List (List Key) × List Dt)
def tFd (G : Stat) (an : An) (W : WX) (m : Md) : TE := fun σ H Q => ∃ env w S, EnvR G w H env σ ∧ StoR G an w S H ∧ Pst G an w H (m env S) (fun z _ w' H' => ∀ a kvs, H' a = none → kvs.map (·.1) = z.1 → PerL G w' H' z.2 (kvs.map (·.2)) → Q (.ref a) (upd H' a (.dT kvs))) (fun c d H' => W c d σ H')
def SD (G : Stat) (an : An) (W : WX) (X : Cx) (e : Expr) (m : Md) : Prop := PE X e (tFd G an W m)
def mFzD (m : Md) : Mx := fun env S => (m env S).bind fun z S1 => .ok (.p (.dtt z.1 z.2)) S1
def mOwnD (m : Md) : Mx := fun env S => (m env S).bind fun z S1 => .ok (.loc S1.length) (S1 ++ [.dtt z.1 z.2])
theorem se_fzD {e : Expr} {m : Md} (h : SD G an W X e m) : SE G an W X e (mFzD m) := by
  refine PE.imp (pe_frz h) fun σ H Q ⟨env, w, S, hE, hS, q⟩ => ⟨env, w, S, hE, hS, (Pst.bind q).imp (fun z S1 w1 H1 _ g1 s1 q1 a kvs ha e1 k => ?_) fun _ _ _ z => z⟩
  refine ⟨a, _, rfl, upd_same, trivial, fun od => ?_⟩
  rw [upd_upd]
  exact q1 w1 _ (Grow.obj s1 ha) (s1.obj ha) _ (.p (.dtt upd_same e1 (k.mono (Grow.obj s1 ha))))
theorem se_ownD {e : Expr} {m : Md} (h : SD G an W X e m) : SE G an W X e (mOwnD m) := by
  refine PE.imp h fun σ H Q ⟨env, w, S, hE, hS, q⟩ => ⟨env, w, S, hE, hS, (Pst.bind q).imp (fun z S1 w1 H1 _ g1 s1 q1 a kvs ha e1 k => ?_) fun _ _ _ z => z⟩
  refine q1 _ _ (Grow.cellO s1 ha) (s1.cellO ha (by intro ps e; cases e) (.dtt upd_same e1 (k.mono (Grow.cellO s1 ha)))) _ (.loc ?_)
  show (w1.rho ++ [a])[S1.length]? = some a
  rw [s1.len]; simp
theorem sd_nil {pos : Pos} : SD G an W X (.Dict [] [] pos) (fun _ S => .ok ([], []) S) :=
  PE.imp pe_dnewT fun σ H Q ⟨env, w, S, hE, hS, q⟩ => fun p hp => q w H Grow.refl hS p [] hp rfl .nil
theorem upd_delO {a : Addr} {o : HO} : upd (delH H a) a o = upd H a o := by
  funext b
  by_cases z : b = a
  · subst z; rw [upd_same, upd_same]
  · rw [upd_ne z, upd_ne z, delH_ne z]
/-- a cell's dict: d[k] = v -/
theorem StoR.dtt (s : StoR G an w S H) {n : Nat} {a : Addr} {ks : List (List Key)} {ds : List Dt} (hn : w.rho[n]? = some a) (e : S[n]? = some (.dtt ks ds)) : ∃ kvs, H a = some (.dT kvs) ∧ kvs.map (·.1) = ks ∧ PerL G w H ds (kvs.map (·.2)) := by
  obtain ⟨d, h1, c⟩ := s.at' n a hn
  rw [e] at h1
  cases h1
  cases c with
  | dtt h e k => exact ⟨_, h, e, k⟩
def mSetD (mo mi me : Mx) : Slo → Sto → Rz Unit := fun env S => (me env S).bind fun v S1 => (mo env S1).bind fun x S2 => (mi env S2).bind fun y S3 => match v, x, y with
  | .p d, .loc n, .p e => (match S3[n]? with
    | some (.dtt ks ds) => (match tkD e with
      | some k => if decide (ks.length < sizeLine) = true then .ok () (S3.set n (.dtt (putE ks ds k d).1 (putE ks ds k d).2)) else .bad
      | none => .bad)
    | _ => .bad)
  | _, _, _ => .bad
def sSetD (mo mi me : Mx) : Sx := fun env S => liftE (mSetD mo mi me env S) env fun _ S1 => .nx env S1
theorem ss_setd {o i value : Expr} {pos pos' : Pos} {mo mi me : Mx} (hu : X.A.units + 1 < cLine) (ho : SE G an W X o mo) (hi : SE G an W X i mi) (he : SE G an W X value me) (hs : swapsWith value (some (.Subscript o i pos')) pos.line X.env = pure false) :
    SS G an W X (.Assign [.Subscript o i pos'] value pos) (sSetD mo mi me) := by
  refine PS.imp (ps_dput hu ho hi he hs) fun D σ H ⟨env, w, S, hE, hS, q⟩ => ⟨env, w, S, hE, hS, (Pst.bind (q.lift hE)).imp (fun v S1 w1 H1 r1 g1 s1 q1 v' rv => ?_) fun _ _ _ z => z⟩
  refine ⟨env, w1, S1, hE.mono g1, s1, (Pst.bind q1).imp (fun x S2 w2 H2 r2 g2 s2 q2 x' rx => ?_) fun _ _ _ z => z⟩
  refine ⟨env, w2, S2, (hE.mono g1).mono g2, s2, (Pst.bind q2).imp (fun y S3 w3 H3 r3 g3 s3 q3 y' ry => ?_) fun _ _ _ z => z⟩
  split at q3
  · rename_i d n e
    cases rv with
    | p pv => cases rx with
      | @loc _ a hn => cases ry with
        | p pi =>
          obtain ⟨t, et⟩ := g3.pre
          have hn2 : w3.rho[n]? = some a := by rw [et, List.getElem?_append_left (List.getElem?_eq_some_iff.mp hn).1]; exact hn
          split at q3
          · rename_i ks ds e1
            obtain ⟨kvs, f1, f2, f3⟩ := s3.dtt hn2 e1
            split at q3
            · rename_i k ek
              split at q3
              · rename_i hl
                obtain ⟨b, rfl, hb⟩ := tkD_ok (.per pi) ek
                have hl : ks.length < sizeLine := of_decide_eq_true hl
                have pv3 := (pv.mono g2).mono g3
                have z := putE_ok (k := k) f2 f3 pv3
                have gw := Grow.write (o := .dT (putK kvs k v')) s3 hn2
                have c : CeR G w3 (upd H3 a (.dT (putK kvs k v'))) (.dtt (putE ks ds k d).1 (putE ks ds k d).2) a := .dtt upd_same z.1 (z.2.mono gw)
                have sw := s3.writeO (o := .dT (putK kvs k v')) hn2 trivial c
                refine ⟨a, _, rfl, DPut.t f1 hb (by rw [← f2, List.length_map] at hl; exact hl), ?_⟩
                exact q3 w3 _ gw sw w3 _ σ Grow.refl sw ((((hE.mono g1).mono g2).mono g3).mono gw)
              · exact q3.elim
            · exact q3.elim
          · exact q3.elim
  · exact q3.elim
end
end EV

set_option Elab.async false
set_option linter.all false
set_option maxRecDepth 100000
set_option maxHeartbeats 2000000
/-! EvO: comprehensions and displays of dicts with tuple keys. -/
namespace EV
open PySem PySem.Spec PyProof.Rows L2
def dcGo (g : Tg) (vs : List Nat) (mt : Mb) (mk mv : Mx) (env : Slo) : List Dt → List (List Key) → List Dt → Sto → Rz (List (List Key) × List Dt)
  | [], ks, ds, S => .ok (ks, ds) S
  | d :: r, ks, ds, S => match bindT g d (wipeE env vs) with
    | none => .bad
    | some env1 => match mt env1 S with
      | .ok b S1 => if b = true then (match mk env1 S1 with
          | .ok (.p x) S2 => (match tkD x with
            | some k => (match mv env1 S2 with
              | .ok (.p y) S3 => dcGo g vs mt mk mv env r (putE ks ds k y).1 (putE ks ds k y).2 S3
              | _ => .bad)
            | none => .bad)
          | _ => .bad) else dcGo g vs mt mk mv env r ks ds S1
      | _ => .bad
def mdDc (mi : Mi) (g : Tg) (vs : List Nat) (mt : Mb) (mk mv : Mx) : Md := fun env S => (mi env S).bind fun ds S1 => if line ds.length then (match dcGo g vs mt mk mv env ds [] [] S1 with
  | .ok z S2 => .ok z S2
  | _ => .bad) else .bad
section
variable {G : Stat} {an : An} {w w' : Wd} {H H' : Hp} {S S' : Sto} {W : WX} {X : Cx}
theorem sd_dc {k : Nat} {kx vx tg iter : Expr} {ifs : List Expr} {scope : Scope} {own : List (Str × Nat)} {pos : Pos} {mi : Mi} {tgt : Tg} {mt : Mb} {mk mv : Mx} (g : Gd G X W k) (hi : SI G an W X tg iter mi) (ok : BlkOk X.N X.env.scope scope own)
    (hsl : ∀ i ∈ tgt.slots, i ∈ own.map (·.2))
    (hg : ∀ (s : Shared) (H : Hp) (C : Addr) (cl : List (Str × Addr)) (fp : List Addr), PG (X.blk s H scope (compEnvC scope cl C X.env) fp) tg (tgOf X.K tgt))
    (ht : ∀ (s : Shared) (H : Hp) (C : Addr) (cl : List (Str × Addr)) (fp : List Addr), PTs (X.blk s H scope (compEnvC scope cl C X.env) fp) ifs (tTe G an WF mt))
    (hk : ∀ (s : Shared) (H : Hp) (C : Addr) (cl : List (Str × Addr)) (fp : List Addr), SE G an WF (X.blk s H scope (compEnvC scope cl C X.env) fp) kx mk)
    (he : ∀ (s : Shared) (H : Hp) (C : Addr) (cl : List (Str × Addr)) (fp : List Addr), SE G an WF (X.blk s H scope (compEnvC scope cl C X.env) fp) vx mv)
    (hs : ∀ x, foldedSetIterable iter X.env x = pure x := by intro _; rfl) : SD G an W X (.DictComp kx vx [⟨tg, iter, ifs, 0⟩] scope pos) (mdDc mi tgt (own.map (·.2)) mt mk mv) := by
  obtain ⟨vs, hvs⟩ : ∃ vs, vs = own.map (·.2) := ⟨_, rfl⟩
  rw [← hvs]
  rw [← hvs] at hsl
  have hu : X.A.units + 1 < cLine := by have := g.u64; omega
  refine PE.imp (pe_dcT hu g.calm g.nd hi ok hg ht hk he hs) fun σ H Q ⟨env, w, S, hE, hS, q⟩ => ⟨env, w, S, hE, hS, (Pst.bind q).imp (fun ds S1 w1 H1 r1 g1 s1 q1 J hJ A hA => ?_) fun _ _ _ z => z⟩
  rw [← hvs]
  split at q1
  · rename_i hline
    cases hz : dcGo tgt vs mt mk mv env ds [] [] S1 with
    | bad => rw [hz] at q1; exact q1.elim
    | exc c p S2 => rw [hz] at q1; exact q1.elim
    | ok zs Sf =>
      rw [hz] at q1
      have hl : ds.length ≤ sizeLine := line_ok hline
      refine ⟨fun i m H => ∃ (w : Wd) (S : Sto) (kvs : List (List Key × V)) (ks : List (List Key)) (es : List Dt), m = ds.length - i ∧ i ≤ ds.length ∧ Grow w1 H1 w H ∧ A ∈ w.xi ∧ StoR G an w S H ∧ H A = some (.dT kvs) ∧ kvs.map (·.1) = ks ∧ PerL G w H es (kvs.map (·.2)) ∧ kvs.length ≤ i ∧ dcGo tgt vs mt mk mv env (ds.drop i) ks es S = .ok zs Sf,
        ⟨ds.length, w1.aside A, S1, [], [], [], rfl, Nat.zero_le _, Grow.aside s1 hA, List.mem_cons_self, s1.aside hA trivial, upd_same, rfl, .nil, Nat.le_refl _, hz⟩, ?_⟩
      rintro i m H ⟨w, S, kvs, ks, es, rfl, hi, gr, hx, hS, hH, hks, kk, hlen, hgo⟩
      obtain ⟨jgo, jst⟩ := hJ i w H gr.x
      by_cases hlt : i < ds.length
      · obtain ⟨go, yl⟩ := jgo ds[i] (List.getElem?_eq_getElem hlt)
        rw [List.drop_eq_getElem_cons hlt] at hgo
        unfold dcGo at hgo
        cases eb : bindT tgt ds[i] (wipeE env vs) with
        | none => rw [eb] at hgo; cases hgo
        | some env1 =>
          simp only [eb] at hgo
          cases et : mt env1 S with
          | bad => rw [et] at hgo; cases hgo
          | exc c p S2 => rw [et] at hgo; cases hgo
          | ok b S2 =>
            simp only [et] at hgo
            refine .inr ⟨go, fun H' => ∃ (w : Wd) (S : Sto) (kvs : List (List Key × V)) (ks : List (List Key)) (es : List Dt), Grow w1 H1 w H' ∧ A ∈ w.xi ∧ StoR G an w S H' ∧ H' A = some (.dT kvs) ∧ kvs.map (·.1) = ks ∧ PerL G w H' es (kvs.map (·.2)) ∧ kvs.length ≤ i + 1 ∧ dcGo tgt vs mt mk mv env (ds.drop (i + 1)) ks es S = .ok zs Sf,
              fun H' ⟨w, S, kvs, ks, es, a1, a2, a3, a4, a5, a6, a7, a8⟩ => ⟨ds.length - (i + 1), by omega, w, S, kvs, ks, es, rfl, hlt, a1, a2, a3, a4, a5, a6, a7, a8⟩, fun x H' y => ?_⟩
            obtain ⟨g2, s2, p⟩ := yl x H' y S hS
            refine bindT_ok g.K eb ((hE.mono ((g1.trans gr).trans g2)).wipe vs) p fun σ2 hE2 hw => ⟨?_, env1, w, S, hE2, s2, ?_⟩
            · rw [hw vs hsl]
              exact wipe_sub fun _ h => h
            · rw [et]
              intro w3 H3 g3 s3
              have ac : ∀ {w' H'}, Grow w H w' H' → H' A = some (.dT kvs) := fun gg => gg.keep _ _ hH (hS.ax A hx).1
              cases b with
              | false =>
                have g' := g2.trans g3
                exact ⟨w3, S2, kvs, ks, es, gr.trans g', g'.xi _ hx, s3, ac g', hks, kk.mono g', Nat.le_succ_of_le hlen, hgo⟩
              | true =>
                simp only [if_true] at hgo
                cases em : mk env1 S2 with
                | bad => rw [em] at hgo; cases hgo
                | exc c p S3 => rw [em] at hgo; cases hgo
                | ok x S3 =>
                  cases x with
                  | loc n => rw [em] at hgo; cases hgo
                  | p d =>
                    simp only [em] at hgo
                    cases ek : tkD d with
                    | none => rw [ek] at hgo; cases hgo
                    | some key =>
                      simp only [ek] at hgo
                      cases ev : mv env1 S3 with
                      | bad => rw [ev] at hgo; cases hgo
                      | exc c p S4 => rw [ev] at hgo; cases hgo
                      | ok x S4 =>
                        cases x with
                        | loc n => rw [ev] at hgo; cases hgo
                        | p vd =>
                          simp only [ev] at hgo
                          refine ⟨env1, w3, S2, hE2.mono g3, s3, ?_⟩
                          rw [em]
                          intro w4 H4 g4 s4 kv rk
                          refine ⟨env1, w4, S3, (hE2.mono g3).mono g4, s4, ?_⟩
                          rw [ev]
                          intro w5 H5 g5 s5 vv rv
                          have g' := ((g2.trans g3).trans g4).trans g5
                          have hA5 := ac g'
                          have hx5 := g'.xi _ hx
                          cases rk with
                          | p rk =>
                            cases rv with
                            | p rv =>
                              obtain ⟨b, rfl, hb⟩ := tkD_ok (.per (rk.mono g5)) ek
                              have z := putE_ok (k := key) hks (kk.mono g') rv
                              have hlen2 : kvs.length < sizeLine := by omega
                              have gp := (gr.trans g').put (o := .dT (putK kvs key vv)) hA
                              refine ⟨_, DPut.t hA5 hb hlen2, w5, S4, putK kvs key vv, _, _, gp, hx5, s5.put hA5 trivial trivial hx5 (an.m _ _ _ _ gp s1.anc), upd_same, z.1, z.2.put hA5 trivial hx5, ?_, hgo⟩
                              have := length_putK kvs key vv
                              omega
      · have e : i = ds.length := by omega
        subst e
        rw [List.drop_length] at hgo
        cases hgo
        have gd := gr.del hA (s1.outx hA) hH
        have q2 := q1 _ _ gd (hS.del hH trivial hx (an.m _ _ _ _ gd s1.anc)) A kvs delH_same hks (kk.del hH trivial hx)
        rw [upd_del hH] at q2
        exact .inl ⟨jst (Nat.le_refl _), q2⟩
  · exact q1.elim
end
end EV

set_option Elab.async false
set_option linter.all false
set_option maxRecDepth 100000
set_option maxHeartbeats 2000000
/-! EvI: displays of dicts with tuple keys; dicts walked. -/
namespace EV
open PySem PySem.Spec PyProof.Rows L2
def mergeT (kvs more : List (List Key × V)) : List (List Key × V) := more.foldl (fun acc kv => putK acc kv.1 kv.2) kvs
/-- the pairs that were made, as keys and values -/
abbrev PairsT (H : Hp) : List (V × V) → List (List Key × V) → Prop := Paired fun p kv => ∃ b, p.1 = V.ref b ∧ H b = some (.tup (kv.1.map kV)) ∧ p.2 = kv.2
def tDispT (trs : List (TE × TE)) : TE := fun σ H Q => ∀ p, H p = none → tPairs trs σ (upd H p (.dT [])) fun ps H2 => H2 p = some (.dT []) ∧ ∃ kvs : List (List Key × V), PairsT H2 ps kvs ∧ kvs.length ≤ 15 ∧ Q (.ref p) (upd H2 p (.dT (mergeT [] kvs)))
theorem length_mergeT : ∀ (more kvs : List (List Key × V)), (mergeT kvs more).length ≤ kvs.length + more.length
  | [], kvs => by show kvs.length ≤ kvs.length + 0; omega
  | p :: r, kvs => by
    have h1 := length_mergeT r (putK kvs p.1 p.2)
    have h2 := length_putK kvs p.1 p.2
    show (mergeT (putK kvs p.1 p.2) r).length ≤ _
    rw [List.length_cons]; omega
theorem kt_merge {H : Hp} : ∀ {more : List (List Key × V)} {xs : List (List Key × Addr × Value)} {kvs : List (List Key × V)} {ys : List (List Key × Addr × Value)}, KT H more xs → KT H kvs ys → KT H (mergeT kvs more) (storedAllH ys xs)
  | [], _, _, _, .nil, r => r
  | p :: more, x :: xs, kvs, ys, .cons h t, r => by
    obtain ⟨h1, h2, h3⟩ := h
    have z : KT H (putK kvs p.1 p.2) (storedH ys p.1 x.2.1 x.2.2) := r.put p.1 h2 h3
    rw [h1] at z
    show KT H (mergeT (putK kvs p.1 p.2) more) (storedAllH (storedH ys x.1 x.2.1 x.2.2) xs)
    have z2 := kt_merge t z
    rw [← h1] at z2 ⊢
    exact z2
theorem carriesH_of {P : Program} {w : World} {H : Hp} {h : Heap} (ok : HOk P w H h) : ∀ {ps : List (V × V)} {kvs : List (List Key × V)} {ws : List (Value × Value)}, PairsT H ps kvs → VV ps ws →
    ∃ xs, CarriesH (tupleKind (mixKind P w)) h ws xs ∧ KT H kvs xs
  | [], _, _, .nil, .nil => ⟨[], trivial, .nil⟩
  | p :: ps, kv :: kvs, q :: ws, .cons hp tp, .cons hq tq => by
    obtain ⟨xs, c, r⟩ := carriesH_of ok tp tq
    obtain ⟨b, e1, e2, e3⟩ := hp
    obtain ⟨r1, r2⟩ := hq
    obtain ⟨q1, q2⟩ := q
    rw [e1] at r1
    obtain rfl : q1 = Value.ref b := r1
    exact ⟨(kv.1, b, q2) :: xs, ⟨rfl, rfl, key_of ok e2, c⟩, .cons ⟨rfl, e2, by rw [← e3]; exact r2⟩ r⟩
theorem wpAny_Dict_walkT {prog : Program} {w : World} {A : Around} {E : Value → Shared → Prop} {s : Shared} {env : Env} {keys : List (Option Expr)} {values : List Expr} {pos : Pos} {Q : Value → Shared → Prop} (hu : A.units < cLine)
    (hall : keys.all (·.isSome) = true) (hl : keys.length = values.length) (h0 : keys ≠ []) (hlen : keys.length ≤ 15)
    (h : wpAny (model prog w) A (evalPairs (pairTrees keys values env pos)) (fun vs s₁ => ∃ ps, CarriesH (tupleKind (mixKind prog w)) s₁.heap vs ps ∧ s₁.heap.DictOfH (tupleKind (mixKind prog w)) s.heap.objs.size [] ∧
      ∀ h' tk, h'.DictOfH (tupleKind (mixKind prog w)) s.heap.objs.size (storedAllH [] ps) → Heap.SameBut s.heap.objs.size s₁.heap h' → Q (.ref s.heap.objs.size) { s₁ with heap := h', toks := tk }) E
      { s with heap := s.heap.push { cls := .type "dict", data := .dict #[] } }) :
    wpAny (model prog w) A (eval (.Dict keys values pos) env) Q E s := by
  have hn := pairTrees_length keys values env pos hall hl
  have hne : pairTrees keys values env pos ≠ [] := fun he => by
    rw [he] at hn
    exact h0 (List.length_eq_zero_iff.mp hn.symm)
  rw [arm_eval_Dict, zip_pairTrees keys values env pos hall hl, dictDisplay_pairs _ hne (by omega)]
  exact wpAny_bind (wpAny_standAt (wpAny_bind (wpAny_subDictH (knd := tupleKind (mixKind prog w)) (Q := fun d s' => wpAny (model prog w) A (pure (Value.ref d)) Q E s') hu (by omega)
    (wpAny_mono h (fun vs s₁ h₁ => by obtain ⟨ps, hc, hm, hq⟩ := h₁; exact ⟨ps, hc, hm, fun h' tk a b => wpAny_pure (hq h' tk a b)⟩) fun _ _ e => e))))
theorem pe_dispT {X : Cx} {pos : Pos} {keys : List (Option Expr)} {values : List Expr} {trs : List (TE × TE)} (hu : X.A.units + 1 < cLine) (h : PPs X pos keys values trs) (hall : keys.all (·.isSome) = true) (hl : keys.length = values.length) (h0 : keys ≠ [])
    (h15 : keys.length ≤ 15) : PE X (.Dict keys values pos) (tDispT trs) := by
  refine ⟨fun pins s σ H Q I q => ?_⟩
  have hn := I.hok.fresh (Nat.le_refl s.heap.objs.size)
  have I1 := I.laid (a := s.heap.objs.size) (o := .dT []) (h' := s.heap.push { cls := .type "dict", data := .dict #[] }) (t' := s.toks) (fun _ _ q => Heap.get?_push_of_some _ q) (Nat.le_refl _) (dt_empty s.heap I.big)
  refine wpAny_Dict_walkT (by omega) hall hl h0 h15 (thn (h.run pins _ σ _ _ I1 (q _ hn)) fun ws s2 ⟨ps, H2, I2, rel, e, kvs, ep, lk, q2⟩ => ?_)
  obtain ⟨xs, c, rk⟩ := carriesH_of (P := X.prog) (w := X.w) I2.hok ep rel
  obtain ⟨z, hd, vs0, r0, dd⟩ := dt_of I2.hok e
  cases r0
  refine ⟨xs, c, dd, fun h' tk dd' hs => ⟨.ref s.heap.objs.size, _, ?_, rfl, q2⟩⟩
  have hz : (mergeT [] kvs).length ≤ sizeLine := by
    have h1 := length_mergeT kvs []
    rw [List.length_nil] at h1
    rw [sizeLine_eq]; omega
  have he : ∃ q, h'.get? s.heap.objs.size = some q := let ⟨q, _, _, hq, _⟩ := dd'; ⟨q, hq⟩
  have rk2 := kt_merge rk (.nil : KT H2 [] [])
  refine d_write I2 (by rw [e]; exact True.intro) hs he ?_
  obtain ⟨o, es, ep2, ho, f2, f3, f4, _, f5⟩ := dd'
  exact ⟨hz, hd, _, rk2.keeps (fun c ys ec => (upd_ne (ne_of ec e (fun z => nomatch z))).trans ec), o, es, ep2, ho, f2, f3, f4, f5⟩
/-! ### as data -/
def psGo : List (Mx × Mx) → Slo → Sto → Rz (List (List Key × Dt))
  | [], _, S => .ok [] S
  | m :: r, env, S => (m.1 env S).bind fun x S1 => (m.2 env S1).bind fun y S2 => match x, y with
    | .p d, .p e => (match tkD d with
      | some k => (psGo r env S2).bind fun z S3 => .ok ((k, e) :: z) S3
      | none => .bad)
    | _, _ => .bad
def foldE (z : List (List Key × Dt)) (acc : List (List Key) × List Dt) : List (List Key) × List Dt := z.foldl (fun a kd => putE a.1 a.2 kd.1 kd.2) acc
def mdDisp (ms : List (Mx × Mx)) : Md := fun env S => (psGo ms env S).bind fun z S1 => if z.length ≤ 15 then .ok (foldE z ([], [])) S1 else .bad
section
variable {G : Stat} {an : An} {w w' : Wd} {H H' : Hp} {S S' : Sto} {W : WX} {X : Cx}
theorem foldE_ok : ∀ {z : List (List Key × Dt)} {kvs : List (List Key × V)} {kvs0 : List (List Key × V)} {acc : List (List Key) × List Dt}, kvs.map (·.1) = z.map (·.1) → PerL G w H (z.map (·.2)) (kvs.map (·.2)) →
    kvs0.map (·.1) = acc.1 → PerL G w H acc.2 (kvs0.map (·.2)) → (mergeT kvs0 kvs).map (·.1) = (foldE z acc).1 ∧ PerL G w H (foldE z acc).2 ((mergeT kvs0 kvs).map (·.2))
  | [], [], _, _, _, _, e, k => ⟨e, k⟩
  | [], _ :: _, _, _, e, _, _, _ => by simp at e
  | _ :: _, [], _, _, e, _, _, _ => by simp at e
  | kd :: z, kv :: kvs, kvs0, acc, e, .cons h t, e0, k0 => by
    simp only [List.map_cons, List.cons.injEq] at e
    obtain ⟨e1, e2⟩ := e
    have p := putE_ok (k := kd.1) e0 k0 h
    show (mergeT (putK kvs0 kv.1 kv.2) kvs).map (·.1) = (foldE z (putE acc.1 acc.2 kd.1 kd.2)).1 ∧ _
    rw [← e1] at p
    have r := foldE_ok (z := z) (kvs := kvs) (kvs0 := putK kvs0 kv.1 kv.2) (acc := putE acc.1 acc.2 kv.1 kd.2) e2 t p.1 p.2
    rw [← e1]
    exact ⟨r.1, by
      have : foldE (kd :: z) acc = foldE z (putE acc.1 acc.2 kv.1 kd.2) := by rw [e1]; rfl
      rw [this]
      exact r.2⟩
abbrev trsOf (G : Stat) (an : An) (W : WX) (ms : List (Mx × Mx)) : List (TE × TE) := ms.map fun m => (tM G an W m.1, tM G an W m.2)
theorem pairs_read : ∀ (ms : List (Mx × Mx)) {σ : L2.St} {env : Slo} {w : Wd} {S : Sto} {H : Hp} {Q : List (V × V) → Hp → Prop}, EnvR G w H env σ → StoR G an w S H →
    Pst G an w H (psGo ms env S) (fun z _ w' H' => ∀ ps kvs, PairsT H' ps kvs → kvs.map (·.1) = z.map (·.1) → PerL G w' H' (z.map (·.2)) (kvs.map (·.2)) → Q ps H') (fun c d H' => W c d σ H') → tPairs (trsOf G an W ms) σ H Q
  | [], σ, env, w, S, H, Q, hE, hS, q => q w H Grow.refl hS [] [] .nil rfl .nil
  | m :: r, σ, env, w, S, H, Q, hE, hS, q => by
    refine ⟨env, w, S, hE, hS, (Pst.bind q).imp (fun x S1 w1 H1 _ g1 s1 q1 v rv => ?_) fun _ _ _ z => z⟩
    refine ⟨env, w1, S1, hE.mono g1, s1, (Pst.bind q1).imp (fun y S2 w2 H2 _ g2 s2 q2 u ru => ?_) fun _ _ _ z => z⟩
    split at q2
    · rename_i d e
      split at q2
      · rename_i k ek
        refine pairs_read r ((hE.mono g1).mono g2) s2 ((Pst.bind q2).imp (fun z S3 w3 H3 _ g3 s3 q3 ps kvs e1 e2 e3 => ?_) fun _ _ _ z => z)
        cases rv with
        | p pv => cases ru with
          | p pu =>
            obtain ⟨b, rfl, hb⟩ := tkD_ok (.per ((pv.mono g2).mono g3)) ek
            exact q3 w3 H3 Grow.refl s3 _ ((k, u) :: kvs) (.cons ⟨b, rfl, hb, rfl⟩ e1) (by simp [e2]) (.cons (pu.mono g3) e3)
      · exact q2.elim
    · exact q2.elim
structure SPs (G : Stat) (an : An) (W : WX) (X : Cx) (pos : Pos) (keys : List (Option Expr)) (values : List Expr) (ms : List (Mx × Mx)) : Prop where
  run : PPs X pos keys values (trsOf G an W ms)
theorem sps_nil {pos : Pos} : SPs G an W X pos [] [] [] := ⟨pps_nil⟩
theorem sps_cons {pos : Pos} {k v : Expr} {ks : List (Option Expr)} {vs : List Expr} {mk mv : Mx} {ms : List (Mx × Mx)} (hk : SE G an W X k mk) (hv : SE G an W X v mv) (h : SPs G an W X pos ks vs ms) : SPs G an W X pos (some k :: ks) (v :: vs) ((mk, mv) :: ms) := ⟨pps_cons hk hv h.run⟩
theorem sd_disp {k : Nat} {pos : Pos} {keys : List (Option Expr)} {values : List Expr} {ms : List (Mx × Mx)} (g : Gd G X W k) (h : SPs G an W X pos keys values ms) (hall : keys.all (·.isSome) = true := by rfl) (hl : keys.length = values.length := by rfl) (h0 : keys ≠ [] := by simp) (h15 : keys.length ≤ 15 := by decide) :
    SD G an W X (.Dict keys values pos) (mdDisp ms) := by
  have hu : X.A.units + 1 < cLine := by have := g.u64; omega
  refine PE.imp (pe_dispT hu h.run hall hl h0 h15) fun σ H Q ⟨env, w, S, hE, hS, q⟩ => fun p hp => ?_
  have ga := Grow.aside (o := .dT []) hS hp
  refine pairs_read ms (hE.mono ga) (hS.aside hp trivial) ?_
  unfold mdDisp at q
  cases hz : psGo ms env S with
  | bad => rw [hz] at q; exact q.elim
  | exc c d S1 =>
    rw [hz] at q
    exact fun w' H' cls dd g s x => (show ∀ w' H' cls dd, Grow w H w' H' → StoR G an w' S1 H' → ExR G w' H' c d cls dd → W cls dd σ H' from q) w' H' cls dd (ga.trans g) s x
  | ok z S1 =>
    rw [hz] at q
    intro w1 H1 g1 s1 ps kvs e1 e2 e3
    have q : Pst G an w H (if z.length ≤ 15 then .ok (foldE z ([], [])) S1 else .bad) _ _ := q
    split at q
    · rename_i hlen
      have hH : H1 p = some (.dT []) := g1.keep p _ upd_same (hS.out hp)
      have hx : p ∈ w1.xi := g1.xi p List.mem_cons_self
      have gr := ga.trans g1
      have gd := gr.del hp (hS.outx hp) hH
      have f := foldE_ok (kvs0 := []) (acc := ([], [])) e2 e3 rfl .nil
      have q2 := q _ _ gd (s1.del hH trivial hx (an.m _ _ _ _ gd hS.anc)) p (mergeT [] kvs) delH_same f.1 (f.2.del hH trivial hx)
      rw [upd_delO] at q2
      refine ⟨hH, kvs, e1, ?_, q2⟩
      have : kvs.length = z.length := by have := congrArg List.length e2; simpa using this
      omega
    · exact q.elim
end
end EV

set_option Elab.async false
set_option linter.all false
set_option maxRecDepth 100000
set_option maxHeartbeats 2000000
/-! EvF: a dict with tuple keys, walked by values and items. -/
namespace EV
open PySem PySem.Spec PyProof.Rows L2
section
variable {X : Cx} {pins : List (Addr × Obj)} {σ : L2.St} {H : Hp} {s : Shared} {d : Addr} {o : Obj}
theorem frzTV {kvs : List (List Key × V)} (I : Inv X pins σ H s) (h : H d = some (.frz o (.dT kvs))) :
    (d == sysModules) = false ∧ s.heap.get? d = some o ∧ o.ExactDict ∧ ∃ (es : Array DictEntry) (ep : Nat), o.data = .dict es ep ∧ es.size = kvs.length ∧ s.heap.DictRaw d es ep ∧ (∃ xs, s.heap.DictOfH (tupleKind (mixKind X.prog X.w)) d xs) ∧
      ∀ (i : Nat) (hi : i < es.size) (k : List Key) (v : V), kvs[i]? = some (k, v) → ∃ q : Addr, es[i].key = .ref q ∧ H q = some (.tup (k.map kV)) ∧ RelV v es[i].val := by
  obtain ⟨_, _, xs0, _, dd⟩ := dt_rd I.hok (.inr ⟨o, h⟩)
  obtain ⟨hd, z, hs, xs, pr, o', es, ep, ho, hx, hdt, he, _⟩ := I.hok d _ h
  rw [hd] at ho
  cases ho
  refine ⟨hs, hd, hx, es, ep, hdt, ?_, ⟨o, hd, hx, hdt⟩, ⟨xs0, dd⟩, fun i hi k v e => ?_⟩
  · have l1 : es.size = xs.length := size_of_entries he
    have l2 : kvs.length = xs.length := Paired.length pr
    omega
  · obtain ⟨b, hb, e1, e2, e3⟩ := paired_get pr e
    have q := entry_at he i
    rw [hb, Array.getElem?_eq_getElem hi] at q
    have q := Option.some.inj q
    exact ⟨b.2.1, by rw [q]; rfl, e2, by rw [q]; exact e3⟩
end
def ItdT (d : Addr) (o : Obj) (kvs : List (List Key × V)) : It :=
  ⟨fun i H => H d = some (.frz o (.dT kvs)) ∧ i < kvs.length, fun i H x H' => H' = H ∧ ∃ k, kvs[i]? = some (k, x), fun i H => H d = some (.frz o (.dT kvs)) ∧ kvs.length ≤ i⟩
def ItiT (d : Addr) (o : Obj) (kvs : List (List Key × V)) : It :=
  ⟨fun i H => H d = some (.frz o (.dT kvs)) ∧ i < kvs.length, fun i H x H' => ∃ T q k v, kvs[i]? = some (k, v) ∧ x = .ref T ∧ H q = some (.tup (k.map kV)) ∧ H T = none ∧ H' = upd H T (.tup [.ref q, v]), fun i H => H d = some (.frz o (.dT kvs)) ∧ kvs.length ≤ i⟩
section
variable {P : Program} {w : World} {K : PySem.W.Frag} {tg : Expr} {d : Addr} {o : Obj} {es : Array DictEntry} {ep : Nat}
theorem turn_valsT {kvs : List (List Key × V)} (it : Addr) (hod : o.data = .dict es ep) : Turn P w K tg (ItdT d o kvs) [it] it (fun i h => h.IsValIter it d i kvs.length ep) where
  mem := by simp
  obj := fun i h st b hb => by
    have e : b = it := by simpa using hb
    subst e
    obtain ⟨oi, e, c, dd⟩ := st
    exact ⟨oi, e, fun v z => by rw [dd] at z; cases z⟩
  keep := fun i h h' st k => st.at fun oi e => k it (by simp) oi e
  item := by
    intro X hP hw hK hc i pins s σ H E I hf st hg
    subst hP hw hK
    obtain ⟨hd, hi⟩ := hg
    obtain ⟨f0, f1, f2, f3, f4, f5⟩ := hf it (by simp)
    obtain ⟨hs, hgd, hx, es', ep', hdt, hsz, raw, _, ent⟩ := frzTV I hd
    obtain ⟨rfl, rfl⟩ := dict_ep hod hdt
    obtain ⟨⟨k, v⟩, hkv⟩ : ∃ p, kvs[i]? = some p := ⟨kvs[i], List.getElem?_eq_getElem hi⟩
    obtain ⟨q, e1, e2, rv⟩ := ent i (by omega) k v hkv
    rw [← hsz] at st
    refine wpAny_pyNext_values_item_raw st raw (by omega) fun h' st' sb => ?_
    have I1 : Inv X pins σ H { s with heap := h' } := I.turned (t' := s.toks) (fun b ob hb e => (sb.2 b hb).trans e) f0 f1 f3 f4 f5
    obtain ⟨oi, e, c, dd⟩ := id st'
    refine ⟨_, rfl, go_of (s := { s with heap := h' }) e c dd (by decide) ⟨v, H, I1, rv, ⟨rfl, k, hkv⟩, ?_, fun b hb => (hf b hb).1⟩⟩
    show h'.IsValIter it d (i + 1) kvs.length _
    rw [← hsz]
    exact st'
  done := by
    intro X hP hw hK hc i pins s σ H E I hf st hg
    subst hP hw hK
    obtain ⟨hd, hi⟩ := hg
    obtain ⟨f0, f1, f2, f3, f4, f5⟩ := hf it (by simp)
    obtain ⟨hs, hgd, hx, es', ep', hdt, hsz, raw, _, ent⟩ := frzTV I hd
    obtain ⟨rfl, rfl⟩ := dict_ep hod hdt
    rw [← hsz] at st
    exact wpAny_pyNext_values_end_raw (I.ok.hd hc) st raw (by omega) fun h' eb => ⟨rfl, I.turned (t' := s.toks) (fun b ob hb e => eb b ob hb e) f0 f1 f3 f4 f5⟩
  self := fun A i s Q E st h => wpAny_pyIter_valiter st h
theorem turn_itemsT {kvs : List (List Key × V)} {elts : List Expr} {kk : Nat} {tpos : Pos} (it : Addr) (hod : o.data = .dict es ep) :
    Turn P w K (.Tuple elts kk tpos) (ItiT d o kvs) [it] it (fun i h => ∃ ok ov, IsItemIter h it d i kvs.length ep ok ov) where
  mem := by simp
  obj := fun i h st b hb => by
    have e : b = it := by simpa using hb
    subst e
    obtain ⟨ok, ov, e⟩ := st
    exact ⟨_, e, fun v z => nomatch z⟩
  keep := fun i h h' st k => let ⟨ok, ov, e⟩ := st; ⟨ok, ov, k it (by simp) _ e⟩
  item := by
    intro X hP hw hK hc i pins s σ H E I hf st hg
    subst hP hw hK
    obtain ⟨hd, hi⟩ := hg
    obtain ⟨hs, hgd, hx, es', ep', hdt, hsz, raw, _, ent⟩ := frzTV I hd
    obtain ⟨rfl, rfl⟩ := dict_ep hod hdt
    obtain ⟨⟨k, v⟩, hkv⟩ : ∃ p, kvs[i]? = some p := ⟨kvs[i], List.getElem?_eq_getElem hi⟩
    obtain ⟨q, e1, e2, rv⟩ := ent i (by omega) k v hkv
    obtain ⟨ok, ov, he⟩ := st
    rw [← hsz] at he
    have hlt : it < s.heap.objs.size := Heap.lt_size he
    refine wpAny_pyNext_items_item_raw he raw (by omega) fun h' ho hT hz hk => ?_
    refine ⟨_, rfl, wpAny_letOwnedTupleGo_items (s := { s with heap := h' }) ho fun h'' he' sb => ?_⟩
    have hT2 := (sb.2 _ (Nat.ne_of_gt hlt)).trans hT
    have rk : RelV (V.ref q) (es'[i]'(by omega)).key := by rw [e1]; rfl
    have new : ObjOk X.prog X.w (upd H s.heap.objs.size (.tup [.ref q, v])) h'' s.heap.objs.size (.tup [.ref q, v]) :=
      ⟨by show 2 ≤ sizeLine; decide, _, .cons rk (.cons rv .nil), ⟨_, hT2, rfl, _, rfl⟩⟩
    have I1 : Inv X pins σ (upd H s.heap.objs.size (.tup [.ref q, v])) { s with heap := h'' } :=
      I.turnedNew (t' := s.toks) (ch := [it]) (fun b ob hb e => (sb.2 b (by simpa using hb)).trans (hk b ob (by simpa using hb) e)) hf (Nat.le_refl _) new
    refine ⟨.ref s.heap.objs.size, _, I1, rfl, ⟨_, q, k, v, hkv, rfl, e2, I.hok.fresh (Nat.le_refl _), rfl⟩, ⟨(es'[i]'(by omega)).key, (es'[i]'(by omega)).val, ?_⟩, fun b hb => ?_⟩
    · rw [← hsz]; exact he'
    · have e : b = it := by simpa using hb
      rw [e, upd_ne (Nat.ne_of_lt hlt)]
      exact (hf it (by simp)).1
  done := by
    intro X hP hw hK hc i pins s σ H E I hf st hg
    subst hP hw hK
    obtain ⟨hd, hi⟩ := hg
    obtain ⟨f0, f1, f2, f3, f4, f5⟩ := hf it (by simp)
    obtain ⟨hs, hgd, hx, es', ep', hdt, hsz, raw, _, ent⟩ := frzTV I hd
    obtain ⟨rfl, rfl⟩ := dict_ep hod hdt
    obtain ⟨ok, ov, he⟩ := st
    rw [← hsz] at he
    exact wpAny_pyNext_items_end_raw (I.ok.hd hc) he raw (by omega) fun h' eb => ⟨rfl, I.turned (t' := s.toks) (fun b ob hb e => eb b ob hb e) f0 f1 f3 f4 f5⟩
  self := fun A i s Q E st h => let ⟨_, _, e⟩ := st; PySem.W.kcp_self e h
end
def iValsT (td : TE) : TI := fun σ H R => td σ H fun x H1 => ∃ d o kvs, x = .ref d ∧ H1 d = some (.frz o (.dT kvs)) ∧ R (ItdT d o kvs) H1
def iItemsT (td : TE) : TI := fun σ H R => td σ H fun x H1 => ∃ d o kvs, x = .ref d ∧ H1 d = some (.frz o (.dT kvs)) ∧ R (ItiT d o kvs) H1
section
variable {X : Cx} {tg e : Expr} {td : TE} {apos cpos : Pos}
theorem pi_valuesT (he : PE X e td) (hbase : attributeBase e "values" X.env (eval e X.env) = eval e X.env := by rfl) (hline : (apos.endLine == cpos.line) = true := by rfl) : PI X tg (.Call (.Attribute e "values" apos) [] [] cpos) (iValsT td) := by
  refine ⟨fun pins s σ H R I h => ?_⟩
  refine wpAny_Call_method (T := "dict") (id := "dict.values") hbase rfl hline F.plainAttrs_dict F.slot_dict_values F.type_dict_values (thn (he.run pins s σ H _ I h) fun u s1 ⟨x, H1, I1, rx, d, o, kvs, ex, hd, q⟩ => ?_)
  subst ex
  obtain rfl : u = Value.ref d := rx
  obtain ⟨hs, hgd, hx, es, ep, hdt, hsz, raw, ⟨xs, dd⟩, ent⟩ := frzTV I1 hd
  refine ⟨raw.typeIs, fun b q => ?_, ?_⟩
  · cases q
    exact ⟨o, hgd, hx.2.1⟩
  have I2 : Inv X pins σ H1 { s1 with heap := s1.heap.push { cls := .type "dict_values", data := .fields #[.ref d] } } := I1.kept (t' := s1.toks) fun b ob q => Heap.get?_push_of_some _ q
  have fin : wpAny (model X.prog X.w) X.A (pyIter (.ref s1.heap.objs.size)) (PIE X pins σ tg R) X.xe { s1 with heap := s1.heap.push { cls := .type "dict_values", data := .fields #[.ref d] } } := by
    refine wpAny_pyIter_values_raw (d := d) ⟨_, Heap.get?_push_size _ rfl, rfl, rfl⟩ (raw.at fun o e => Heap.get?_push_of_some _ e) (pi_one (tk := s1.toks) I2 _ (turn_valsT _ hdt) ⟨_, Heap.get?_push_size _ rfl, rfl, ?_⟩ q)
    rw [hsz] <;> rfl
  show wpAny _ _ (callWith cpos (.builtin "dict.values") [.ref d] [] []) _ X.xe s1
  exact method_meetsIn F.slot_dict_values F.entry_dict_values rfl (PySem.evalArgs_none ⟨rfl, raw.typeIs, F.args_dict_values_1 _, _, meets_dict_values_raw d hs, ⟨es, ep, raw⟩, fin⟩)
theorem pi_itemsT {elts : List Expr} {kk : Nat} {tpos : Pos} (he : PE X e td) (hbase : attributeBase e "items" X.env (eval e X.env) = eval e X.env := by rfl) (hline : (apos.endLine == cpos.line) = true := by rfl) :
    PI X (.Tuple elts kk tpos) (.Call (.Attribute e "items" apos) [] [] cpos) (iItemsT td) := by
  refine ⟨fun pins s σ H R I h => ?_⟩
  refine wpAny_Call_method (T := "dict") (id := "dict.items") hbase rfl hline F.plainAttrs_dict F.slot_dict_items F.type_dict_items (thn (he.run pins s σ H _ I h) fun u s1 ⟨x, H1, I1, rx, d, o, kvs, ex, hd, q⟩ => ?_)
  subst ex
  obtain rfl : u = Value.ref d := rx
  obtain ⟨hs, hgd, hx, es, ep, hdt, hsz, raw, ⟨xs, dd⟩, ent⟩ := frzTV I1 hd
  refine ⟨raw.typeIs, fun b q => ?_, ?_⟩
  · cases q
    exact ⟨o, hgd, hx.2.1⟩
  have I2 : Inv X pins σ H1 { s1 with heap := s1.heap.push { cls := .type "dict_items", data := .fields #[.ref d] } } := I1.kept (t' := s1.toks) fun b ob q => Heap.get?_push_of_some _ q
  have fin : wpAny (model X.prog X.w) X.A (pyIter (.ref s1.heap.objs.size)) (PIE X pins σ (.Tuple elts kk tpos) R) X.xe { s1 with heap := s1.heap.push { cls := .type "dict_items", data := .fields #[.ref d] } } := by
    refine wpAny_pyIter_items_raw (d := d) ⟨_, Heap.get?_push_size _ rfl, rfl, rfl⟩ (raw.at fun o e => Heap.get?_push_of_some _ e) (pi_one (tk := s1.toks) I2 _ (turn_itemsT _ hdt) ⟨.none, .none, ?_⟩ q)
    rw [← hsz]
    exact Heap.get?_push_size _ rfl
  show wpAny _ _ (callWith cpos (.builtin "dict.items") [.ref d] [] []) _ X.xe s1
  exact method_meetsIn F.slot_dict_items F.entry_dict_items rfl (PySem.evalArgs_none ⟨rfl, raw.typeIs, F.args_dict_items_1 _, _, meets_dict_items_raw d hs, ⟨es, ep, raw⟩, fin⟩)
end
end EV

set_option Elab.async false
set_option linter.all false
set_option maxRecDepth 100000
set_option maxHeartbeats 4000000
/-! EvSA: sorted(xs), sorted(d): any tuples of ints. -/
namespace TI
open PySem PySem.W PySem.Calls PyProof.Rows Builtin
section
variable {prog : Program} {w : World} {A : Around} {E : Value → Shared → Prop} {s : Shared}
theorem lex_kat {b fin : Bool} {Q : Bool → Shared → Prop} : ∀ {xs ys : List Value} {ns ms : List Int} (i : Nat), IntsAre xs ns → IntsAre ys ms → fin = decide (xs.length < ys.length) → Q (HT.lexLt ns ms) s → KatLex prog w A b fin Q (xs.zip ys) i s
  | [], ys, _, ms, i, .nil, hy, e, h => by
    subst e
    refine kat_nil ?_
    cases hy with
    | nil => exact h
    | cons c u hw => exact h
  | _ :: _, [], _, _, i, .cons a t hx, .nil, e, h => by
    subst e
    exact kat_nil (by rw [HT.lexLt_cons_nil] at h; exact h)
  | _ :: xs, _ :: ys, _, _, i, .cons a t hx, .cons c u hy, e, h => by
    rw [List.zip_cons_cons]
    rw [HT.lexLt_cons] at h
    refine kat_cons (SeqAt.EqAt.int_int a t c u prog w _ _ ?_)
    refine kat_go (fun e1 => ?_) (fun e1 => ?_)
    · have ex : a = c := by simpa using e1
      rw [if_pos ex] at h
      refine kat_yes (lex_kat (i + 1) hx hy ?_ h)
      rw [e]
      simp
    · have ex : ¬ a = c := by simpa using e1
      rw [if_neg ex] at h
      exact kat_no (TS.oneLt_ints _ h)
theorem lt_tupsT {v u : Value} {ns ms : List Int} {b : Bool} {Q : Bool → Shared → Prop} (hv : TS.TupInts s.heap v ns) (hw : TS.TupInts s.heap u ms) (h : Q (HT.lexLt ns ms) s) : wpAny (model prog w) A (keyLt' (tuples' b) v u) Q E s := by
  obtain ⟨a, its, rfl, ⟨o, ho, hc, n, hd⟩, ia⟩ := hv
  obtain ⟨c, its2, rfl, ⟨o2, ho2, hc2, n2, hd2⟩, ib⟩ := hw
  exact kat_lt ho hd ho2 hd2 (lex_kat 0 ia ib (by simp) h)
theorem lt_tupsG {v u : Value} {ns ms : List Int} {Q : Bool → Shared → Prop} (hu : A.units < cLine) (hv : TS.TupInts s.heap v ns) (hw : TS.TupInts s.heap u ms) (h : Q (HT.lexLt ns ms) s) : wpAny (model prog w) A (keyLt' general' v u) Q E s := by
  obtain ⟨a, its, rfl, ta, ia⟩ := hv
  obtain ⟨c, its2, rfl, tb, ib⟩ := hw
  show wpAny (model prog w) A (oneLt' false (.ref a) (.ref c)) Q E s
  exact kat_one _ _ (HT.lt_tupInts ta tb ia ib hu h)
variable {M : Model}
/-- the first of each -/
def fstO (v : Value) (o : Option Value) (ns : List Int) : Prop := (ns = [] → o = none) ∧ (ns ≠ [] → ∃ i t, o = some (Value.int i t))
theorem firstK {v : Value} {ns : List Int} (h : TS.TupInts s.heap v ns) {Q : Option Value → Shared → Prop} (q : ∀ o, fstO v o ns → Q o s) : wpAny M A (firstOfTuple' v) Q E s := by
  have ty := ty_tup (M := M) h
  obtain ⟨a, its, rfl, ⟨o, ho, hc, n, hd⟩, ia⟩ := h
  rw [kas_first_eq]
  refine wpAny_bind <| ty.here ?_
  rw [if_neg (by first | decide | simp)]
  refine wpAny_bind <| listItems_at ho hd <| wpAny_pure ?_
  refine q _ ⟨fun e => ?_, fun e => ?_⟩
  · subst e
    have e : its = #[] := by
      have := ia.length
      simpa using this
    rw [e]
    rfl
  · obtain ⟨l, el⟩ : ∃ l, its.toList = l := ⟨_, rfl⟩
    rw [el] at ia
    cases ia with
    | nil => exact absurd rfl e
    | @cons i t vs ms r =>
      refine ⟨i, t, ?_⟩
      rw [← Array.getElem?_toList, el]
      rfl
inductive FstL (k : Value → List Int) : List Value → List (Option Value) → Prop
  | nil : FstL k [] []
  | cons {v : Value} {o : Option Value} {vs : List Value} {os : List (Option Value)} (h : fstO v o (k v)) (t : FstL k vs os) : FstL k (v :: vs) (o :: os)
theorem firstsK {k : Value → List Int} : ∀ (vs : List Value) {Q : List (Option Value) → Shared → Prop}, (∀ v ∈ vs, TS.TupInts s.heap v (k v)) → (∀ os, FstL k vs os → Q os s) → wpAny M A (vs.mapM firstOfTuple') Q E s
  | [], _, _, h => by rw [List.mapM_nil]; exact wpAny_pure (h _ .nil)
  | v :: vs, Q, hv, h => by
    rw [List.mapM_cons]
    exact wpAny_bind <| firstK (hv v List.mem_cons_self) fun o ho => wpAny_bind <| firstsK vs (fun v m => hv v (List.mem_cons_of_mem _ m)) fun os hos => wpAny_pure (h _ (.cons ho hos))
theorem FstL.all {k : Value → List Int} : ∀ {vs : List Value} {os : List (Option Value)}, FstL k vs os → os.all (·.isSome) = vs.all fun v => !(k v).isEmpty
  | _, _, .nil => rfl
  | _, _, .cons (v := v) (o := o) h t => by
    rw [List.all_cons, List.all_cons, FstL.all t]
    cases e : k v with
    | nil => rw [h.1 e]; rfl
    | cons a r =>
      obtain ⟨i, t, eo⟩ := h.2 (by rw [e]; simp)
      rw [eo]; rfl
theorem firsts_of {k : Value → List Int} : ∀ {vs : List Value}, (∀ v ∈ vs, TS.TupInts s.heap v (k v)) → (∀ v ∈ vs, k v ≠ []) → ∃ fs, KatTups s.heap vs fs ∧ fs.length = vs.length ∧ ∀ f ∈ fs, ∃ i t, f = Value.int i t
  | [], _, _ => ⟨[], .nil, rfl, fun f m => by simp at m⟩
  | v :: vs, hv, hn => by
    obtain ⟨fs, h1, h2, h3⟩ := firsts_of (fun u m => hv u (List.mem_cons_of_mem _ m)) fun u m => hn u (List.mem_cons_of_mem _ m)
    obtain ⟨a, its, e, ⟨o, ho, hc, n, hd⟩, ia⟩ := hv v List.mem_cons_self
    have ne := hn v List.mem_cons_self
    obtain ⟨l, el⟩ : ∃ l, its.toList = l := ⟨_, rfl⟩
    obtain ⟨ms, em⟩ : ∃ ms, k v = ms := ⟨_, rfl⟩
    rw [el, em] at ia
    rw [em] at ne
    subst e
    cases ia with
    | nil => exact absurd rfl ne
    | @cons i t vs2 ms r =>
      refine ⟨Value.int i t :: fs, .cons ho hc hd (by rw [← Array.getElem?_toList, el]; rfl) h1, by simp [h2], fun f m => ?_⟩
      rcases List.mem_cons.mp m with e | m
      · exact ⟨i, t, e⟩
      · exact h3 f m
def hdNe (k : Value → List Int) : List Value → Bool
  | v :: _ => !(k v).isEmpty
  | [] => false
/-- how list.sort compares them -/
def kindT (k : Value → List Int) (vs : List Value) : SortKind :=
  if (vs.all fun v => !(k v).isEmpty) = true then tuples' true else if hdNe k vs = true then general' else oneType'
theorem kindK {k : Value → List Int} {vs : List Value} {Q : SortKind → Shared → Prop} (h0 : vs ≠ []) (hv : ∀ v ∈ vs, TS.TupInts s.heap v (k v)) (h : Q (kindT k vs) s) : wpAny M A (keyKind' vs.toArray) Q E s := by
  unfold kindT at h
  by_cases ha : (vs.all fun v => !(k v).isEmpty) = true
  · rw [if_pos ha] at h
    obtain ⟨fs, h1, h2, h3⟩ := firsts_of hv fun v m => by
      have := List.all_eq_true.mp ha v m
      intro e
      rw [e] at this
      exact absurd this (by simp)
    have hl : 0 < fs.length := by rw [h2]; exact List.length_pos_iff.mpr h0
    refine kat_kind (T := .type "int") h1 hl (fun f hm => ?_) (by rfl) ?_
    · obtain ⟨x, t, rfl⟩ := h3 f hm
      exact PySem.W.Looks.now
    · have e : (Value.type "int" != Value.type "tuple") = true := by first | decide +kernel | rfl | decide
      rw [e]
      exact h
  · rw [if_neg ha] at h
    obtain ⟨v1, vr, rfl⟩ : ∃ v1 vr, vs = v1 :: vr := by
      cases vs with
      | nil => exact absurd rfl h0
      | cons a b => exact ⟨a, b, rfl⟩
    rw [keyKind'_eq, List.mapM_toArray, map_eq_pure_bind]
    refine wpAny_bind <| wpAny_bind <| firstsK (v1 :: vr) hv fun os hos => wpAny_pure ?_
    have ea : os.toArray.all (fun x => x.isSome) = false := by
      rw [List.all_toArray, hos.all]
      exact Bool.eq_false_iff.mpr ha
    rw [if_neg (by rw [ea]; simp)]
    cases hos with
    | @cons _ o _ os h1 ht =>
      have e0 : ((o :: os).toArray[0]?.bind id) = o := by simp
      rw [e0]
      cases ek : k v1 with
      | cons a r =>
        obtain ⟨i, t, eo⟩ := h1.2 (by rw [ek]; simp)
        rw [eo, if_pos (by rfl)]
        have eh : hdNe k (v1 :: vr) = true := by show (!(k v1).isEmpty) = true; rw [ek]; rfl
        rw [if_pos eh] at h
        exact wpAny_pure h
      | nil =>
        rw [h1.1 ek, if_neg (by simp)]
        have eh : ¬ hdNe k (v1 :: vr) = true := by
          show ¬ (!(k v1).isEmpty) = true
          rw [ek]; simp
        rw [if_neg eh] at h
        rw [oneTypeOnly'_eq, List.mapM_toArray, map_eq_pure_bind]
        refine wpAny_bind <| wpAny_bind <| wpAny_bind <| kas_mapM (r := .type "tuple") _ (fun v m Q' hq => (ty_tup (hv v m)).here hq) <| wpAny_pure ?_
        have e2 : ((List.map (fun _ => Value.type "tuple") (v1 :: vr)).toArray.all fun x => x == Value.type "tuple") = true := by
          simp
        have e1 : (List.map (fun _ => Value.type "tuple") (v1 :: vr)).toArray[0]? = some (Value.type "tuple") := by simp
        rw [e1]
        dsimp only
        rw [if_pos e2]
        exact wpAny_pure <| wpAny_pure h
theorem cmpK {k : Value → List Int} {vs : List Value} (hu : A.units < cLine) (hv : ∀ v ∈ vs, TS.TupInts s.heap v (k v)) : SrtO.Cmp prog w A s (kindT k vs) (fun p => p.1 ∈ vs) (SrtO.lt2 fun v u => HT.lexLt (k v) (k u)) := by
  intro p q hp hq
  unfold kindT
  split
  · exact lt_tupsT (Q := fun r s' => s' = s ∧ r = HT.lexLt (k p.1) (k q.1)) (E := fun _ _ => False) (hv p.1 hp) (hv q.1 hq) ⟨rfl, rfl⟩
  · split
    · exact lt_tupsG (Q := fun r s' => s' = s ∧ r = HT.lexLt (k p.1) (k q.1)) (E := fun _ _ => False) hu (hv p.1 hp) (hv q.1 hq) ⟨rfl, rfl⟩
    · exact lt_tups (Q := fun r s' => s' = s ∧ r = HT.lexLt (k p.1) (k q.1)) (E := fun _ _ => False) hu (hv p.1 hp) (hv q.1 hq) ⟨rfl, rfl⟩
theorem sortableK {a : Addr} {vs : List Value} {k : Value → List Int} (hu : A.units < cLine) (h0 : vs ≠ []) (hv : ∀ v ∈ vs, TS.TupInts s.heap v (k v)) (ha : ∀ v ∈ vs, v ≠ .ref a) :
    SrtO.SortableO prog w A s a vs fun v u => HT.lexLt (k v) (k u) := by
  intro h' keep
  have hv' : ∀ v ∈ vs, TS.TupInts h' v (k v) := fun v hm => by
    obtain ⟨b, its, e, ht, ia⟩ := hv v hm
    obtain ⟨o, ho, r⟩ := ht
    exact ⟨b, its, e, ⟨o, keep b o (fun z => ha v hm (by rw [e, z])) ho, r⟩, ia⟩
  exact ⟨kindT k vs, fun Q E hq => kindK (s := { s with heap := h' }) h0 hv' hq, cmpK (s := { s with heap := h' }) hu hv'⟩
end
end TI

set_option Elab.async false
set_option linter.all false
set_option maxRecDepth 100000
set_option maxHeartbeats 4000000
/-! EvSB: sorted(xs), sorted(d) as rules. -/
namespace TI
open PySem PySem.W PySem.Calls PyProof.Rows Builtin SrtO
section
variable {prog : Program} {w : World} {A : Around} {E : Value → Shared → Prop} {s : Shared}
/-- what a walk tells, taken as a list: the new list stands behind all that was -/
theorem took {T : String} {r d : Addr} {n : Nat} {P : Nat → Value → Prop} {OK : Heap → Prop} {R : List Value → Shared → Prop} (K : KdlSrc prog w T r d n P OK) (hh : A.handled = none) (hok : OK s.heap) (hn : n ≤ sizeLine)
    (fin : ∀ (g : Heap) (tk : Nat) (acc : Array Value), (∀ b o, s.heap.get? b = some o → g.get? b = some o) → s.heap.objs.size ≤ g.objs.size → ItemsOf P acc n → R acc.toList { s with heap := g, toks := tk }) : wpAny (model prog w) A (collect (.ref r)) R E s := by
  obtain ⟨lr, ld⟩ := K.there _ hok
  obtain ⟨L, eL⟩ : ∃ L, L = s.heap.objs.size := ⟨_, rfl⟩
  obtain ⟨s1, e1⟩ : ∃ s1 : Shared, s1 = { s with heap := s.heap.push { cls := .type "list", data := .seq ([] : List Value).toArray } } := ⟨_, rfl⟩
  have at1 : s1.heap.get? L = some { cls := .type "list", data := .seq #[] } := by rw [e1, eL]; exact Heap.get?_push_size _ rfl
  have old1 : ∀ b o, s.heap.get? b = some o → s1.heap.get? b = some o := fun b o e => by rw [e1]; exact Heap.get?_push_of_some _ e
  let G : Result → Shared → Prop := fun q s' => ∃ (g : Heap) (tk c : Nat) (acc : Array Value), q = .ok (.ret (.ref L)) ∧ s' = { s with heap := g, toks := tk } ∧ (∀ b o, s.heap.get? b = some o → g.get? b = some o) ∧ g.get? L = some { cls := .type "list", dict := none, data := .seq acc c, slots := #[] } ∧ ItemsOf P acc n
  have go := kdl_extend (A := A) (s := s1) (R := G) K hh (K.keep _ _ hok fun b _ o e => old1 b o e) L (by rw [eL]; exact Nat.ne_of_gt lr) (by rw [eL]; exact Nat.ne_of_gt ld) (.ref L) 0 at1
    (fun g tk acc c k at2 it => ⟨g, tk, c, acc, rfl, by rw [e1], fun b o e => k b o (by rw [eL]; exact Nat.ne_of_lt (Heap.lt_size e)) (old1 b o e), at2, it⟩) hn
  have last : ∀ {q : Result} {s' : Shared} {Z : List Value → Shared → Prop}, G q s' → (∀ xs t, R xs t → Z xs t) → q = .ok (.ret (.ref L)) ∧ ∃ (c : Nat) (acc : Array Value), s'.heap.get? L = some { cls := .type "list", dict := none, data := .seq acc c, slots := #[] } ∧ Z acc.toList s' := by
    rintro q s' Z ⟨g, tk, c, acc, e, rfl, k, at2, it⟩ z
    exact ⟨e, c, acc, at2, z _ _ (fin g tk acc k (by have z1 : L < g.objs.size := Heap.lt_size at2; rw [eL] at z1; exact Nat.le_of_lt z1) it)⟩
  unfold collect
  refine wpAny_bind (wpAny_runValue (codeAny_builtin entry_proto_collect' ?_))
  rw [Around.under_plainId PySem.F.plain_proto_collect _]
  refine wpAny_bind (wpAny_newObj_type ?_)
  refine wpAny_pure ⟨plainId_quiet PySem.F.plain_list_iadd _, codeAny_builtin entry_list_iadd' ?_⟩
  rw [Around.under_plainId PySem.F.plain_list_iadd _]
  rw [e1] at go
  subst eL
  refine wpAny_mono go (fun f s' x => ?_) fun e s' x => ?_
  · cases f with
    | done f =>
      obtain ⟨e, c, acc, at2, z⟩ := last x fun _ _ z => z
      cases e
      exact wpAny_bind (wpAny_load at2 (wpAny_pure z))
    | again c₁ =>
      refine ⟨x.1, codeAny_mono x.2 fun q s₂ y => ?_⟩
      obtain ⟨e, c, acc, at2, z⟩ := last y fun _ _ z => z
      cases e
      exact wpAny_bind (wpAny_load at2 (wpAny_pure z))
  · obtain ⟨_, _, _, _, e', _⟩ := x
    cases e'
theorem sorted_src {T : String} {r d : Addr} {n : Nat} {P : Nat → Value → Prop} {OK : Heap → Prop} {ltv : Value → Value → Bool} {vs : List Value} {Q : Value → Shared → Prop} (K : KdlSrc prog w T r d n P OK) (hh : A.handled = none) (hok : OK s.heap) (hn : n ≤ sizeLine) (O : Swo ltv)
    (hvs : ∀ acc : Array Value, ItemsOf P acc n → acc.toList = vs) (hz : vs.length ≤ sizeLine)
    (hS : 2 ≤ vs.length → ∀ (h₁ : Heap) (a : Addr) (tk : Nat), h₁.get? a = some (seqObj "list" vs.toArray 0) → (∀ b o, s.heap.get? b = some o → b ≠ a ∧ h₁.get? b = some o) → SortableO prog w A.in1.in1 { s with heap := h₁, toks := tk } a vs ltv)
    (h : ∀ (p : Addr) (out : List Value) (h' : Heap) (tk : Nat), Srtd ltv out → Stb ltv out vs → (∀ b o, s.heap.get? b = some o → h'.get? b = some o) → s.heap.objs.size ≤ p → (∃ c, h'.get? p = some (seqObj "list" out.toArray c)) → Q (.ref p) { s with heap := h', toks := tk }) :
    wpAny (model prog w) A (call (.builtin "sorted") [.ref r]) Q E s := by
  refine Calls.call_function_entry kind_sorted plain_sorted entry_sorted (args_sorted1 _) ?_
  unfold Builtin.«sorted»
  refine wpAny_bind (m := checkCount "sorted" 1 1 _) (wpAny_pure ?_)
  refine wpAny_bind (took (A := A.in1) K hh hok hn fun h' tk acc keep big items => ?_)
  rw [hvs acc items]
  refine wpAny_bind (wpAny_newList ?_ hz)
  have hoL : (h'.push (seqObj "list" vs.toArray 0)).get? h'.objs.size = some (seqObj "list" vs.toArray 0) := Heap.get?_push_size _ rfl
  have keep2 : ∀ b o, s.heap.get? b = some o → b ≠ h'.objs.size ∧ (h'.push (seqObj "list" vs.toArray 0)).get? b = some o := fun b o e => by
    have q := keep b o e
    exact ⟨Nat.ne_of_lt (Heap.lt_size q), Heap.get?_push_of_some _ q⟩
  refine wpAny_bind (wpAny_holding (wpAny_call_entry slot_list_sort ⟨_, hoL, rfl⟩ entry_list_sort (list_sort_ord O hoL hz (fun h2 => hS h2 _ _ tk hoL keep2) fun out hs hb => ⟨_, rfl, ?_⟩) (args_list_sort _)))
  obtain ⟨c, hc⟩ := sortedHeap_at (vs := vs) (out := out.toArray) hoL
  refine wpAny_pure ⟨_, rfl, h h'.objs.size out _ tk hs hb (fun b o e => ?_) ?_ ⟨c, hc⟩⟩
  · obtain ⟨n1, n2⟩ := keep2 b o e
    show (sortedHeap (h'.push (seqObj "list" vs.toArray 0)) h'.objs.size vs out.toArray).get? b = some o
    rw [sortedHeap_old n1 (Heap.lt_size n2)]
    exact n2
  · exact big
end
end TI

namespace L2
open PySem PySem.Spec PyProof.Rows
def rSortTK (K : PySem.W.Frag) : List V → Hp → VK → Prop := fun vs H Q => ∃ (a : Addr) (xs : List V) (nss : List (List Int)), vs = [V.ref a] ∧ SqL K H a xs ∧ TupL K H xs nss ∧
  ∀ (ys : List V) (p : Addr), TupL K H ys (sortL nss) → H p = none → Q (.ref p) (upd H p (.lst ys))
/-- sorted(d), the keys tuples of ints -/
def rSortTD (K : PySem.W.Frag) : List V → Hp → VK → Prop := fun vs H Q => ∃ (d : Addr) (kvs : List (List Key × V)) (nss : List (List Int)), vs = [V.ref d] ∧ Rd H d (.dT kvs) ∧ kvs.map (·.1) = nss.map (·.map Sum.inl) ∧
  ∀ (ys : List V) (p : Addr), TupL K H ys (sortL nss) → H p = none → Q (.ref p) (upd H p (.lst ys))
section
variable {X : Cx}
/-- what stands in order behind list.sort, told by the items' numbers -/
theorem srt_out {pins : List (Addr × Obj)} {σ : St} {H : Hp} {s : Shared} {us out : List Value} {nss : List (List Int)} (e1 : us.map (kvOf s.heap) = nss) (e2 : ∀ u ∈ us, TS.TupInts s.heap u (kvOf s.heap u) ∧ (∃ t, u = Value.ref t) ∧ TupJ H (bkV u) (kvOf s.heap u))
    (h1 : SrtO.Srtd (fun v u => HT.lexLt (kvOf s.heap v) (kvOf s.heap u)) out) (h2 : SrtO.Stb (fun v u => HT.lexLt (kvOf s.heap v) (kvOf s.heap u)) out us) : TupL X.K H (out.map bkV) (sortL nss) ∧ (∀ v ∈ out, ∃ t, v = Value.ref t) ∧ out.length = us.length := by
  have mo : ∀ v ∈ out, v ∈ us := fun v m => h2.perm.mem_iff.mp m
  have hr : ∀ v ∈ out, ∃ t, v = Value.ref t := fun v m => (e2 v (mo v m)).2.1
  have eo : out.map (kvOf s.heap) = sortL nss := by
    refine ps_eq lex_anti ?_ (List.pairwise_map.mpr (h1.imp fun {x y} z => z)) sortL_pw
    have p1 := h2.perm.map (kvOf s.heap)
    rw [e1] at p1
    exact p1.trans sortL_perm.symm
  have tl : ∀ l : List Value, (∀ v ∈ l, v ∈ us) → TupL X.K H (l.map bkV) (l.map (kvOf s.heap)) := by
    intro l
    induction l with
    | nil => exact fun _ => .nil
    | cons v l ih => exact fun m => .cons (e2 v (m v List.mem_cons_self)).2.2 (ih fun u hu => m u (List.mem_cons_of_mem _ hu))
  have tl := tl out mo
  rw [eo] at tl
  exact ⟨tl, hr, h2.perm.length_eq⟩
theorem cr_sortTK (hu : X.A.units + 64 < cLine) : CallR X (.builtin "sorted") (rSortTK X.K) := by
  intro pins s σ H vs us Q I r h
  obtain ⟨a, xs, nss, rfl, hs, ht, q⟩ := h
  obtain ⟨its, rv, hl, hz⟩ := I.list hs
  rw [Vals.ref1 r]
  obtain ⟨e1, e2⟩ := tupL_raw I rv ht
  refine SrtO.sorted_ord (NtL.swo_lexL (kvOf s.heap)) hl.isList (by rw [← rv.length]; exact hz) (fun h2 h₁ a' _ keep => ?_) fun out h1 h2 => ?_
  · refine TI.sortableK (by have e : X.A.in1.in1.units = X.A.units + 1 + 1 := rfl; omega) (fun e => by rw [e] at h2; simp at h2) (fun v m => ?_) (fun v m => ?_)
    · obtain ⟨b, its, e, ⟨o, ho, r⟩, ia⟩ := (e2 v m).1
      exact ⟨b, its, e, ⟨o, (keep b o ho).2, r⟩, ia⟩
    · obtain ⟨b, its, e, ⟨o, ho, r⟩, ia⟩ := (e2 v m).1
      rw [e]
      exact fun z => (keep b o ho).1 (Value.ref.inj z)
  · obtain ⟨tl, hr, ln⟩ := srt_out (X := X) (pins := pins) (σ := σ) e1 e2 h1 h2
    obtain ⟨ep, he'⟩ := PyProof.Rows.sortedAll_at s.heap its out.toArray
    have hlen : (out.map bkV).length ≤ sizeLine := by
      rw [List.length_map, ln, ← rv.length]
      exact hz
    exact ⟨.ref _, upd H (s.heap.objs.size + 1) (.lst (out.map bkV)), I.laid (t' := s.toks) (fun _ _ => PyProof.Rows.sortedAll_old) (Nat.le_succ _) ⟨hlen, out, ep, bkV_vals hr, he'⟩, rfl, q _ _ tl (I.hok.fresh (Nat.le_succ _))⟩
theorem keys_tups {H : Hp} : ∀ {kvs : List (List Key × V)} {xs : List (List Key × Addr × Value)} {nss : List (List Int)}, KT H kvs xs → kvs.map (·.1) = nss.map (·.map Sum.inl) →
    TupL X.K H (xs.map fun x => V.ref x.2.1) nss
  | [], _, [], .nil, _ => .nil
  | [], _, _ :: _, .nil, e => by simp at e
  | p :: r, _, [], .cons h t, e => by simp at e
  | p :: r, x :: xs, ns :: nss, .cons h t, e => by
    simp only [List.map_cons, List.cons.injEq] at e
    refine .cons ⟨x.2.1, rfl, ?_⟩ (keys_tups t e.2)
    rw [h.2.1, e.1, List.map_map]
    rfl
theorem cr_sortTD (hc : X.calm = true) (hu : X.A.units + 64 < cLine) : CallR X (.builtin "sorted") (rSortTD X.K) := by
  intro pins s σ H vs us Q I r h
  obtain ⟨d, kvs, nss, rfl, hd, ek, q⟩ := h
  rw [Vals.ref1 r]
  obtain ⟨z, hs, ks, pr, o, es, ep, ho, hx, hdt, he, hn⟩ := (show ObjOk X.prog X.w H s.heap d (.dT kvs) from hd.ok I.hok)
  have l1 : es.size = ks.length := size_of_entries he
  have l2 : kvs.length = ks.length := Paired.length pr
  have rv : Vals (ks.map fun x => V.ref x.2.1) (ks.map fun x => Value.ref x.2.1) := by
    have := vals_refs (ks.map fun x => x.2.1)
    rw [List.map_map, List.map_map] at this
    exact this
  obtain ⟨e1, e2⟩ := tupL_raw I rv (keys_tups (X := X) pr ek)
  refine TI.sorted_src (vs := ks.map fun x => Value.ref x.2.1) (kdl_raw hs hx hdt) (I.ok.hd hc) ho (by omega) (NtL.swo_lexL (kvOf s.heap)) (fun acc it => ?_) (by rw [List.length_map]; omega) (fun h2 h₁ a' tk _ keep => ?_) fun p out h' tk h1 h2 keep big at' => ?_
  · apply List.ext_getElem?
    intro j
    rw [List.getElem?_map]
    have hl : acc.toList.length = ks.length := by rw [Array.length_toList, it.1]; exact l1
    cases hj : acc.toList[j]? with
    | none =>
      have h1 := List.getElem?_eq_none_iff.mp hj
      rw [List.getElem?_eq_none (by omega)]
      rfl
    | some v =>
      obtain ⟨en, hen, hv⟩ := it.2 j v (by rw [← Array.getElem?_toList]; exact hj)
      have qe := entry_at he j
      rw [hen] at qe
      cases hb : ks[j]? with
      | none => rw [hb] at qe; exact nomatch (show some en = none from qe)
      | some b =>
        rw [hb] at qe
        have e2 : en = entryOfKey (tupleKind (mixKind X.prog X.w)) b := Option.some.inj qe
        rw [hv, e2]
        rfl
  · refine TI.sortableK (by have e : X.A.in1.in1.units = X.A.units + 1 + 1 := rfl; omega) (fun e => by rw [e] at h2; simp at h2) (fun v m => ?_) (fun v m => ?_)
    · obtain ⟨b, its, e, ⟨o, ho, r⟩, ia⟩ := (e2 v m).1
      exact ⟨b, its, e, ⟨o, (keep b o ho).2, r⟩, ia⟩
    · obtain ⟨b, its, e, ⟨o, ho, r⟩, ia⟩ := (e2 v m).1
      rw [e]
      exact fun z => (keep b o ho).1 (Value.ref.inj z)
  · obtain ⟨tl, hr, ln⟩ := srt_out (X := X) (pins := pins) (σ := σ) e1 e2 h1 h2
    obtain ⟨c, hc'⟩ := at'
    have hlen : (out.map bkV).length ≤ sizeLine := by
      rw [List.length_map, ln, List.length_map]
      omega
    exact ⟨.ref p, upd H p (.lst (out.map bkV)), I.laid (t' := tk) keep big ⟨hlen, out, c, bkV_vals hr, hc'⟩, rfl, q _ _ tl (I.hok.fresh big)⟩
end
end L2

set_option Elab.async false
set_option linter.all false
set_option maxRecDepth 100000
set_option maxHeartbeats 4000000
/-! EvSC: sorted and walks, as data. -/
namespace EV
open PySem PySem.Spec PyProof.Rows L2
def intsK : List Key → Option (List Int)
  | [] => some []
  | .inl i :: r => (intsK r).map (i :: ·)
  | .inr _ :: _ => none
def intsKK : List (List Key) → Option (List (List Int))
  | [] => some []
  | k :: r => match intsK k, intsKK r with
    | some ns, some nss => some (ns :: nss)
    | _, _ => none
theorem intsK_ok : ∀ {k : List Key} {ns : List Int}, intsK k = some ns → k = ns.map Sum.inl
  | [], _, e => by cases e; rfl
  | .inl i :: r, ns, e => by
    unfold intsK at e
    cases h : intsK r with
    | none => rw [h] at e; cases e
    | some ms => rw [h] at e; cases e; rw [intsK_ok h]; rfl
  | .inr _ :: _, _, e => by cases e
theorem intsKK_ok : ∀ {ks : List (List Key)} {nss : List (List Int)}, intsKK ks = some nss → ks = nss.map (·.map Sum.inl)
  | [], _, e => by cases e; rfl
  | k :: r, nss, e => by
    unfold intsKK at e
    cases h1 : intsK k with
    | none => rw [h1] at e; cases e
    | some ns => cases h2 : intsKK r with
      | none => rw [h1, h2] at e; cases e
      | some ms => rw [h1, h2] at e; cases e; rw [intsK_ok h1, intsKK_ok h2]; rfl
def dSrtK : List Dt → Option (List Dt)
  | [.lst ds] => (tupsD ds).map fun nss => (sortL nss).map fun ns => .tup (ns.map .int)
  | [.dtt ks _] => (intsKK ks).map fun nss => (sortL nss).map fun ns => .tup (ns.map .int)
  | _ => none
def rSrtK (K : PySem.W.Frag) : List V → Hp → VK → Prop := fun vs H Q => rSortTK K vs H Q ∨ rSortTD K vs H Q
theorem cr_srtK {X : Cx} (hc : X.calm = true) (hu : X.A.units + 64 < cLine) : CallR X (.builtin "sorted") (rSrtK X.K) := by
  intro pins s σ H vs us Q I r h
  rcases h with h | h
  · exact cr_sortTK hu pins s σ H vs us Q I r h
  · exact cr_sortTD hc hu pins s σ H vs us Q I r h
section
variable {G : Stat} {an : An} {w w' : Wd} {H H' : Hp} {S S' : Sto} {W : WX} {X : Cx}
theorem okF_srtK : PrF G (rSrtK G.K) dSrtK := by
  intro an w S H ds xs z Q hS t e q
  match ds, e with
  | [.lst ds], e =>
    obtain ⟨v, rfl, tv⟩ := TpL.one t
    obtain ⟨a, ys, rfl, h1, h2⟩ := tv.lst
    have e : (tupsD ds).map (fun nss => (sortL nss).map fun ns => Dt.tup (ns.map .int)) = some z := e
    cases e1 : tupsD ds with
    | none => rw [e1] at e; cases e
    | some nss =>
      rw [e1] at e
      cases e
      exact .inl ⟨a, ys, nss, rfl, h1, tups_ok h2 e1, fun ys p tl hp => q w H p ys Grow.refl hS hp (ok_tups tl)⟩
  | [.dtt ks ds], e =>
    obtain ⟨v, rfl, tv⟩ := TpL.one t
    obtain ⟨a, kvs, rfl, h1, h2, h3⟩ := tv.dtt'
    have e : (intsKK ks).map (fun nss => (sortL nss).map fun ns => Dt.tup (ns.map .int)) = some z := e
    cases e1 : intsKK ks with
    | none => rw [e1] at e; cases e
    | some nss =>
      rw [e1] at e
      cases e
      exact .inr ⟨a, kvs, nss, rfl, h1, by rw [h2]; exact intsKK_ok e1, fun ys p tl hp => q w H p ys Grow.refl hS hp (ok_tups tl)⟩
/-! ### dicts walked -/
def miKeysD (m : Mx) : Mi := fun env S => (m env S).bind fun x S1 => match x with
  | .p (.dtt ks _) => .ok (ks.map fun k => .tup (k.map dtK)) S1
  | _ => .bad
def miValsD (m : Mx) : Mi := fun env S => (m env S).bind fun x S1 => match x with
  | .p (.dtt _ ds) => .ok ds S1
  | _ => .bad
def zipKD : List (List Key) → List Dt → List Dt
  | k :: ks, d :: ds => .tup [.tup (k.map dtK), d] :: zipKD ks ds
  | _, _ => []
def miItemsD (m : Mx) : Mi := fun env S => (m env S).bind fun x S1 => match x with
  | .p (.dtt ks ds) => .ok (zipKD ks ds) S1
  | _ => .bad
theorem keys_get {kvs : List (List Key × V)} {ks : List (List Key)} (e : kvs.map (·.1) = ks) {i : Nat} {d : Dt} (h : (ks.map fun k => Dt.tup (k.map dtK))[i]? = some d) : ∃ k v, kvs[i]? = some (k, v) ∧ d = .tup (k.map dtK) := by
  subst e
  rw [List.map_map, List.getElem?_map] at h
  cases z : kvs[i]? with
  | none => rw [z] at h; cases h
  | some p => rw [z] at h; cases h; exact ⟨p.1, p.2, rfl, rfl⟩
theorem itr_keysD {a : Addr} {o : Obj} {kvs : List (List Key × V)} {ks : List (List Key)} (h : H a = some (.frz o (.dT kvs))) (e : kvs.map (·.1) = ks) : ItR G an (Itkt a o kvs) (ks.map fun k => .tup (k.map dtK)) w H := fun i w' H' g => by
  have h' := g.frzs _ _ _ h
  refine ⟨fun d ed => ?_, fun hl => ⟨h', by subst e; simpa using hl⟩⟩
  obtain ⟨k, v, e1, e2⟩ := keys_get e ed
  refine ⟨⟨h', (List.getElem?_eq_some_iff.mp e1).1⟩, fun x H2 y S s => ?_⟩
  obtain ⟨rfl, k2, v2, q, e3, rfl, hq⟩ := y
  rw [e1] at e3
  cases e3
  subst e2
  exact ⟨Grow.refl, s, per_tk hq⟩
theorem itr_valsD {a : Addr} {o : Obj} {kvs : List (List Key × V)} {ds : List Dt} (h : H a = some (.frz o (.dT kvs))) (k : PerL G w H ds (kvs.map (·.2))) : ItR G an (ItdT a o kvs) ds w H := fun i w' H' g => by
  have h' := g.frzs _ _ _ h
  have hl2 : ds.length = kvs.length := by have := k.length; simpa using this
  refine ⟨fun d ed => ?_, fun hl => ⟨h', by omega⟩⟩
  obtain ⟨v, e1, p⟩ := k.get ed
  rw [List.getElem?_map] at e1
  cases z : kvs[i]? with
  | none => rw [z] at e1; cases e1
  | some q =>
    rw [z] at e1
    cases e1
    refine ⟨⟨h', (List.getElem?_eq_some_iff.mp z).1⟩, fun x H2 y S s => ?_⟩
    obtain ⟨rfl, k2, e3⟩ := y
    rw [z] at e3
    cases e3
    exact ⟨Grow.refl, s, p.monoX g⟩
theorem zip_get : ∀ {kvs : List (List Key × V)} {ds : List Dt} {i : Nat} {d : Dt}, PerL G w H ds (kvs.map (·.2)) → (zipKD (kvs.map (·.1)) ds)[i]? = some d → ∃ k v e, kvs[i]? = some (k, v) ∧ d = .tup [.tup (k.map dtK), e] ∧ Per G w H e v
  | [], _, i, d, .nil, h => by simp [zipKD] at h
  | p :: r, e :: ds, 0, d, .cons h t, hd => by
    have hd : some (Dt.tup [.tup (p.1.map dtK), e]) = some d := hd
    cases hd
    exact ⟨p.1, p.2, e, rfl, rfl, h⟩
  | p :: r, e :: ds, i + 1, d, .cons h t, hd => by
    have hd : (zipKD (r.map (·.1)) ds)[i]? = some d := hd
    obtain ⟨k, v, e2, h1, h2, h3⟩ := zip_get t hd
    exact ⟨k, v, e2, h1, h2, h3⟩
theorem zip_len : ∀ {kvs : List (List Key × V)} {ds : List Dt}, PerL G w H ds (kvs.map (·.2)) → (zipKD (kvs.map (·.1)) ds).length = kvs.length
  | [], _, .nil => rfl
  | p :: r, e :: ds, .cons h t => by
    show (zipKD (r.map (·.1)) ds).length + 1 = r.length + 1
    rw [zip_len t]
theorem itr_itemsD {a : Addr} {o : Obj} {kvs : List (List Key × V)} {ks : List (List Key)} {ds : List Dt} (h : H a = some (.frz o (.dT kvs))) (e : kvs.map (·.1) = ks) (k : PerL G w H ds (kvs.map (·.2))) : ItR G an (ItiT a o kvs) (zipKD ks ds) w H := fun i w' H' g => by
  subst e
  have h' := g.frzs _ _ _ h
  have hl2 := zip_len k
  refine ⟨fun d ed => ?_, fun hl => ⟨h', by omega⟩⟩
  obtain ⟨key, v, e2, e1, ed2, p⟩ := zip_get k ed
  refine ⟨⟨h', (List.getElem?_eq_some_iff.mp e1).1⟩, fun x H2 y S s => ?_⟩
  obtain ⟨T, q, k2, v2, e3, rfl, hq, hT, rfl⟩ := y
  rw [e1] at e3
  cases e3
  subst ed2
  have go := Grow.obj (o := .tup [.ref q, v]) s hT
  exact ⟨go, s.obj hT, .tup upd_same (.cons ((per_tk hq).mono go) (.cons ((p.monoX g).mono go) .nil))⟩
theorem si_keysD {k : Nat} {tg e : Expr} {m : Mx} (g : Gd G X W k) (h : SE G an W X e m) : SI G an W X tg e (miKeysD m) := by
  refine PI.imp (pi_keys h) fun σ H R ⟨env, w, S, hE, hS, q⟩ => ⟨env, w, S, hE, hS, (Pst.bind q).imp (fun x S1 w1 H1 r1 g1 s1 q1 v rv => ?_) fun _ _ _ z => z⟩
  split at q1
  · rename_i ks ds
    cases rv with
    | p pv => cases pv with
      | dtt hd e1 kk => exact ⟨_, _, rfl, .inr ⟨_, hd, q1 w1 H1 Grow.refl s1 _ (itr_keysD hd e1)⟩⟩
  · exact q1.elim
theorem si_valsD {k : Nat} {tg e : Expr} {m : Mx} {apos cpos : Pos} (g : Gd G X W k) (h : SE G an W X e m) (hbase : attributeBase e "values" X.env (eval e X.env) = eval e X.env := by rfl) (hline : (apos.endLine == cpos.line) = true := by rfl) : SI G an W X tg (.Call (.Attribute e "values" apos) [] [] cpos) (miValsD m) := by
  refine PI.imp (pi_valuesT h hbase hline) fun σ H R ⟨env, w, S, hE, hS, q⟩ => ⟨env, w, S, hE, hS, (Pst.bind q).imp (fun x S1 w1 H1 r1 g1 s1 q1 v rv => ?_) fun _ _ _ z => z⟩
  split at q1
  · rename_i ks ds
    cases rv with
    | p pv => cases pv with
      | dtt hd e1 kk => exact ⟨_, _, _, rfl, hd, q1 w1 H1 Grow.refl s1 _ (itr_valsD hd kk)⟩
  · exact q1.elim
theorem si_itemsD {k : Nat} {e : Expr} {elts : List Expr} {kk : Nat} {tpos : Pos} {m : Mx} {apos cpos : Pos} (g : Gd G X W k) (h : SE G an W X e m) (hbase : attributeBase e "items" X.env (eval e X.env) = eval e X.env := by rfl) (hline : (apos.endLine == cpos.line) = true := by rfl) : SI G an W X (.Tuple elts kk tpos) (.Call (.Attribute e "items" apos) [] [] cpos) (miItemsD m) := by
  refine PI.imp (pi_itemsT h hbase hline) fun σ H R ⟨env, w, S, hE, hS, q⟩ => ⟨env, w, S, hE, hS, (Pst.bind q).imp (fun x S1 w1 H1 r1 g1 s1 q1 v rv => ?_) fun _ _ _ z => z⟩
  split at q1
  · rename_i ks ds
    cases rv with
    | p pv => cases pv with
      | dtt hd e1 kk => exact ⟨_, _, _, rfl, hd, q1 w1 H1 Grow.refl s1 _ (itr_itemsD hd e1 kk)⟩
  · exact q1.elim
end
end EV

set_option Elab.async false
set_option linter.all false
set_option maxRecDepth 100000
set_option maxHeartbeats 4000000
/-! EvSD: dict(pairs), the keys tuples. -/
namespace L2
open PySem PySem.Spec PyProof.Rows EV
/-- p is the pair (key, value) -/
def PrT (H : Hp) (p : Addr) (kv : List Key × V) : Prop := ∃ b, H p = some (.tup [.ref b, kv.2]) ∧ H b = some (.tup (kv.1.map kV))
def rDictPT (K : PySem.W.Frag) : List V → Hp → VK → Prop := fun vs H Q => ∃ (a : Addr) (ps : List Addr) (kvs : List (List Key × V)), vs = [V.ref a] ∧ SqL K H a (ps.map V.ref) ∧ Paired (PrT H) ps kvs ∧
  ∀ D, H D = none → Q (.ref D) (upd H D (.dT (mergeT [] kvs)))
section
variable {X : Cx} {pins : List (Addr × Obj)} {σ : St} {H : Hp} {s : Shared}
theorem prs_of (I : Inv X pins σ H s) : ∀ {ps : List Addr} {kvs : List (List Key × V)}, Paired (PrT H) ps kvs →
    ∃ xs : List (List Key × Addr × Value), KT H kvs xs ∧ xs.length = ps.length ∧ (∀ (j : Nat) (x : List Key × Addr × Value), xs[j]? = some x → ∃ p, ps[j]? = some p ∧ IsTup s.heap p #[.ref x.2.1, x.2.2]) ∧
      ∀ x ∈ xs, H x.2.1 = some (.tup (x.1.map kV))
  | _, _, .nil => ⟨[], .nil, rfl, fun j q e => by simp at e, fun x m => by simp at m⟩
  | _, _, .cons (a := p) (b := kv) h t => by
    obtain ⟨xs, r, hl, hp, hk⟩ := prs_of I t
    obtain ⟨b, h1, h2⟩ := h
    obtain ⟨its, rv, ht, _⟩ := I.tuple (.inl (.inl h1))
    obtain ⟨u, y, ei, ru, ry⟩ := vals2 rv
    subst ei
    obtain rfl : u = Value.ref b := ru
    refine ⟨(kv.1, b, y) :: xs, .cons ⟨rfl, h2, ry⟩ r, by rw [List.length_cons, List.length_cons, hl], fun j q e => ?_, fun x m => ?_⟩
    · cases j with
      | zero =>
        have e' : (kv.1, b, y) = q := Option.some.inj e
        subst e'
        exact ⟨p, rfl, ht⟩
      | succ j =>
        obtain ⟨p2, e1, e2⟩ := hp j q (by simpa using e)
        exact ⟨p2, by simpa using e1, e2⟩
    · rcases List.mem_cons.mp m with e | m
      · rw [e]; exact h2
      · exact hk x m
theorem cr_dictPT (hcalm : X.calm = true) (hu : X.A.units + 64 < cLine) : CallR X (.type "dict") (rDictPT X.K) := by
  intro pins s σ H vs us Q I r q
  obtain ⟨a, ps, kvs, rfl, hq, hp, q⟩ := q
  rw [Vals.ref1 r]
  obtain ⟨its, rv, pl, hz⟩ := I.list hq
  have ei := refs_at rv
  subst ei
  rw [List.length_map] at hz
  obtain ⟨xs, rel, hl, hpr, hk⟩ := prs_of I hp
  obtain ⟨o, n, ho, hc, hd, hdat⟩ := pl
  have here : PlainSeq "list" s.heap a (ps.map Value.ref).toArray ∧ PairItems s.heap (ps.map Value.ref).toArray (fun j => ps.getD j 0) (xs.map fun x => (Value.ref x.2.1, x.2.2)) := by
    refine ⟨⟨o, n, ho, hc, hd, hdat⟩, by simp [hl], fun j k v e => ?_⟩
    rw [List.getElem?_map] at e
    cases z : xs[j]? with
    | none => rw [z] at e; cases e
    | some x =>
      rw [z] at e
      cases e
      obtain ⟨p, e1, e2⟩ := hpr j x z
      have eg : ps.getD j 0 = p := by rw [List.getD_eq_getElem?_getD, e1]; rfl
      refine ⟨by simp [e1], .inl ?_⟩
      show s.heap.IsTuple (ps.getD j 0) _
      rw [eg]
      exact e2
  have hlen : (xs.map fun x => (Value.ref x.2.1, x.2.2)).length = xs.length := List.length_map _
  refine call_dict_pairsH (knd := tupleKind (mixKind X.prog X.w)) (ps := xs) (PairArg.list a (ps.map Value.ref).toArray (fun j => ps.getD j 0) (xs.map fun x => (Value.ref x.2.1, x.2.2))) (I.ok.hd hcalm) (by have e : X.A.in1.in1.units = X.A.units + 1 + 1 := rfl; show X.A.in1.in1.units < cLine; omega) here
    ⟨by rw [hlen], fun i key v e => ?_⟩ (fun h' k x m => ?_) (by rw [hlen, hl]; exact hz) fun h' tk dd k => ?_
  · have e : (xs.map fun x => (Value.ref x.2.1, x.2.2))[i]? = some (key, v) := e
    rw [List.getElem?_map] at e
    cases z : xs[i]? with
    | none => rw [z] at e; cases e
    | some x => rw [z] at e; cases e; exact ⟨x.1, x.2.1, rfl, rfl⟩
  · have kk : (tupleKind (mixKind X.prog X.w)).is s.heap x.1 x.2.1 := key_of I.hok (hk x m)
    obtain ⟨ot, its, n2, h1, h2⟩ := kk
    exact ⟨ot, its, n2, k _ _ (Nat.ne_of_lt (Heap.lt_size h1)) (by simp) h1, h2⟩
  · have hm : (s.heap.objs.size == sysModules) = false := beq_eq_false_iff_ne.mpr (Nat.ne_of_gt I.big)
    have hl2 : (mergeT [] kvs).length ≤ sizeLine := by
      have z1 := length_mergeT kvs []
      have z2 : kvs.length = xs.length := Paired.length rel
      rw [List.length_nil] at z1
      omega
    have fr := I.hok.fresh (Nat.le_refl s.heap.objs.size)
    have rk := kt_merge rel (.nil : KT H [] [])
    obtain ⟨ob, es, ep, g1, g2, g3, g4, _, g5⟩ := dd
    refine ⟨.ref s.heap.objs.size, upd H s.heap.objs.size (.dT (mergeT [] kvs)), I.laid (t' := tk) (fun b o e => k b o (by simp) e) (Nat.le_refl _) ?_, rfl, q _ fr⟩
    exact ⟨hl2, hm, _, rk.keeps (fun c ys ec => (upd_ne (ne_of_none ec fr)).trans ec), ob, es, ep, g1, g2, g3, g4, g5⟩
end
end L2
namespace EV
open PySem PySem.Spec PyProof.Rows L2
def pairsD : List Dt → Option (List (List Key × Dt))
  | [] => some []
  | .tup [.tup ks, d] :: r => match keysD ks, pairsD r with
    | some k, some z => some ((k, d) :: z)
    | _, _ => none
  | _ :: _ => none
def mDictP (m : Ma) : Md := fun env S => (m env S).bind fun xs S1 => match derefs S1 xs with
  | some [.lst ds] => (match pairsD ds with
    | some z => .ok (foldE z ([], [])) S1
    | none => .bad)
  | _ => .bad
section
variable {G : Stat} {an : An} {w w' : Wd} {H H' : Hp} {S S' : Sto} {W : WX} {X : Cx}
theorem pairsD_ok : ∀ {ds : List Dt} {vs : List V} {z : List (List Key × Dt)}, PerL G w H ds vs → pairsD ds = some z → ∃ (ps : List Addr) (kvs : List (List Key × V)), vs = ps.map V.ref ∧ Paired (PrT H) ps kvs ∧ kvs.map (·.1) = z.map (·.1) ∧ PerL G w H (z.map (·.2)) (kvs.map (·.2))
  | [], _, _, .nil, e => by cases e; exact ⟨[], [], rfl, .nil, rfl, .nil⟩
  | d :: r, v :: vs, z, .cons h t, e => by
    match d, h, e with
    | .tup [.tup ks, dd], h, e =>
      unfold pairsD at e
      cases e1 : keysD ks with
      | none => rw [e1] at e; cases e
      | some k => cases e2 : pairsD r with
        | none => rw [e1, e2] at e; cases e
        | some zz =>
          rw [e1, e2] at e
          cases e
          obtain ⟨ps, kvs, rfl, h2, h3, h4⟩ := pairsD_ok t e2
          obtain ⟨p, xs, rfl, hp, kp⟩ := h.tupH
          cases kp with
          | cons q1 kr => cases kr with
            | cons q2 kn =>
              cases kn
              obtain ⟨b, ys, rfl, hb, kb⟩ := q1.tupH
              have eb := keysD_ok kb e1
              subst eb
              exact ⟨p :: ps, (k, _) :: kvs, rfl, .cons ⟨b, hp, hb⟩ h2, by simp [h3], .cons q2 h4⟩
theorem sd_dictP {k : Nat} {e : Expr} {p pos : Pos} {m : Ma} (g : Gd G X W k) (hm : G.mg "dict" = none) (ha : SA G an W X [e] m) (hg : Gl X "dict" := by rfl) (hn : ("dict" : Str) ≠ "__name__" := by decide) (hdb : (("dict" : Str) == ("__debug__" : Str)) = false := by decide)
    (he : starEach [e] X.env = (false, eval e X.env) :: starEach [] X.env := by rfl) (hpl : (backTo pos (starEach [] X.env)).any (·.1) = false := by rfl) : SD G an W X (.Call (.Name "dict" p) [e] [] pos) (mDictP m) := by
  refine PE.imp (pe_callTy (cr_dictPT g.calm g.u64) hg (by rw [g.mg]; exact hm) (by decide +kernel) ha hn hdb he hpl) fun σ H Q ⟨env, w, S, hE, hS, q⟩ => ⟨env, w, S, hE, hS, (Pst.bind q).imp (fun xs S1 w1 H1 r1 g1 s1 q1 vs rvs => ?_) fun _ _ _ z => z⟩
  split at q1
  · rename_i ds ed
    split at q1
    · rename_i z ez
      obtain ⟨v, rfl, t⟩ := (rvs.top s1 ed).one
      obtain ⟨a, ys, rfl, h1, h2⟩ := t.lst
      obtain ⟨ps, kvs, rfl, h3, h4, h5⟩ := pairsD_ok h2 ez
      have f := foldE_ok (kvs0 := []) (acc := ([], [])) h4 h5 rfl .nil
      exact ⟨a, ps, kvs, rfl, by rw [g.K]; exact h1, h3, fun D hD => q1 w1 H1 Grow.refl s1 D (mergeT [] kvs) hD f.1 f.2⟩
    · exact q1.elim
  · exact q1.elim
end
end EV

set_option Elab.async false
set_option linter.all false
set_option maxRecDepth 100000
set_option maxHeartbeats 2000000
/-! EvSE: tuple(range(n)); what gen3 names. -/
namespace EV
open PySem PySem.Spec PyProof.Rows L2
def mdNil : Md := fun _ S => .ok ([], []) S
def mNev : Mx := fun _ _ => .bad
def sNev : Sx := fun _ _ => .bad
def mTupR (m : Mx) : Mx := fun env S => (m env S).bind fun x S1 => match x with
  | .p (.int n) => if decide (0 ≤ n) && decide (n ≤ 1000000) then .ok (.p (.tup ((List.range n.toNat).map fun i => .int (i : Nat)))) S1 else .bad
  | _ => .bad
section
variable {G : Stat} {an : An} {w w' : Wd} {H H' : Hp} {S S' : Sto} {W : WX} {X : Cx}
theorem sd_nil' {pos : Pos} : SD G an W X (.Dict [] [] pos) mdNil := sd_nil
theorem perL_rg : ∀ (l : List Nat), PerL G w H (l.map fun i => Dt.int (i : Nat)) (l.map fun i => V.int ((i : Nat) : Int))
  | [] => .nil
  | i :: r => .cons (.int _) (perL_rg r)
theorem se_tupR {k : Nat} {a : Expr} {m : Mx} {p p2 pos pos2 : Pos} (g : Gd G X W k) (hm : G.mg "range" = none) (hm2 : G.mg "tuple" = none) (ha : SE G an W X a m) (hg : Gl X "range" := by rfl) (hg2 : Gl X "tuple" := by rfl)
    (na : starEach [a] X.env = (false, eval a X.env) :: starEach [] X.env := by rfl) (hs : starEach [.Call (.Name "range" p) [a] [] pos] X.env = (false, eval (.Call (.Name "range" p) [a] [] pos) X.env) :: starEach [] X.env := by rfl) :
    SE G an W X (.Call (.Name "tuple" p2) [.Call (.Name "range" p) [a] [] pos] [] pos2) (mTupR m) := by
  refine PE.imp (pe_tupRg g.calm hg2 (by rw [g.mg]; exact hm2) (prg_1 hg (by rw [g.mg]; exact hm) ha na) hs) fun σ H Q ⟨env, w, S, hE, hS, q⟩ => ⟨env, w, S, hE, hS, (Pst.bind q).imp (fun x S1 w1 H1 r1 g1 s1 q1 v rv => ?_) fun _ _ _ z => z⟩
  split at q1
  · rename_i n
    split at q1
    · rename_i hb
      obtain ⟨b1, b2⟩ := (Bool.and_eq_true _ _).mp hb
      have b1 := of_decide_eq_true b1
      have b2 := of_decide_eq_true b2
      cases rv with
      | p h =>
        cases h
        refine ⟨n, rfl, RgOk.of_le (by omega) (by omega) (by omega) b1, fun q hq => ?_⟩
        have e : rgV 0 n = (List.range n.toNat).map fun i => V.int ((i : Nat) : Int) := by
          unfold rgV
          rw [Int.sub_zero]
          exact List.map_congr_left fun i _ => by rw [Int.zero_add]
        rw [e]
        exact q1 w1 _ (Grow.obj s1 hq) (s1.obj hq) _ (.p (.tup upd_same (perL_rg _)))
    · exact q1.elim
  · exact q1.elim
end
end EV
namespace EV
open PySem PySem.Spec PyProof.Rows L2
theorem hu1 {G : Stat} {X : Cx} {W : WX} {k : Nat} (g : Gd G X W k) : X.A.units + 1 < cLine := by have := g.u64; omega
end EV

set_option Elab.async false
set_option linter.all false
set_option maxRecDepth 100000
set_option maxHeartbeats 4000000
/-! EvSF: x = [.. for ..] on one line. -/
namespace EV
open PySem L2
section
variable {G : Stat} {an : An} {w w' : Wd} {H H' : Hp} {S S' : Sto} {W : WX} {X : Cx}
theorem lc_read {k : Nat} {mi : Mi} {tgt : Tg} {mt : Mb} {me : Mx} {vs : List Nat} {σ : L2.St} {H : Hp} {Q : VK} (g : Gd G X W k) (hsl : ∀ i ∈ tgt.slots, i ∈ vs) (h : tFr G an W (miLc mi tgt vs mt me) σ H Q) : tLc (tIt G an W mi) (tgOf X.K tgt) (tTe G an WF mt) (tM G an WF me) vs σ H Q := by
  obtain ⟨env, w, S, hE, hS, q⟩ := h
  refine ⟨env, w, S, hE, hS, (Pst.bind q).imp (fun ds S1 w1 H1 r1 g1 s1 q1 J hJ A hA => ?_) fun _ _ _ z => z⟩
  split at q1
  · rename_i hline
    cases hz : lcGo tgt vs mt me env ds S1 with
    | bad => rw [hz] at q1; exact q1.elim
    | exc c p S2 => rw [hz] at q1; exact q1.elim
    | ok zs Sf =>
      rw [hz] at q1
      have hl : ds.length ≤ sizeLine := line_ok hline
      refine ⟨fun i m H => ∃ (w : Wd) (S : Sto) (acc : List V) (accd rest : List Dt), m = ds.length - i ∧ i ≤ ds.length ∧ Grow w1 H1 w H ∧ A ∈ w.xi ∧ StoR G an w S H ∧ H A = some (.lst acc) ∧ PerL G w H accd acc ∧ accd.length ≤ i ∧ lcGo tgt vs mt me env (ds.drop i) S = .ok rest Sf ∧ accd ++ rest = zs,
        ⟨ds.length, w1.aside A, S1, [], [], zs, rfl, Nat.zero_le _, Grow.aside s1 hA, List.mem_cons_self, s1.aside hA trivial, upd_same, .nil, Nat.le_refl _, hz, rfl⟩, ?_⟩
      rintro i m H ⟨w, S, acc, accd, rest, rfl, hi, gr, hx, hS, hH, kk, hlen, hgo, hcat⟩
      obtain ⟨jgo, jst⟩ := hJ i w H gr.x
      by_cases hlt : i < ds.length
      · obtain ⟨go, yl⟩ := jgo ds[i] (List.getElem?_eq_getElem hlt)
        rw [List.drop_eq_getElem_cons hlt] at hgo
        unfold lcGo at hgo
        cases eb : bindT tgt ds[i] (wipeE env vs) with
        | none => rw [eb] at hgo; cases hgo
        | some env1 =>
          simp only [eb] at hgo
          cases et : mt env1 S with
          | bad => rw [et] at hgo; cases hgo
          | exc c p S2 => rw [et] at hgo; cases hgo
          | ok b S2 =>
            simp only [et] at hgo
            refine .inr ⟨go, fun H' => ∃ (w : Wd) (S : Sto) (acc : List V) (accd rest : List Dt), Grow w1 H1 w H' ∧ A ∈ w.xi ∧ StoR G an w S H' ∧ H' A = some (.lst acc) ∧ PerL G w H' accd acc ∧ accd.length ≤ i + 1 ∧ lcGo tgt vs mt me env (ds.drop (i + 1)) S = .ok rest Sf ∧ accd ++ rest = zs,
              fun H' ⟨w, S, acc, accd, rest, a1, a2, a3, a4, a5, a6, a7, a8⟩ => ⟨ds.length - (i + 1), by omega, w, S, acc, accd, rest, rfl, hlt, a1, a2, a3, a4, a5, a6, a7, a8⟩, fun x H' y => ?_⟩
            obtain ⟨g2, s2, p⟩ := yl x H' y S hS
            refine bindT_ok g.K eb ((hE.mono ((g1.trans gr).trans g2)).wipe vs) p fun σ2 hE2 hw => ⟨?_, env1, w, S, hE2, s2, ?_⟩
            · rw [hw vs hsl]
              exact wipe_sub fun _ h => h
            · rw [et]
              intro w3 H3 g3 s3
              have ac : ∀ {w' H'}, Grow w H w' H' → H' A = some (.lst acc) := fun gg => gg.keep _ _ hH (hS.ax A hx).1
              cases b with
              | false =>
                have g' := g2.trans g3
                exact ⟨w3, S2, acc, accd, rest, gr.trans g', g'.xi _ hx, s3, ac g', kk.mono g', Nat.le_succ_of_le hlen, hgo, hcat⟩
              | true =>
                simp only [if_true] at hgo
                cases em : me env1 S2 with
                | bad => rw [em] at hgo; cases hgo
                | exc c p S3 => rw [em] at hgo; cases hgo
                | ok x S3 =>
                  cases x with
                  | loc n => rw [em] at hgo; cases hgo
                  | p d =>
                    simp only [em] at hgo
                    cases er : lcGo tgt vs mt me env (ds.drop (i + 1)) S3 with
                    | bad => rw [er] at hgo; cases hgo
                    | exc c p S3 => rw [er] at hgo; cases hgo
                    | ok rest2 Sf2 =>
                      rw [er] at hgo
                      cases hgo
                      refine ⟨env1, w3, S2, hE2.mono g3, s3, ?_⟩
                      rw [em]
                      intro w4 H4 g4 s4 v rv
                      have g' := (g2.trans g3).trans g4
                      have hA4 := ac g'
                      have hx4 := g'.xi _ hx
                      cases rv with
                      | p rv =>
                        refine ⟨acc, hA4, ?_, w4, S3, acc ++ [v], accd ++ [d], rest2, (gr.trans g').put hA, hx4, s4.put hA4 trivial trivial hx4 (an.m _ _ _ _ ((gr.trans g').put hA) s1.anc), upd_same, ((kk.mono g').append (.cons rv .nil)).put hA4 trivial hx4, by simp; omega, er, by rw [List.append_assoc]; exact hcat⟩
                        rw [← kk.length]
                        omega
      · have e : i = ds.length := by omega
        subst e
        rw [List.drop_length] at hgo
        cases hgo
        rw [List.append_nil] at hcat
        subst hcat
        have gd := gr.del hA (s1.outx hA) hH
        have q2 := q1 _ _ gd (hS.del hH trivial hx (an.m _ _ _ _ gd s1.anc)) A acc delH_same (kk.del hH trivial hx)
        rw [upd_del hH] at q2
        exact .inl ⟨jst (Nat.le_refl _), q2⟩
  · exact q1.elim
theorem fz_read {m : Mi} {σ : L2.St} {H : Hp} {Q : VK} (h : tM G an W (mFz m) σ H Q) : tFr G an W m σ H Q := by
  obtain ⟨env, w, S, hE, hS, q⟩ := h
  refine ⟨env, w, S, hE, hS, (Pst.bind q).imp (fun ds S1 w1 H1 _ g1 s1 q1 a xs ha k => ?_) fun _ _ _ z => z⟩
  exact q1 w1 _ (Grow.obj s1 ha) (s1.obj ha) _ (.p (.lst upd_same (s1.out ha) (s1.outx ha) (k.mono (Grow.obj s1 ha))))
theorem own_read {m : Mi} {σ : L2.St} {H : Hp} {Q : VK} (h : tM G an W (mOwn m) σ H Q) : tFr G an W m σ H Q := by
  obtain ⟨env, w, S, hE, hS, q⟩ := h
  refine ⟨env, w, S, hE, hS, (Pst.bind q).imp (fun ds S1 w1 H1 _ g1 s1 q1 a xs ha k => ?_) fun _ _ _ z => z⟩
  refine q1 _ _ (Grow.cell s1 ha) (s1.cell ha k) _ (.loc ?_)
  show (w1.rho ++ [a])[S1.length]? = some a
  rw [s1.len]; simp
/-- name = [..] on one line: the list's making (as data: fz_read; as a cell: own_read) -/
theorem ss_setLc {k i : Nat} {m : Mx} {y : Str} {py : Pos} {elt tg iter : Expr} {ifs : List Expr} {scope : Scope} {own : List (Str × Nat)} {pos spos : Pos} {mi : Mi} {tgt : Tg} {mt : Mb} {me : Mx} (g : Gd G X W k) (rd : ∀ σ H Q, tM G an W m σ H Q → tFr G an W (miLc mi tgt (own.map (·.2)) mt me) σ H Q) (hy : X.N[i]? = some y) (hyl : X.env.scope.names.lookup y = some .local)
    (hk : X.env.scope.kind = .function) (hl : (py.line == pos.line) = true) (ha : (scope.names.any fun (n, k) => n == y && (k == .local || k == .cell)) = false)
    (hi : SI G an W X tg iter mi) (ok : BlkOk X.N X.env.scope scope own) (hsl : ∀ i ∈ tgt.slots, i ∈ own.map (·.2))
    (hg : ∀ (s : Shared) (H : Hp) (C : Addr) (cl : List (Str × Addr)) (fp : List Addr), PG (X.blk s H scope (compEnvC scope cl C X.env) fp) tg (tgOf X.K tgt))
    (ht : ∀ (s : Shared) (H : Hp) (C : Addr) (cl : List (Str × Addr)) (fp : List Addr), PTs (X.blk s H scope (compEnvC scope cl C X.env) fp) ifs (tTe G an WF mt))
    (he : ∀ (s : Shared) (H : Hp) (C : Addr) (cl : List (Str × Addr)) (fp : List Addr), SE G an WF (X.blk s H scope (compEnvC scope cl C X.env) fp) elt me)
    (hs : ∀ x, foldedSetIterable iter X.env x = pure x := by intro _; rfl) : SS G an W X (.Assign [.Name y py] (.ListComp elt [⟨tg, iter, ifs, 0⟩] scope pos) spos) (sSet i m) :=
  ss_set (PS.imp (ps_setLc (i := i) g.calm g.nd hy hyl (sw_true hk hyl hl ha) hi ok hg ht he hs) fun D σ H h => lc_read g hsl (rd _ _ _ h))
end
end EV

set_option Elab.async false
set_option linter.all false
set_option maxRecDepth 100000
set_option maxHeartbeats 2000000
/-! EvSG: d.get(k), d.get(k, x). -/
namespace EV
open PySem PySem.Spec PyProof.Rows L2
section
variable {G : Stat} {an : An} {w w' : Wd} {H H' : Hp} {S S' : Sto} {W : WX} {X : Cx}
def isDD : Dt → Bool
  | .dct _ _ => true
  | .dtt _ _ => true
  | _ => false
theorem isDD_ok {d : Dt} {v : V} (h : Tp G w H d v) (e : isDD d = true) : ∃ a, v = .ref a ∧ IsD H a := by
  cases d with
  | dct ks ds => obtain ⟨a, kvs, rfl, h1, _⟩ := h.dct'; exact ⟨a, rfl, .inl ⟨kvs, h1⟩⟩
  | dtt ks ds => obtain ⟨a, kvs, rfl, h1, _⟩ := h.dtt'; exact ⟨a, rfl, .inr ⟨kvs, h1⟩⟩
  | _ => cases e
/-- d.get(k, x); x none: None -/
def mGet2 (mo mi md : Mx) : Mx := fun env S => (mo env S).bind fun x S1 => match deref S1 x with
  | some d0 => if isDD d0 = true then (mi env S1).bind fun y S2 => (md env S2).bind fun z S3 => (match deref S3 x, deref S3 y, z with
    | some d, some e, .p f => (match lookD d e with
      | some o => .ok (.p (o.getD f)) S3
      | none => .bad)
    | _, _, _ => .bad) else .bad
  | none => .bad
def mGet1 (mo mi : Mx) : Mx := fun env S => (mo env S).bind fun x S1 => match deref S1 x with
  | some d0 => if isDD d0 = true then (mi env S1).bind fun y S2 => (match deref S2 x, deref S2 y with
    | some d, some e => (match lookD d e with
      | some o => .ok (.p (o.getD .non)) S2
      | none => .bad)
    | _, _ => .bad) else .bad
  | none => .bad
theorem OptR.getD {o : Option Dt} {r : Option V} {f : Dt} {u : V} (h : OptR G w H o r) (hf : Per G w H f u) : Per G w H (o.getD f) (r.getD u) := by
  cases o with
  | none => rw [show r = none from h]; exact hf
  | some d => obtain ⟨v, rfl, p⟩ := h; exact p
theorem se_get2 {k : Nat} {o e f : Expr} {mo mi md : Mx} {apos cpos : Pos} (g : Gd G X W k) (ho : SE G an W X o mo) (hi : SE G an W X e mi) (hd : SE G an W X f md) (m : M2 X o "get" apos e f cpos := by exact ⟨rfl, rfl, rfl, rfl⟩) : SE G an W X (.Call (.Attribute o "get" apos) [e, f] [] cpos) (mGet2 mo mi md) := by
  refine PE.imp (pe_dget2 (hu1 g) ho hi hd m) fun σ H Q ⟨env, w, S, hE, hS, q⟩ => ⟨env, w, S, hE, hS, (Pst.bind q).imp (fun x S1 w1 H1 r1 g1 s1 q1 v rv => ?_) fun _ _ _ z => z⟩
  cases e0 : deref S1 x with
  | none => simp only [e0] at q1; exact q1.elim
  | some d0 =>
    simp only [e0] at q1
    split at q1
    · rename_i hdd
      obtain ⟨a, rfl, id⟩ := isDD_ok (rv.top s1 e0) hdd
      refine ⟨a, rfl, id, env, w1, S1, hE.mono g1, s1, (Pst.bind q1).imp (fun y S2 w2 H2 r2 g2 s2 q2 u ru => ?_) fun _ _ _ z => z⟩
      refine ⟨env, w2, S2, (hE.mono g1).mono g2, s2, (Pst.bind q2).imp (fun z S3 w3 H3 r3 g3 s3 q3 t rt => ?_) fun _ _ _ z => z⟩
      split at q3
      · rename_i d e f e1 e2
        split at q3
        · rename_i oo el
          obtain ⟨b, r, eb, gg, p⟩ := lookD_ok (((rv.mono g2).mono g3).top s3 e1) ((ru.mono g3).top s3 e2) el
          cases eb
          cases rt with
          | p pt => exact ⟨r, gg, q3 w3 H3 Grow.refl s3 _ (.p (p.getD pt))⟩
        · exact q3.elim
      · exact q3.elim
    · exact q1.elim
theorem se_get1 {k : Nat} {o e : Expr} {mo mi : Mx} {apos cpos : Pos} (g : Gd G X W k) (ho : SE G an W X o mo) (hi : SE G an W X e mi) (m : M1 X o "get" apos e cpos := by exact ⟨rfl, rfl, rfl, rfl⟩) : SE G an W X (.Call (.Attribute o "get" apos) [e] [] cpos) (mGet1 mo mi) := by
  refine PE.imp (pe_dget1 (hu1 g) ho hi m) fun σ H Q ⟨env, w, S, hE, hS, q⟩ => ⟨env, w, S, hE, hS, (Pst.bind q).imp (fun x S1 w1 H1 r1 g1 s1 q1 v rv => ?_) fun _ _ _ z => z⟩
  cases e0 : deref S1 x with
  | none => simp only [e0] at q1; exact q1.elim
  | some d0 =>
    simp only [e0] at q1
    split at q1
    · rename_i hdd
      obtain ⟨a, rfl, id⟩ := isDD_ok (rv.top s1 e0) hdd
      refine ⟨a, rfl, id, env, w1, S1, hE.mono g1, s1, (Pst.bind q1).imp (fun y S2 w2 H2 r2 g2 s2 q2 u ru => ?_) fun _ _ _ z => z⟩
      split at q2
      · rename_i d e e1 e2
        split at q2
        · rename_i oo el
          obtain ⟨b, r, eb, gg, p⟩ := lookD_ok ((rv.mono g2).top s2 e1) (ru.top s2 e2) el
          cases eb
          exact ⟨r, gg, q2 w2 H2 Grow.refl s2 _ (.p (p.getD .non))⟩
        · exact q2.elim
      · exact q2.elim
    · exact q1.elim
def dXor : Dt → Dt → Option Dt := dII fun i j => some (.int (Builtin.bitXor i j))
theorem se_xor {a b : Expr} {ma mb : Mx} {pos : Pos} (ha : SE G an W X a ma) (hb : SE G an W X b mb) : SE G an W X (.BinOp a .BitXor b pos) (mOp2 dXor ma mb) := se_op2 op_xor ok_rI0 ha hb
end
end EV

set_option Elab.async false
set_option linter.all false
set_option maxRecDepth 100000
set_option maxHeartbeats 4000000
/-! EvSH: x = {.. for ..} on one line. -/
namespace EV
open PySem PySem.Spec PyProof.Rows L2
section
variable {X : Cx}
theorem sw_trueD {kx vx : Expr} {gs : List Comprehension} {scope : Scope} {pos py : Pos} {y : Str} {l : Nat} {env : Env} (hk : env.scope.kind = .function) (hy : env.scope.names.lookup y = some .local) (hl : (py.line == pos.line) = true)
    (ha : (scope.names.any fun (n, k) => n == y && (k == .local || k == .cell)) = false) : swapsWith (.DictComp kx vx gs scope pos) (some (.Name y py)) l env = pure true := by
  have ky : env.kindOf y = some .local := hy
  have hb : env.blockKind = .function := by unfold Env.blockKind; rw [hk]; rfl
  unfold swapsWith
  simp only [hb, ky, ha, Expr.pos, hl]
  rfl
/-- .. what was made stays as it is -/
theorem ps_setDc {i : Nat} {y : Str} {py : Pos} {kx vx tg iter : Expr} {ifs : List Expr} {scope : Scope} {own : List (Str × Nat)} {pos spos : Pos} {wi : TI} {g : TG} {tt : TT} {tk tv : TE} (hu : X.A.units + 1 < cLine) (hc : X.calm = true) (hN : X.N.Nodup) (hy : X.N[i]? = some y) (hyl : X.env.scope.names.lookup y = some .local)
    (hsw : swapsWith (.DictComp kx vx [⟨tg, iter, ifs, 0⟩] scope pos) (some (.Name y py)) spos.line X.env = pure true) (hi : PI X tg iter wi) (ok : BlkOk X.N X.env.scope scope own)
    (hg : ∀ (s : Shared) (H : Hp) (C : Addr) (cl : List (Str × Addr)) (fp : List Addr), PG (X.blk s H scope (compEnvC scope cl C X.env) fp) tg g) (ht : ∀ (s : Shared) (H : Hp) (C : Addr) (cl : List (Str × Addr)) (fp : List Addr), PTs (X.blk s H scope (compEnvC scope cl C X.env) fp) ifs tt)
    (hk : ∀ (s : Shared) (H : Hp) (C : Addr) (cl : List (Str × Addr)) (fp : List Addr), PE (X.blk s H scope (compEnvC scope cl C X.env) fp) kx tk)
    (he : ∀ (s : Shared) (H : Hp) (C : Addr) (cl : List (Str × Addr)) (fp : List Addr), PE (X.blk s H scope (compEnvC scope cl C X.env) fp) vx tv) (hs : ∀ x, foldedSetIterable iter X.env x = pure x := by intro _; rfl) :
    PS X (.Assign [.Name y py] (.DictComp kx vx [⟨tg, iter, ifs, 0⟩] scope pos) spos)
      (tAsg (fun σ H Q => tDcG (.dT []) wi g tt tk tv (own.map (·.2)) σ H fun v H1 => ∃ d u, v = V.ref d ∧ H1 d = some u ∧ Mut (some u) ∧ ∀ od, Q v (upd H1 d (.frz od u))) (gName i)) := by
  refine ⟨fun pins s σ H D I h => ?_⟩
  rw [exec_Assign_Name_used _ _ _ _ hsw]
  refine wpAny_bind (wpAny_standAt (wpAny_bind ?_))
  show wpAny _ X.A (do let _ ← comprehension (.DictComp kx vx [⟨tg, iter, ifs, 0⟩] scope pos) scope X.env (firstIterPos [⟨tg, iter, ifs, 0⟩] pos) newDict false (eval iter X.env) (some (assign (.Name y py) X.env))) _ _ s
  have h : tDcG (.dT []) wi g tt tk tv (own.map (·.2)) σ H (fun x H1 => ∃ d u, x = V.ref d ∧ H1 d = some u ∧ Mut (some u) ∧ ∀ od, gName i x σ (upd H1 d (.frz od u)) D.nx) := h
  refine wpAny_bind (thn (dict_core (Qf := fun _ s' => SP X pins D .next s') hc hu hN (fun h hb => ⟨dt_empty h hb, fun H2 => dt_empty h hb⟩) I hi ok hg ht hk he hs h fun L C s' m H' I' q hn f => ?_) fun _ s' hq => wpAny_pure (wpAny_pure hq))
  obtain ⟨d, u, ed, hd, mu, q⟩ := q
  cases ed
  obtain ⟨od, I2⟩ := I'.lock hd mu
  have q := q od
  show wpAny _ _ (assign (.Name y py) X.env (.ref L)) _ _ _
  refine wpAny_assign_Name (store_ok2 (v := V.ref L) I2 hN hy (.inl hyl) rfl (fun s2 I3 ⟨a, sb, ha⟩ => ?_) (.inr hyl))
  obtain ⟨f0, f1, f2, f3, f4, f5⟩ := f
  have haC : C ≠ a := by
    rcases ha with z | z
    · rw [z]; exact f1
    · exact fun e => f4 y a z e.symm
  have hCL : C ≠ L := fun e => by rw [e, hd] at f0; cases f0
  refine ⟨m, hn.sameBut sb haC, fun h3 sb3 => ?_⟩
  exact ⟨_, _, I3.turned (t' := s2.toks) (fun b o hb e => (sb3.2 b hb).trans e) (by rw [upd_ne hCL]; exact f0) f1 f3 f4 f5, q⟩
variable {G : Stat} {an : An} {w w' : Wd} {H H' : Hp} {S S' : Sto} {W : WX}
theorem dc_read {k : Nat} {mi : Mi} {tgt : Tg} {mt : Mb} {mk mv : Mx} {vs : List Nat} {σ : L2.St} {H : Hp} {Q : VK} (g : Gd G X W k) (hsl : ∀ i ∈ tgt.slots, i ∈ vs) (h : tFd G an W (mdDc mi tgt vs mt mk mv) σ H Q) : tDcG (.dT []) (tIt G an W mi) (tgOf X.K tgt) (tTe G an WF mt) (tM G an WF mk) (tM G an WF mv) vs σ H Q := by
  obtain ⟨env, w, S, hE, hS, q⟩ := h
  refine ⟨env, w, S, hE, hS, (Pst.bind q).imp (fun ds S1 w1 H1 r1 g1 s1 q1 J hJ A hA => ?_) fun _ _ _ z => z⟩
  split at q1
  · rename_i hline
    cases hz : dcGo tgt vs mt mk mv env ds [] [] S1 with
    | bad => rw [hz] at q1; exact q1.elim
    | exc c p S2 => rw [hz] at q1; exact q1.elim
    | ok zs Sf =>
      rw [hz] at q1
      have hl : ds.length ≤ sizeLine := line_ok hline
      refine ⟨fun i m H => ∃ (w : Wd) (S : Sto) (kvs : List (List Key × V)) (ks : List (List Key)) (es : List Dt), m = ds.length - i ∧ i ≤ ds.length ∧ Grow w1 H1 w H ∧ A ∈ w.xi ∧ StoR G an w S H ∧ H A = some (.dT kvs) ∧ kvs.map (·.1) = ks ∧ PerL G w H es (kvs.map (·.2)) ∧ kvs.length ≤ i ∧ dcGo tgt vs mt mk mv env (ds.drop i) ks es S = .ok zs Sf,
        ⟨ds.length, w1.aside A, S1, [], [], [], rfl, Nat.zero_le _, Grow.aside s1 hA, List.mem_cons_self, s1.aside hA trivial, upd_same, rfl, .nil, Nat.le_refl _, hz⟩, ?_⟩
      rintro i m H ⟨w, S, kvs, ks, es, rfl, hi, gr, hx, hS, hH, hks, kk, hlen, hgo⟩
      obtain ⟨jgo, jst⟩ := hJ i w H gr.x
      by_cases hlt : i < ds.length
      · obtain ⟨go, yl⟩ := jgo ds[i] (List.getElem?_eq_getElem hlt)
        rw [List.drop_eq_getElem_cons hlt] at hgo
        unfold dcGo at hgo
        cases eb : bindT tgt ds[i] (wipeE env vs) with
        | none => rw [eb] at hgo; cases hgo
        | some env1 =>
          simp only [eb] at hgo
          cases et : mt env1 S with
          | bad => rw [et] at hgo; cases hgo
          | exc c p S2 => rw [et] at hgo; cases hgo
          | ok b S2 =>
            simp only [et] at hgo
            refine .inr ⟨go, fun H' => ∃ (w : Wd) (S : Sto) (kvs : List (List Key × V)) (ks : List (List Key)) (es : List Dt), Grow w1 H1 w H' ∧ A ∈ w.xi ∧ StoR G an w S H' ∧ H' A = some (.dT kvs) ∧ kvs.map (·.1) = ks ∧ PerL G w H' es (kvs.map (·.2)) ∧ kvs.length ≤ i + 1 ∧ dcGo tgt vs mt mk mv env (ds.drop (i + 1)) ks es S = .ok zs Sf,
              fun H' ⟨w, S, kvs, ks, es, a1, a2, a3, a4, a5, a6, a7, a8⟩ => ⟨ds.length - (i + 1), by omega, w, S, kvs, ks, es, rfl, hlt, a1, a2, a3, a4, a5, a6, a7, a8⟩, fun x H' y => ?_⟩
            obtain ⟨g2, s2, p⟩ := yl x H' y S hS
            refine bindT_ok g.K eb ((hE.mono ((g1.trans gr).trans g2)).wipe vs) p fun σ2 hE2 hw => ⟨?_, env1, w, S, hE2, s2, ?_⟩
            · rw [hw vs hsl]
              exact wipe_sub fun _ h => h
            · rw [et]
              intro w3 H3 g3 s3
              have ac : ∀ {w' H'}, Grow w H w' H' → H' A = some (.dT kvs) := fun gg => gg.keep _ _ hH (hS.ax A hx).1
              cases b with
              | false =>
                have g' := g2.trans g3
                exact ⟨w3, S2, kvs, ks, es, gr.trans g', g'.xi _ hx, s3, ac g', hks, kk.mono g', Nat.le_succ_of_le hlen, hgo⟩
              | true =>
                simp only [if_true] at hgo
                cases em : mk env1 S2 with
                | bad => rw [em] at hgo; cases hgo
                | exc c p S3 => rw [em] at hgo; cases hgo
                | ok x S3 =>
                  cases x with
                  | loc n => rw [em] at hgo; cases hgo
                  | p d =>
                    simp only [em] at hgo
                    cases ek : tkD d with
                    | none => rw [ek] at hgo; cases hgo
                    | some key =>
                      simp only [ek] at hgo
                      cases ev : mv env1 S3 with
                      | bad => rw [ev] at hgo; cases hgo
                      | exc c p S4 => rw [ev] at hgo; cases hgo
                      | ok x S4 =>
                        cases x with
                        | loc n => rw [ev] at hgo; cases hgo
                        | p vd =>
                          simp only [ev] at hgo
                          refine ⟨env1, w3, S2, hE2.mono g3, s3, ?_⟩
                          rw [em]
                          intro w4 H4 g4 s4 kv rk
                          refine ⟨env1, w4, S3, (hE2.mono g3).mono g4, s4, ?_⟩
                          rw [ev]
                          intro w5 H5 g5 s5 vv rv
                          have g' := ((g2.trans g3).trans g4).trans g5
                          have hA5 := ac g'
                          have hx5 := g'.xi _ hx
                          cases rk with
                          | p rk =>
                            cases rv with
                            | p rv =>
                              obtain ⟨b, rfl, hb⟩ := tkD_ok (.per (rk.mono g5)) ek
                              have z := putE_ok (k := key) hks (kk.mono g') rv
                              have hlen2 : kvs.length < sizeLine := by omega
                              have gp := (gr.trans g').put (o := .dT (putK kvs key vv)) hA
                              refine ⟨_, DPut.t hA5 hb hlen2, w5, S4, putK kvs key vv, _, _, gp, hx5, s5.put hA5 trivial trivial hx5 (an.m _ _ _ _ gp s1.anc), upd_same, z.1, z.2.put hA5 trivial hx5, ?_, hgo⟩
                              have := length_putK kvs key vv
                              omega
      · have e : i = ds.length := by omega
        subst e
        rw [List.drop_length] at hgo
        cases hgo
        have gd := gr.del hA (s1.outx hA) hH
        have q2 := q1 _ _ gd (hS.del hH trivial hx (an.m _ _ _ _ gd s1.anc)) A kvs delH_same hks (kk.del hH trivial hx)
        rw [upd_del hH] at q2
        exact .inl ⟨jst (Nat.le_refl _), q2⟩
  · exact q1.elim
theorem fzD_read {m : Md} {σ : L2.St} {H : Hp} {Q : VK} (h : tM G an W (mFzD m) σ H Q) : tFd G an W m σ H (fun v H1 => ∃ d u, v = V.ref d ∧ H1 d = some u ∧ Mut (some u) ∧ ∀ od, Q v (upd H1 d (.frz od u))) := by
  obtain ⟨env, w, S, hE, hS, q⟩ := h
  refine ⟨env, w, S, hE, hS, (Pst.bind q).imp (fun z S1 w1 H1 _ g1 s1 q1 a kvs ha e1 k => ?_) fun _ _ _ z => z⟩
  refine ⟨a, _, rfl, upd_same, trivial, fun od => ?_⟩
  rw [upd_upd]
  exact q1 w1 _ (Grow.obj s1 ha) (s1.obj ha) _ (.p (.dtt upd_same e1 (k.mono (Grow.obj s1 ha))))
/-- name = {.. for ..} on one line, as data -/
theorem ss_setDc {k i : Nat} {y : Str} {py : Pos} {kx vx tg iter : Expr} {ifs : List Expr} {scope : Scope} {own : List (Str × Nat)} {pos spos : Pos} {mi : Mi} {tgt : Tg} {mt : Mb} {mk mv : Mx} (g : Gd G X W k) (hy : X.N[i]? = some y) (hyl : X.env.scope.names.lookup y = some .local)
    (hkk : X.env.scope.kind = .function) (hl : (py.line == pos.line) = true) (ha : (scope.names.any fun (n, k) => n == y && (k == .local || k == .cell)) = false)
    (hi : SI G an W X tg iter mi) (ok : BlkOk X.N X.env.scope scope own) (hsl : ∀ i ∈ tgt.slots, i ∈ own.map (·.2))
    (hg : ∀ (s : Shared) (H : Hp) (C : Addr) (cl : List (Str × Addr)) (fp : List Addr), PG (X.blk s H scope (compEnvC scope cl C X.env) fp) tg (tgOf X.K tgt))
    (ht : ∀ (s : Shared) (H : Hp) (C : Addr) (cl : List (Str × Addr)) (fp : List Addr), PTs (X.blk s H scope (compEnvC scope cl C X.env) fp) ifs (tTe G an WF mt))
    (hk : ∀ (s : Shared) (H : Hp) (C : Addr) (cl : List (Str × Addr)) (fp : List Addr), SE G an WF (X.blk s H scope (compEnvC scope cl C X.env) fp) kx mk)
    (he : ∀ (s : Shared) (H : Hp) (C : Addr) (cl : List (Str × Addr)) (fp : List Addr), SE G an WF (X.blk s H scope (compEnvC scope cl C X.env) fp) vx mv)
    (hs : ∀ x, foldedSetIterable iter X.env x = pure x := by intro _; rfl) : SS G an W X (.Assign [.Name y py] (.DictComp kx vx [⟨tg, iter, ifs, 0⟩] scope pos) spos) (sSet i (mFzD (mdDc mi tgt (own.map (·.2)) mt mk mv))) :=
  ss_set (PS.imp (ps_setDc (i := i) (hu1 g) g.calm g.nd hy hyl (sw_trueD hkk hyl hl ha) hi ok hg ht hk he hs) fun D σ H h => dc_read g hsl (fzD_read h))
end
end EV

set_option Elab.async false
set_option linter.all false
set_option maxRecDepth 100000
/-! EvOb: own classes: objects made, their fields read and stored, properties, methods, isinstance. -/
namespace EV
open PySem PySem.Spec PyProof.Rows L2

/-! ### names of fields -/
def fpos : List Str → Str → Option Nat
  | [], _ => none
  | g :: r, f => if f = g then some 0 else (fpos r f).map (· + 1)
theorem zf_get {f : Str} {v : V} : ∀ {ns : List Str} {vs : List V} {i : Nat}, fpos ns f = some i → vs[i]? = some v → (ns.zip vs).lookup f = some v
  | [], _, _, h, _ => by cases h
  | g :: r, vs, i, h, e => by
    unfold fpos at h
    split at h
    · rename_i hg
      cases h
      cases vs with
      | nil => simp at e
      | cons x xs =>
        have e : x = v := by simpa using e
        subst e
        show List.lookup f ((g, x) :: r.zip xs) = some x
        have hb : (f == g) = true := beq_iff_eq.mpr hg
        simp only [List.lookup, hb]
    · rename_i hg
      cases hr : fpos r f with
      | none => rw [hr] at h; cases h
      | some j =>
        rw [hr] at h
        have h : j + 1 = i := by simpa using h
        subst h
        cases vs with
        | nil => simp at e
        | cons x xs =>
          show List.lookup f ((g, x) :: r.zip xs) = some v
          have hb : (f == g) = false := beq_eq_false_iff_ne.mpr hg
          simp only [List.lookup, hb]
          exact zf_get hr (by simpa using e)
theorem zf_no {f : Str} : ∀ {ns : List Str} {vs : List V}, fpos ns f = none → (ns.zip vs).lookup f = none
  | [], _, _ => rfl
  | g :: r, [], _ => rfl
  | g :: r, x :: xs, h => by
    unfold fpos at h
    split at h
    · cases h
    · rename_i hg
      cases hr : fpos r f with
      | some j => rw [hr] at h; cases h
      | none =>
        show List.lookup f ((g, x) :: r.zip xs) = none
        have hb : (f == g) = false := beq_eq_false_iff_ne.mpr hg
        simp only [List.lookup, hb]
        exact zf_no hr
theorem zf_put {f : Str} {v : V} : ∀ {ns : List Str} {vs : List V} {i : Nat}, fpos ns f = some i → i < vs.length → putF f v (ns.zip vs) = ns.zip (vs.set i v)
  | [], _, _, h, _ => by cases h
  | g :: r, [], i, h, e => by simp at e
  | g :: r, x :: xs, i, h, e => by
    unfold fpos at h
    split at h
    · rename_i hg
      cases h
      show (if g = f then (g, v) :: r.zip xs else (g, x) :: putF f v (r.zip xs)) = _
      rw [if_pos hg.symm]
      rfl
    · rename_i hg
      cases hr : fpos r f with
      | none => rw [hr] at h; cases h
      | some j =>
        rw [hr] at h
        have h : j + 1 = i := by simpa using h
        subst h
        show (if g = f then (g, v) :: r.zip xs else (g, x) :: putF f v (r.zip xs)) = _
        rw [if_neg (fun z => hg z.symm), zf_put hr (by simpa using e)]
        rfl
theorem zf_add {f : Str} {v : V} : ∀ {ns : List Str} {vs : List V}, fpos ns f = some vs.length → putF f v (ns.zip vs) = ns.zip (vs ++ [v])
  | [], _, h => by cases h
  | g :: r, [], h => by
    unfold fpos at h
    split at h
    · rename_i hg
      show [(f, v)] = [(g, v)] ++ r.zip []
      rw [hg]
      simp
    · cases hr : fpos r f with
      | none => rw [hr] at h; cases h
      | some j => rw [hr] at h; cases h
  | g :: r, x :: xs, h => by
    unfold fpos at h
    split at h
    · cases h
    · rename_i hg
      cases hr : fpos r f with
      | none => rw [hr] at h; cases h
      | some j =>
        rw [hr] at h
        have h : j = xs.length := by simpa using h
        subst h
        show (if g = f then (g, v) :: r.zip xs else (g, x) :: putF f v (r.zip xs)) = _
        rw [if_neg (fun z => hg z.symm), zf_add hr]
        rfl
theorem fpos_lt {f : Str} : ∀ {ns : List Str} {i : Nat}, fpos ns f = some i → i < ns.length
  | [], _, h => by cases h
  | g :: r, i, h => by
    unfold fpos at h
    split at h
    · cases h; simp
    · cases hr : fpos r f with
      | none => rw [hr] at h; cases h
      | some j =>
        rw [hr] at h
        have h : j + 1 = i := by simpa using h
        subst h
        have := fpos_lt hr
        simp; omega

section
variable {G : Stat} {an : An} {w w' : Wd} {H H' : Hp} {S S' : Sto} {W : WX} {X : Cx}
/-- what must be told of the class c -/
structure ObT (G : Stat) (c : Nat) (ns : List Str) : Prop where
  fl : G.fl c = ns
  cls : Cls G.K (G.ca c)
  na : ∀ f ∈ ns, NoAttr G.K (G.ca c) f
  len : ns.length < 1000
  ha : PySem.W.findIn G.K (.ref (G.ca c)) "__class__" = some (some (.builtin "object.__class__"))
  hn : PySem.W.specialIn G.K (.builtin "object.__class__") "__get__" = some (some (.builtin "getset_descriptor.__get__"))
  htk : PySem.W.takesIn G.K (.builtin "object.__class__") = some true
  hm : PySem.W.mroIn G.K (G.ca c) (.type "object") = some true
theorem fpos_mem {f : Str} : ∀ {ns : List Str} {i : Nat}, fpos ns f = some i → f ∈ ns
  | [], _, h => by cases h
  | g :: r, i, h => by
    unfold fpos at h
    split at h
    · rename_i hg; rw [hg]; exact List.mem_cons_self
    · cases hr : fpos r f with
      | none => rw [hr] at h; cases h
      | some j => exact List.mem_cons_of_mem _ (fpos_mem hr)

/-! ### fields -/
def dFld (c i : Nat) : Dt → Option Dt
  | .obj c' _ ds => if c' = c then ds[i]? else none
  | _ => none
/-- e.f -/
theorem se_fld {c i : Nat} {ns : List Str} {f : Str} {e : Expr} {m : Mx} {pos : Pos} {k : Nat} (g : Gd G X W k) (T : ObT G c ns) (hf : fpos ns f = some i) (h : SE G an W X e m) (hb : attributeBase e f X.env (eval e X.env) = eval e X.env := by rfl) :
    SE G an W X (.Attribute e f pos) (mOp1 (dFld c i) m) := by
  refine PE.imp (pe_fld h hb) fun σ H Q ⟨env, w, S, hE, hS, q⟩ => ⟨env, w, S, hE, hS, (Pst.bind q).imp (fun x S1 w1 H1 _ g1 s1 q1 v rv => ?_) fun _ _ _ z => z⟩
  cases h1 : deref S1 x with
  | none => simp only [h1] at q1; exact q1.elim
  | some d => cases h3 : dFld c i d with
    | none => simp only [h1, h3] at q1; exact q1.elim
    | some z =>
      simp only [h1, h3] at q1
      cases d with
      | obj c' n ds =>
        have h4 : (if c' = c then ds[i]? else none) = some z := h3
        clear h3
        split at h4
        · rename_i ec
          subst ec
          obtain ⟨a, dx, vs, rfl, ha, hl, kk⟩ := (rv.top s1 h1).obj'
          obtain ⟨u, hu, pu⟩ := kk.get h4
          rw [T.fl] at ha
          exact ⟨a, _, dx, _, u, rfl, ha, by rw [g.K]; exact T.cls, by rw [g.K]; exact T.na f (fpos_mem hf), zf_get hf hu, q1 w1 H1 Grow.refl s1 u (.p pu)⟩
        · cases h4
      | _ => cases h3
/-- what must be told of a property f of the class c that hands the field fd out -/
structure PrT (G : Stat) (c : Nat) (f fd : Str) (k : Nat) : Prop where
  ex : ∃ p gt fn, PropOf G.K (G.ca c) f p gt ∧ FnOk G.P G.w G.K G.mg G.base CX0 k gt fn ["self"] (getSp (G.ca c) fd) ∧ Binds G.K fn ["self"] []
theorem PrT.mono {c j k : Nat} {f fd : Str} (h : PrT G c f fd j) (hj : j ≤ k) : PrT G c f fd k :=
  ⟨let ⟨p, gt, fn, a, b, d⟩ := h.ex; ⟨p, gt, fn, a, b.mono hj, d⟩⟩
theorem se_prop {c i : Nat} {ns : List Str} {f fd : Str} {e : Expr} {m : Mx} {pos : Pos} {k : Nat} (g : Gd G X W (k + 1)) (T : ObT G c ns) (hf : fpos ns fd = some i) (P : PrT G c f fd k) (h : SE G an W X e m) (hb : attributeBase e f X.env (eval e X.env) = eval e X.env := by rfl) :
    SE G an W X (.Attribute e f pos) (mOp1 (dFld c i) m) := by
  obtain ⟨p, gt, fn, hp, F, b⟩ := P.ex
  have F : FnOk X.prog X.w X.K X.mg X.base CX0 k gt fn ["self"] (getSp (G.ca c) fd) := by rw [g.P, g.w, g.K, g.mg, g.base]; exact F
  refine PE.imp (pe_prop (C := G.ca c) (dvs := []) (ds := []) (E := fun _ _ _ => False) h (by rw [g.K]; exact T.cls) (by rw [g.K]; exact hp) F g.room (by rw [g.K]; exact b) .nil (fun _ _ _ _ _ _ _ z => z.elim) hb) fun σ H Q ⟨env, w, S, hE, hS, q⟩ => ⟨env, w, S, hE, hS, (Pst.bind q).imp (fun x S1 w1 H1 _ g1 s1 q1 v rv => ?_) fun _ _ _ z => z⟩
  cases h1 : deref S1 x with
  | none => simp only [h1] at q1; exact q1.elim
  | some d => cases h3 : dFld c i d with
    | none => simp only [h1, h3] at q1; exact q1.elim
    | some z =>
      simp only [h1, h3] at q1
      cases d with
      | obj c' n ds =>
        have h4 : (if c' = c then ds[i]? else none) = some z := h3
        clear h3
        split at h4
        · rename_i ec
          subst ec
          obtain ⟨a, dx, vs, rfl, ha, hl, kk⟩ := (rv.top s1 h1).obj'
          obtain ⟨u, hu, pu⟩ := kk.get h4
          rw [T.fl] at ha
          exact ⟨a, dx, _, rfl, ha, a, dx, _, u, rfl, ha, zf_get hf hu, q1 w1 H1 Grow.refl s1 u (.p pu)⟩
        · cases h4
      | _ => cases h3
/-- o.f = value, o a cell -/
def putO (c i : Nat) (v : Dt) : Dt → Option Dt
  | .obj c' m ds => if c' = c then (if i < ds.length then some (.obj c m (ds.set i v)) else if i = ds.length then (match m with
    | m + 1 => some (.obj c m (ds ++ [v]))
    | 0 => none) else none) else none
  | _ => none
def mSetF (c i : Nat) (mo me : Mx) : Slo → Sto → Rz Unit := fun env S => (me env S).bind fun v S1 => (mo env S1).bind fun x S2 => match v, x with
  | .p d, .loc n => (match S2[n]? with
    | some o => (match putO c i d o with
      | some o' => .ok () (S2.set n o')
      | none => .bad)
    | none => .bad)
  | _, _ => .bad
def sSetF (c i : Nat) (mo me : Mx) : Sx := fun env S => liftE (mSetF c i mo me env S) env fun _ S1 => .nx env S1
theorem ss_setf {c i : Nat} {ns : List Str} {f : Str} {o value : Expr} {mo me : Mx} {pos pos' : Pos} {k : Nat} (g : Gd G X W k) (T : ObT G c ns) (hf : fpos ns f = some i) (ho : SE G an W X o mo) (he : SE G an W X value me)
    (hs : swapsWith value (some (.Attribute o f pos')) pos.line X.env = pure false := by rfl) : SS G an W X (.Assign [.Attribute o f pos'] value pos) (sSetF c i mo me) := by
  refine PS.imp (ps_fld ho he hs) fun D σ H ⟨env, w, S, hE, hS, q⟩ => ⟨env, w, S, hE, hS, (Pst.bind (q.lift hE)).imp (fun v S1 w1 H1 r1 g1 s1 q1 v' rv => ?_) fun _ _ _ z => z⟩
  refine ⟨env, w1, S1, hE.mono g1, s1, (Pst.bind q1).imp (fun x S2 w2 H2 r2 g2 s2 q2 x' rx => ?_) fun _ _ _ z => z⟩
  split at q2
  · rename_i d n
    cases rv with
    | p pv => cases rx with
      | @loc _ a hn =>
        split at q2
        · rename_i o e1
          split at q2
          · rename_i o' e2
            cases o with
            | obj c' m ds =>
              have e3 : (if c' = c then (if i < ds.length then some (.obj c m (ds.set i d)) else if i = ds.length then (match m with
                | m + 1 => some (.obj c m (ds ++ [d]))
                | 0 => none) else none) else none) = some o' := e2
              clear e2
              split at e3
              · rename_i ec
                subst ec
                obtain ⟨z, f1, cr⟩ := s2.at' n a hn
                rw [e1] at f1
                cases f1
                obtain ⟨dx, vs, ha, hl, kk⟩ : ∃ dx vs, H2 a = some (.ins (G.ca c') dx ((G.fl c').zip vs)) ∧ ds.length + m = (G.fl c').length ∧ PerL G w2 H2 ds vs := by
                  cases cr with
                  | obj h e k => exact ⟨_, _, h, e, k⟩
                rw [T.fl] at ha hl
                have pv2 := pv.mono g2
                have lz : (ns.zip vs).length < 1000 := by
                  have := T.len
                  rw [List.length_zip]
                  omega
                refine ⟨a, G.ca c', dx, _, rfl, ha, by rw [g.K]; exact T.cls, by rw [g.K]; exact T.na f (fpos_mem hf), lz, ?_⟩
                split at e3
                · rename_i hi
                  cases e3
                  have hz : putF f v' (ns.zip vs) = ns.zip (vs.set i v') := zf_put hf (by rw [← kk.length]; exact hi)
                  rw [hz]
                  have gw := Grow.write (o := .ins (G.ca c') dx (ns.zip (vs.set i v'))) s2 hn
                  have cr2 : CeR G w2 (upd H2 a (.ins (G.ca c') dx (ns.zip (vs.set i v')))) (.obj c' m (ds.set i d)) a := .obj (by rw [T.fl]; exact upd_same) (by rw [T.fl, List.length_set]; exact hl) ((kk.set i pv2).mono gw)
                  have sw := s2.writeO (o := .ins (G.ca c') dx (ns.zip (vs.set i v'))) hn trivial cr2
                  exact q2 w2 _ gw sw w2 _ σ Grow.refl sw (((hE.mono g1).mono g2).mono gw)
                · split at e3
                  · rename_i hi2
                    split at e3
                    · rename_i m'
                      cases e3
                      have hz : putF f v' (ns.zip vs) = ns.zip (vs ++ [v']) := zf_add (by rw [hf, hi2, kk.length])
                      rw [hz]
                      have gw := Grow.write (o := .ins (G.ca c') dx (ns.zip (vs ++ [v']))) s2 hn
                      have cr2 : CeR G w2 (upd H2 a (.ins (G.ca c') dx (ns.zip (vs ++ [v'])))) (.obj c' m' (ds ++ [d])) a := .obj (by rw [T.fl]; exact upd_same) (by rw [T.fl, List.length_append, List.length_singleton]; omega) ((kk.append (.cons pv2 .nil)).mono gw)
                      have sw := s2.writeO (o := .ins (G.ca c') dx (ns.zip (vs ++ [v']))) hn trivial cr2
                      exact q2 w2 _ gw sw w2 _ σ Grow.refl sw (((hE.mono g1).mono g2).mono gw)
                    · cases e3
                  · cases e3
              · cases e3
            | _ => cases e2
          · exact q2.elim
        · exact q2.elim
  · exact q2.elim
end
end EV

set_option Elab.async false
set_option linter.all false
set_option maxRecDepth 100000
/-! EvOc: own classes: made, methods called, isinstance. -/
namespace EV
open PySem PySem.Spec PyProof.Rows L2
section
variable {G : Stat} {an : An} {w w' : Wd} {H H' : Hp} {S S' : Sto} {W : WX} {X : Cx}
theorem StoR.chg {an' : An} (s : StoR G an' w S H) (p : an.p w H) : StoR G an w S H := ⟨s.len, s.nd, s.at', s.ax, p, s.tb⟩
/-- what must be told of the class x, that __init__ is f of n arguments and the object itself -/
structure MkT (G : Stat) (k : Nat) (x : Str) (c n : Nat) (f : Fs) : Prop where
  ex : ∃ fa fd ps, Mk G.K (G.ca c) fa ∧ FnOk G.P G.w G.K G.mg G.base (L2.CX G.P G.w) k fa fd ps (spOf G (n + 1) f) ∧ Binds G.K fd ps []
  mg : G.mg x = some (.ref (G.ca c))
theorem MkT.mono {j k : Nat} {x : Str} {c n : Nat} {f : Fs} (h : MkT G j x c n f) (hj : j ≤ k) : MkT G k x c n f := ⟨let ⟨fa, fd, ps, M, F, b⟩ := h.ex; ⟨fa, fd, ps, M, F.mono hj, b⟩, h.mg⟩
theorem go_make {k : Nat} {C f : Addr} {fd : FuncData} {ps : List Str} {sp : Sp} {us : List Value} {vs : List V} {pins : List (Addr × Obj)} {σ : L2.St} {s : Shared} {Q : VK} (g : Gd G X W (k + 1)) (M : Mk G.K C f) (F : FnOk G.P G.w G.K G.mg G.base (L2.CX G.P G.w) k f fd ps sp) (hb : Binds G.K fd ps [])
    (I : Inv X pins σ H s) (r : Vals vs us) (h : ∀ x dx, H x = none → H dx = none → dx ≠ x → sp (.ref x :: vs) (upd (upd H dx (.own x)) x (.ins C dx [])) (fun v H2 => v = .non ∧ Q (.ref x) H2) (WE W σ)) :
    wpAny (model X.prog X.w) X.A (call (.ref C) us) (EP X pins σ Q) X.xe s := by
  have F : FnOk X.prog X.w X.K X.mg X.base (L2.CX X.prog X.w) k f fd ps sp := by rw [g.P, g.w, g.K, g.mg, g.base]; exact F
  have M : Mk X.K C f := by rw [g.K]; exact M
  have hb : Binds X.K fd ps [] := by rw [g.K]; exact hb
  have hq := h (s.heap.objs.size + 1) s.heap.objs.size (I.hok.fresh (Nat.le_succ _)) (I.hok.fresh (Nat.le_refl _)) (Nat.ne_of_lt (Nat.lt_succ_self _))
  have I2 := Inv.made (C := C) I
  have r2 : Vals (V.ref (s.heap.objs.size + 1) :: vs) (Value.ref (s.heap.objs.size + 1) :: us) := .cons rfl r
  have hl : ((Value.ref (s.heap.objs.size + 1) :: us) ++ []).length = ps.length := by
    rw [List.append_nil, ← r2.length]
    exact F.len _ _ _ _ hq
  have bt := hb { s with heap := (s.heap.push PySem.W.emptyDict).push (PySem.W.instObj C s.heap.objs.size) } (Value.ref (s.heap.objs.size + 1) :: us) I2.kIn hl
  rw [List.append_nil] at bt
  refine wpAny_call (make_map (f := f) I.kIn M.makes M.init (beq_iff_eq.mp M.fn) (codeAny_mono (F.run _ X.stack _ _ ⟨Value.ref (s.heap.objs.size + 1) :: us, []⟩ (Value.ref (s.heap.objs.size + 1) :: us) _ _ (WE W σ) (g.room.make C us [])
    (I2.env0.make C us []) bt r2 hq) fun r s' hq' => ?_))
  cases r with
  | error e => exact passAt g.tk σ pins _ _ e s' I2 hq'
  | ok fl =>
    cases fl with
    | ret u =>
      obtain ⟨v, H', I3, rv, ev, q3⟩ := I2.after hq'
      subst ev
      exact ⟨rv, ⟨V.ref (s.heap.objs.size + 1), H', I3, rfl, q3⟩⟩
    | next => exact False.elim hq'
    | brk => exact False.elim hq'
    | cont => exact False.elim hq'

/-- C(..): the new object as a cell, the last one -/
def mkGo (c m : Nat) (f : Fs) (n : Nat) (xs : List Vl) (S : Sto) : Rz Dt := if xs.length = n then (match f (.loc S.length :: xs) (S ++ [.obj c m []]) with
  | .ok (.p .non) S2 => (match S2[S.length]? with
    | some d => .ok d S2
    | none => .bad)
  | .exc k p S2 => .exc k p (S2.take S.length)
  | _ => .bad) else .bad
/-- .. as data -/
def mMk (c m : Nat) (f : Fs) (n : Nat) (ma : Ma) : Mx := fun env S => (ma env S).bind fun xs S1 => (mkGo c m f n xs S1).bind fun d S2 => if full d = true then .ok (.p d) (S2.take S1.length) else .bad
/-- .. as a cell -/
def mMkO (c m : Nat) (f : Fs) (n : Nat) (ma : Ma) : Mx := fun env S => (ma env S).bind fun xs S1 => (mkGo c m f n xs S1).bind fun _ S2 => .ok (.loc S1.length) S2
theorem mk_read {c m n k : Nat} {x0 : Str} {f : Fs} {xs : List Vl} {vs : List V} {σ : L2.St} {Q : VK} {fin : Dt → Sto → Rz Vl} (hm : (G.fl c).length = m) (s : StoR G an w S H) (r : RvL G w H xs vs)
    (q : Pst G an w H ((mkGo c m f n xs S).bind fin) (fun x _ w' H' => ∀ v, Rv G w' H' x v → Q v H') (fun c d H' => W c d σ H'))
    (hfin : ∀ x d S2 w' H', H x = none → Grow w H w' H' → StoR G an w' S2 H' → w'.rho[S.length]? = some x → S2[S.length]? = some d → CeR G w' H' d x →
      Pst G an w H (fin d S2) (fun x _ w' H' => ∀ v, Rv G w' H' x v → Q v H') (fun c d H' => W c d σ H') → Q (.ref x) H') :
    ∀ x dx, H x = none → H dx = none → dx ≠ x → spOf G (n + 1) f (.ref x :: vs) (upd (upd H dx (.own x)) x (.ins (G.ca c) dx [])) (fun v H2 => v = .non ∧ Q (.ref x) H2) (WE W σ) := by
  intro x dx hx hdx ne
  have s1 := s.obj (o := .own x) hdx
  have g1 := Grow.obj (o := .own x) s hdx
  have hx1 : upd H dx (.own x) x = none := by rw [upd_ne (Ne.symm ne)]; exact hx
  have g2 := Grow.cellO (o := .ins (G.ca c) dx []) s1 hx1
  have cr : CeR G ⟨w.rho ++ [x], w.xi⟩ (upd (upd H dx (.own x)) x (.ins (G.ca c) dx [])) (.obj c m []) x := .obj (dx := dx) (vs := []) (by simp [upd_same]) (by simpa using hm.symm) .nil
  have s2 := s1.cellO (o := .ins (G.ca c) dx []) hx1 (by intro ps e; cases e) cr
  have gg := g1.trans g2
  unfold mkGo at q
  split at q
  · rename_i hl
    refine ⟨.loc S.length :: xs, ⟨w.rho ++ [x], w.xi⟩, S ++ [.obj c m []], .cons (.loc ?_) (r.mono gg), by simp [hl], s2.to0, ?_⟩
    · show (w.rho ++ [x])[S.length]? = some x
      rw [s.len]; simp
    · cases e : f (.loc S.length :: xs) (S ++ [.obj c m []]) with
      | bad => rw [e] at q; exact q.elim
      | exc kc p S2 =>
        rw [e] at q
        intro w' H' cls dd g3 s3 x3
        have g4 := gg.trans g3
        exact q w H' cls dd g4.cut (s.cut g4 (s3.chg (an.m _ _ _ _ g4 s.anc))) (x3.cut g4)
      | ok y S2 =>
        rw [e] at q
        cases y with
        | loc l => exact q.elim
        | p d =>
          cases d with
          | non =>
            intro w' H' g3 s3 v rv
            have g4 := gg.trans g3
            have s4 : StoR G an w' S2 H' := s3.chg (an.m _ _ _ _ g4 s.anc)
            have hr : w'.rho[S.length]? = some x := by
              obtain ⟨t, et⟩ := g3.pre
              rw [et, s.len]
              simp
            obtain ⟨d, f1, f2⟩ := s4.at' _ _ hr
            simp only [f1, Rz.bind] at q
            have ev : v = .non := by
              cases rv with
              | p h => cases h; rfl
            exact ⟨ev, hfin x d S2 w' H' hx g4 s4 hr f1 f2 q⟩
          | _ => exact q.elim
  · exact q.elim
theorem se_mk {k c m n : Nat} {x : Str} {f : Fs} {e : Expr} {es : List Expr} {ma : Ma} {p pos : Pos} (g : Gd G X W (k + 1)) (M : MkT G k x c n f) (hm : (G.fl c).length = m) (hkp : PySem.W.keepIn G.K (.ref (G.ca c)) = true) (ha : SA G an W X (e :: es) ma) (hg : Gl X x := by rfl)
    (hdb : (x == ("__debug__" : Str)) = false := by decide) (he : starEach (e :: es) X.env = (false, eval e X.env) :: starEach es X.env := by rfl) (hpl : (backTo pos (starEach es X.env)).any (·.1) = false := by rfl) :
    SE G an W X (.Call (.Name x p) (e :: es) [] pos) (mMk c m f n ma) := by
  obtain ⟨fa, fd, ps, MM, F, hb⟩ := M.ex
  refine ⟨fun pins s σ H Q I ⟨env, w, S, hE, hS, q⟩ => ?_⟩
  refine wpAny_Call_Name_kw (ld_glob I hg (by rw [g.mg]; exact M.mg) ?_ hdb)
  refine PySem.W.callWith_K (h₀ := X.base) I.ok.mod.kin (by rw [g.K]; exact hkp) (thn (ha.run pos pins s σ H (fun vs H1 => ∀ x dx, H1 x = none → H1 dx = none → dx ≠ x → spOf G (n + 1) f (.ref x :: vs) (upd (upd H1 dx (.own x)) x (.ins (G.ca c) dx [])) (fun v H2 => v = .non ∧ Q (.ref x) H2) (WE W σ)) I ⟨env, w, S, hE, hS, (Pst.bind q).imp (fun xs S1 w1 H1 r1 g1 s1 q1 vs rvs => ?_) fun _ _ _ z => z⟩) fun us s1 ⟨vs, H1, I1, r, q⟩ => ⟨I1.kIn, ?_⟩) he hpl
  · refine mk_read (k := k) (x0 := x) hm s1 rvs q1 fun x d S2 w' H' hx g4 s4 hr hd cr qf => ?_
    split at qf
    · rename_i hfull
      refine qf w1 H' g4.cut (s1.cut g4 s4) _ (.p ((cr.cut g4).data hfull (s1.out hx) (s1.outx hx)))
    · exact qf.elim
  · exact go_make g MM F hb I1 r q
theorem se_mkO {k c m n : Nat} {x : Str} {f : Fs} {e : Expr} {es : List Expr} {ma : Ma} {p pos : Pos} (g : Gd G X W (k + 1)) (M : MkT G k x c n f) (hm : (G.fl c).length = m) (hkp : PySem.W.keepIn G.K (.ref (G.ca c)) = true) (ha : SA G an W X (e :: es) ma) (hg : Gl X x := by rfl)
    (hdb : (x == ("__debug__" : Str)) = false := by decide) (he : starEach (e :: es) X.env = (false, eval e X.env) :: starEach es X.env := by rfl) (hpl : (backTo pos (starEach es X.env)).any (·.1) = false := by rfl) :
    SE G an W X (.Call (.Name x p) (e :: es) [] pos) (mMkO c m f n ma) := by
  obtain ⟨fa, fd, ps, MM, F, hb⟩ := M.ex
  refine ⟨fun pins s σ H Q I ⟨env, w, S, hE, hS, q⟩ => ?_⟩
  refine wpAny_Call_Name_kw (ld_glob I hg (by rw [g.mg]; exact M.mg) ?_ hdb)
  refine PySem.W.callWith_K (h₀ := X.base) I.ok.mod.kin (by rw [g.K]; exact hkp) (thn (ha.run pos pins s σ H (fun vs H1 => ∀ x dx, H1 x = none → H1 dx = none → dx ≠ x → spOf G (n + 1) f (.ref x :: vs) (upd (upd H1 dx (.own x)) x (.ins (G.ca c) dx [])) (fun v H2 => v = .non ∧ Q (.ref x) H2) (WE W σ)) I ⟨env, w, S, hE, hS, (Pst.bind q).imp (fun xs S1 w1 H1 r1 g1 s1 q1 vs rvs => ?_) fun _ _ _ z => z⟩) fun us s1 ⟨vs, H1, I1, r, q⟩ => ⟨I1.kIn, ?_⟩) he hpl
  · refine mk_read (k := k) (x0 := x) hm s1 rvs q1 fun x d S2 w' H' hx g4 s4 hr hd cr qf => ?_
    exact qf w' H' g4 s4 _ (.loc hr)
  · exact go_make g MM F hb I1 r q

/-! ### methods -/
structure MtT (G : Stat) (k c : Nat) (m : Str) (n : Nat) (f : Fs) : Prop where
  ex : ∃ fa fd ps, Meth G.K (G.ca c) m fa ∧ FnOk G.P G.w G.K G.mg G.base (L2.CX G.P G.w) k fa fd ps (spOf G (n + 1) f) ∧ Binds G.K fd ps []
theorem MtT.mono {j k c n : Nat} {m : Str} {f : Fs} (h : MtT G j c m n f) (hj : j ≤ k) : MtT G k c m n f := ⟨let ⟨fa, fd, ps, M, F, b⟩ := h.ex; ⟨fa, fd, ps, M, F.mono hj, b⟩⟩
def isObjC (c : Nat) : Option Dt → Bool
  | some (.obj c' _ _) => c' == c
  | _ => false
def mMeth (c : Nat) (f : Fs) (n : Nat) (mo : Mx) (ma : Ma) : Mx := fun env S => (mo env S).bind fun x S1 => if isObjC c (deref S1 x) = true then (ma env S1).bind fun xs S2 => if xs.length = n then f (x :: xs) S2 else .bad else .bad
theorem isObjC_eq {c : Nat} {o : Option Dt} (h : isObjC c o = true) : ∃ m ds, o = some (.obj c m ds) := by
  unfold isObjC at h
  split at h
  · rename_i c' m ds
    have e : c' = c := by simpa using h
    subst e
    exact ⟨_, _, rfl⟩
  · cases h
theorem se_meth {k c n : Nat} {ns : List Str} {m : Str} {f : Fs} {o e : Expr} {es : List Expr} {mo : Mx} {ma : Ma} {apos pos : Pos} {pl : Sem Bool} (g : Gd G X W k) (T : ObT G c ns) (hf : fpos ns m = none) (M : MtT G k c m n f) (ho : SE G an W X o mo) (ha : SA G an W X (e :: es) ma)
    (hst : starEach (e :: es) X.env = (false, eval e X.env) :: starEach es X.env := by rfl) (hpl : (backTo pos (starEach es X.env)).any (·.1) = false := by rfl)
    (ht : eval (.Call (.Attribute o m apos) (e :: es) [] pos) X.env = (do
      let ov ← eval o X.env
      standAt apos.atName
      let (f, first) ← holding [ov] (getMethod ov m pl)
      callWith pos f first (backTo pos (starEach (e :: es) X.env)) (backToKw pos (keywordEach [] X.env))) := by rfl) :
    SE G an W X (.Call (.Attribute o m apos) (e :: es) [] pos) (mMeth c f n mo ma) := by
  obtain ⟨fa, fd, ps, MM, F, hb⟩ := M.ex
  have MM : Meth X.K (G.ca c) m fa := by rw [g.K]; exact MM
  refine ⟨fun pins s σ H Q I ⟨env, w, S, hE, hS, q⟩ => ?_⟩
  refine PySem.W.methodCall_KW (pl := pl) (thn (ho.run pins s σ H (fun v H1 => ∃ a dx fs, v = .ref a ∧ H1 a = some (.ins (G.ca c) dx fs) ∧ fs.lookup m = none ∧ tAr G an W ma σ H1 fun vs H2 => spOf G (n + 1) f (.ref a :: vs) H2 Q (WE W σ)) I ⟨env, w, S, hE, hS, (Pst.bind q).imp (fun x S1 w1 H1 _ g1 s1 q1 v rv => ?_) fun _ _ _ z => z⟩) fun u s1 ⟨x, H1, I1, rx, a, dx, fs, ex, ea, l, q⟩ => ?_) ht
  · split at q1
    · rename_i ho2
      obtain ⟨mm, ds, eo⟩ := isObjC_eq ho2
      obtain ⟨a, dx, vs, rfl, ha2, hl, kk⟩ := (rv.top s1 eo).obj'
      rw [T.fl] at ha2
      refine ⟨a, dx, _, rfl, ha2, zf_no hf, env, w1, S1, hE.mono g1, s1, (Pst.bind q1).imp (fun xs S2 w2 H2 _ g2 s2 q2 us rus => ?_) fun _ _ _ z => z⟩
      split at q2
      · rename_i hl2
        exact spOf_of (.cons (rv.mono g2) rus) (by simp [hl2]) s2 q2
      · exact q2.elim
    · exact q1.elim
  · subst ex
    obtain rfl : u = Value.ref a := rx
    refine getmeth_ok I1 ea (by rw [g.K]; exact T.cls) MM l ?_
    refine PySem.W.callWith_K (first := [.ref a]) (h₀ := X.base) I.ok.mod.kin MM.kp (thn (ha.run pos pins s1 σ H1 _ I1 q) fun us s2 ⟨vs, H2, I2, r, q2⟩ => ⟨I2.kIn, ?_⟩) hst hpl
    exact go_fn (us := .ref a :: us) (vs := .ref a :: vs) (dvs := []) (ds := []) g F hb .nil I2 (.cons rfl r) (by rw [List.append_nil]; exact q2)
theorem se_meth0 {k c : Nat} {ns : List Str} {m : Str} {f : Fs} {o : Expr} {mo : Mx} {apos pos : Pos} {pl : Sem Bool} (g : Gd G X W k) (T : ObT G c ns) (hf : fpos ns m = none) (M : MtT G k c m 0 f) (ho : SE G an W X o mo)
    (ht : eval (.Call (.Attribute o m apos) [] [] pos) X.env = (do
      let ov ← eval o X.env
      standAt apos.atName
      let (f, first) ← holding [ov] (getMethod ov m pl)
      callWith pos f first (backTo pos (starEach [] X.env)) (backToKw pos (keywordEach [] X.env))) := by rfl) :
    SE G an W X (.Call (.Attribute o m apos) [] [] pos) (mMeth c f 0 mo maNil) := by
  obtain ⟨fa, fd, ps, MM, F, hb⟩ := M.ex
  have MM : Meth X.K (G.ca c) m fa := by rw [g.K]; exact MM
  refine ⟨fun pins s σ H Q I ⟨env, w, S, hE, hS, q⟩ => ?_⟩
  refine PySem.W.methodCall_KW (pl := pl) (thn (ho.run pins s σ H (fun v H1 => ∃ a dx fs, v = .ref a ∧ H1 a = some (.ins (G.ca c) dx fs) ∧ fs.lookup m = none ∧ spOf G 1 f [.ref a] H1 Q (WE W σ)) I ⟨env, w, S, hE, hS, (Pst.bind q).imp (fun x S1 w1 H1 _ g1 s1 q1 v rv => ?_) fun _ _ _ z => z⟩) fun u s1 ⟨x, H1, I1, rx, a, dx, fs, ex, ea, l, q⟩ => ?_) ht
  · split at q1
    · rename_i ho2
      obtain ⟨mm, ds, eo⟩ := isObjC_eq ho2
      obtain ⟨a, dx, vs, rfl, ha2, hl, kk⟩ := (rv.top s1 eo).obj'
      rw [T.fl] at ha2
      exact ⟨a, dx, _, rfl, ha2, zf_no hf, spOf_of (.cons rv .nil) rfl s1 q1⟩
    · exact q1.elim
  · subst ex
    obtain rfl : u = Value.ref a := rx
    refine getmeth_ok I1 ea (by rw [g.K]; exact T.cls) MM l ?_
    exact PySem.W.callWith_K0 (first := [.ref a]) I1.kIn MM.kp (go_fn (us := [.ref a]) (vs := [.ref a]) (dvs := []) (ds := []) g F hb .nil I1 (.cons rfl .nil) (by exact q))

/-! ### isinstance -/
def tyX (G : Stat) : Dt → Option Value
  | .obj c _ _ => some (.ref (G.ca c))
  | d => (tyD d).map Value.type
/-- which classes are told: by built-in types, by own classes -/
def dIsG (tb : String → Option Bool) (tc : Nat → Option Bool) (d : Dt) : Option Dt := match d with
  | .obj c _ _ => (tc c).map .bl
  | d => match tyD d with
    | some t => (tb t).map .bl
    | none => none
structure IsT (G : Stat) (u : Value) (tb : String → Option Bool) (tc : Nat → Option Bool) : Prop where
  b : ∀ t b, tb t = some b → PySem.W.kitOne G.K (.type t) u = some b
  c : ∀ c b, tc c = some b → (∃ ns, ObT G c ns) ∧ PySem.W.kitOne G.K (.ref (G.ca c)) u = some b
theorem Tp.objTy {c m : Nat} {ds : List Dt} {v : V} {ns : List Str} (T : ObT G c ns) (h : Tp G w H (.obj c m ds) v) : TyY G.K H v (.ref (G.ca c)) := by
  obtain ⟨a, dx, vs, rfl, ha, _, _⟩ := h.obj'
  exact .x (.base (.ins ha T.cls T.ha T.hn T.htk T.hm))
theorem isG_ok {u : Value} {c : V} {tb : String → Option Bool} {tc : Nat → Option Bool} {d z : Dt} {v : V} {Q : VK} (T : IsT G u tb tc) (cu : ClsV c u) (h : Tp G w H d v) (e : dIsG tb tc d = some z) (q : ∀ b, z = .bl b → Q (.bl b) H) : rIsiY G.K [v, c] H Q := by
  have fin : ∀ {t : String}, tyD d = some t → (tb t).map Dt.bl = some z → rIsiY G.K [v, c] H Q := fun {t} ht e => by
    cases e2 : tb t with
    | none => rw [e2] at e; cases e
    | some b =>
      rw [e2] at e
      exact ⟨v, c, _, u, b, rfl, cu, h.ty ht, T.b t b e2, q b (Option.some.inj e).symm⟩
  cases d with
  | obj k m ds =>
    cases e2 : tc k with
    | none => unfold dIsG at e; simp [e2] at e
    | some b =>
      have e : (tc k).map Dt.bl = some z := e
      rw [e2] at e
      obtain ⟨⟨ns, O⟩, ko⟩ := T.c k b e2
      exact ⟨v, c, _, u, b, rfl, cu, h.objTy O, ko, q b (Option.some.inj e).symm⟩
  | fn i => cases e
  | fro ds => cases e
  | non => exact fin rfl e
  | bl b => exact fin rfl e
  | int i => exact fin rfl e
  | str x => exact fin rfl e
  | tup ds => exact fin rfl e
  | lst ds => exact fin rfl e
  | dct a b => exact fin rfl e
  | dtt a b => exact fin rfl e
  | tux ds => exact fin rfl e
  | dcx a b c d => exact fin rfl e
theorem isG_read {k : Nat} {e e2 : Expr} {m : Mx} {p pos : Pos} {u : Value} {c : V} {tb : String → Option Bool} {tc : Nat → Option Bool} (g : Gd G X W k) (h : SE G an W X e m) (hm : G.mg "isinstance" = none) (T : IsT G u tb tc) (cu : ClsV c u) (hT : PE X e2 (tC c)) (hg : Gl X "isinstance")
    (hs1 : starEach [e2] X.env = (false, eval e2 X.env) :: starEach [] X.env) (he : starEach [e, e2] X.env = (false, eval e X.env) :: starEach [e2] X.env) (hpl : (backTo pos (starEach [e2] X.env)).any (·.1) = false) :
    SE G an W X (.Call (.Name "isinstance" p) [e, e2] [] pos) (mOp1 (dIsG tb tc) m) := by
  refine PE.imp (pe_callB call_isiY hg (by rw [g.mg]; exact hm) (by decide +kernel) (pa_cons h (pa_cons hT pa_nil hs1) he) (by decide) (by decide) he hpl) fun σ H Q ⟨env, w, S, hE, hS, q⟩ => ⟨env, w, S, hE, hS, (Pst.bind q).imp (fun x S1 w1 H1 r1 g1 s1 q1 v rv => ?_) fun _ _ _ z => z⟩
  cases h1 : deref S1 x with
  | none => simp only [h1] at q1; exact q1.elim
  | some d => cases h3 : dIsG tb tc d with
    | none => simp only [h1, h3] at q1; exact q1.elim
    | some z =>
      simp only [h1, h3] at q1
      have := isG_ok (Q := Q) T cu (rv.top s1 h1) h3 fun b ez => by subst ez; exact q1 w1 H1 Grow.refl s1 _ (.p (.bl b))
      rw [← g.K] at this
      exact this
/-- isinstance(e, T), T a built-in type -/
theorem se_isB {k : Nat} {e : Expr} {T : Str} {T' : String} {m : Mx} {p p2 pos : Pos} {tb : String → Option Bool} {tc : Nat → Option Bool} (g : Gd G X W k) (h : SE G an W X e m) (hm : G.mg "isinstance" = none) (I : IsT G (.type T') tb tc) (hmT : G.mg T = none) (hvT : bootBuiltins T = some (.type T') := by decide +kernel) (hg : Gl X "isinstance" := by rfl) (hgT : Gl X T := by rfl)
    (hnT : T ≠ "__name__" := by decide) (hdT : (T == ("__debug__" : Str)) = false := by decide)
    (hs1 : starEach [.Name T p2] X.env = (false, eval (.Name T p2) X.env) :: starEach [] X.env := by rfl) (he : starEach [e, .Name T p2] X.env = (false, eval e X.env) :: starEach [.Name T p2] X.env := by rfl) (hpl : (backTo pos (starEach [.Name T p2] X.env)).any (·.1) = false := by rfl) :
    SE G an W X (.Call (.Name "isinstance" p) [e, .Name T p2] [] pos) (mOp1 (dIsG tb tc) m) :=
  isG_read g h hm I (.ty T') (pe_bltn hgT (by rw [g.mg]; exact hmT) hvT rfl hnT hdT) hg hs1 he hpl
/-- isinstance(e, C), C an own class -/
theorem se_isC {k c : Nat} {e : Expr} {T : Str} {m : Mx} {p p2 pos : Pos} {tb : String → Option Bool} {tc : Nat → Option Bool} (g : Gd G X W k) (h : SE G an W X e m) (hm : G.mg "isinstance" = none) (I : IsT G (.ref (G.ca c)) tb tc) (hmT : G.mg T = some (.ref (G.ca c))) (hg : Gl X "isinstance" := by rfl) (hgT : Gl X T := by rfl)
    (hdT : (T == ("__debug__" : Str)) = false := by decide)
    (hs1 : starEach [.Name T p2] X.env = (false, eval (.Name T p2) X.env) :: starEach [] X.env := by rfl) (he : starEach [e, .Name T p2] X.env = (false, eval e X.env) :: starEach [.Name T p2] X.env := by rfl) (hpl : (backTo pos (starEach [.Name T p2] X.env)).any (·.1) = false := by rfl) :
    SE G an W X (.Call (.Name "isinstance" p) [e, .Name T p2] [] pos) (mOp1 (dIsG tb tc) m) :=
  isG_read g h hm I (.own (G.ca c)) (pe_glob hgT (by rw [g.mg]; exact hmT) rfl hdT) hg hs1 he hpl
end
end EV

set_option Elab.async false
set_option linter.all false
set_option maxRecDepth 100000
/-! EvOd: attributes of objects of several classes; isinstance by a mask of built-in types. -/
namespace EV
open PySem PySem.Spec PyProof.Rows L2
section
variable {G : Stat} {an : An} {w w' : Wd} {H H' : Hp} {S S' : Sto} {W : WX} {X : Cx}
/-- e.f, a property or a field: by the class which field -/
def dAtt (tb : Nat → Option Nat) : Dt → Option Dt
  | .obj c _ ds => match tb c with
    | some i => ds[i]?
    | none => none
  | _ => none
/-- what the attribute f is in the class c: its i-th field -/
inductive AttT (G : Stat) (f : Str) (k : Nat) (c i : Nat) : Prop where
  | fld {ns : List Str} (T : ObT G c ns) (hf : fpos ns f = some i) : AttT G f k c i
  | prop {ns : List Str} {fd : Str} (T : ObT G c ns) (hf : fpos ns fd = some i) (P : PrT G c f fd k) : AttT G f k c i
theorem AttT.mono {f : Str} {j k c i : Nat} (h : AttT G f j c i) (hj : j ≤ k) : AttT G f k c i := by
  cases h with
  | fld T hf => exact .fld T hf
  | prop T hf P => exact .prop T hf (P.mono hj)
theorem se_att {f : Str} {tb : Nat → Option Nat} {e : Expr} {m : Mx} {pos : Pos} {k : Nat} (g : Gd G X W (k + 1)) (T : ∀ c i, tb c = some i → AttT G f k c i) (h : SE G an W X e m) (hb : attributeBase e f X.env (eval e X.env) = eval e X.env := by rfl) :
    SE G an W X (.Attribute e f pos) (mOp1 (dAtt tb) m) := by
  refine ⟨fun pins s σ H Q I ⟨env, w, S, hE, hS, q⟩ => ?_⟩
  refine attr_of hb (thn (h.run pins s σ H (fun v H1 => ∃ a c dx fs i, v = .ref a ∧ H1 a = some (.ins (G.ca c) dx fs) ∧ AttT G f k c i ∧ (∀ ns : List Str, G.fl c = ns → ∃ vs u, fs = ns.zip vs ∧ vs[i]? = some u ∧ Q u H1)) I ⟨env, w, S, hE, hS, (Pst.bind q).imp (fun x S1 w1 H1 _ g1 s1 q1 v rv => ?_) fun _ _ _ z => z⟩) fun u s1 ⟨x, H1, I1, rx, a, c, dx, fs, i, ex, ea, A, z⟩ => ?_)
  · cases h1 : deref S1 x with
    | none => simp only [h1] at q1; exact q1.elim
    | some d => cases h3 : dAtt tb d with
      | none => simp only [h1, h3] at q1; exact q1.elim
      | some z =>
        simp only [h1, h3] at q1
        cases d with
        | obj c n ds =>
          cases h4 : tb c with
          | none => unfold dAtt at h3; simp [h4] at h3
          | some i =>
            have h5 : ds[i]? = some z := by unfold dAtt at h3; simpa [h4] using h3
            obtain ⟨a, dx, vs, rfl, ha, hl, kk⟩ := (rv.top s1 h1).obj'
            obtain ⟨u, hu, pu⟩ := kk.get h5
            exact ⟨a, c, dx, _, i, rfl, ha, T c i h4, fun ns en => ⟨vs, u, by rw [en], hu, q1 w1 H1 Grow.refl s1 u (.p pu)⟩⟩
        | _ => cases h3
  · subst ex
    obtain rfl : u = Value.ref a := rx
    cases A with
    | fld T hf =>
      obtain ⟨vs, v, rfl, hu, q⟩ := z _ T.fl
      exact getattr_ok I1 ea (by rw [g.K]; exact T.cls) (by rw [g.K]; exact T.na _ (fpos_mem hf)) (zf_get hf hu) fun u' s2 I2 ru => ⟨v, H1, I2, ru, q⟩
    | @prop nss fd T hf P =>
      obtain ⟨vs, v, rfl, hu, q⟩ := z _ T.fl
      obtain ⟨p, gt, fn, hp, F, b⟩ := P.ex
      have F : FnOk X.prog X.w X.K X.mg X.base CX0 k gt fn ["self"] (getSp (G.ca c) fd) := by rw [g.P, g.w, g.K, g.mg, g.base]; exact F
      exact getprop_ok (dvs := []) (ds := []) (E := fun _ _ _ => False) I1 ea (by rw [g.K]; exact T.cls) (by rw [g.K]; exact hp) F g.room (by rw [g.K]; exact b) .nil (fun _ _ _ _ _ _ _ z => z.elim) ⟨a, dx, _, v, rfl, ea, zf_get hf hu, q⟩

/-! ### isinstance, by a mask: None, bool, int, str, tuple, list, dict -/
structure Msk where
  n : Bool := false
  b : Bool := false
  i : Bool := false
  s : Bool := false
  t : Bool := false
  l : Bool := false
  d : Bool := false
  c : Nat → Option Bool := fun _ => none
def dIsM (k : Msk) : Dt → Option Dt
  | .non => some (.bl k.n)
  | .bl _ => some (.bl k.b)
  | .int _ => some (.bl k.i)
  | .str _ => some (.bl k.s)
  | .tup _ => some (.bl k.t)
  | .tux _ => some (.bl k.t)
  | .lst _ => some (.bl k.l)
  | .dct _ _ => some (.bl k.d)
  | .dtt _ _ => some (.bl k.d)
  | .dcx _ _ _ _ => some (.bl k.d)
  | .obj c _ _ => match k.c c with
    | some b => some (.bl b)
    | none => none
  | _ => none
def Msk.ty (k : Msk) (t : String) : Option Bool := if t = "NoneType" then some k.n else if t = "bool" then some k.b else if t = "int" then some k.i else if t = "str" then some k.s else if t = "tuple" then some k.t else if t = "list" then some k.l else if t = "dict" then some k.d else none
theorem dIsM_eq (k : Msk) (d : Dt) : dIsM k d = dIsG k.ty k.c d := by
  cases d with
  | non => rfl
  | bl b => rfl
  | int i => rfl
  | str s => rfl
  | tup ds => rfl
  | lst ds => rfl
  | dct a b => rfl
  | dtt a b => rfl
  | obj c n ds =>
    show (match k.c c with
      | some b => some (Dt.bl b)
      | none => none) = (k.c c).map Dt.bl
    cases k.c c <;> rfl
  | fn i => rfl
  | fro ds => rfl
  | tux ds => rfl
  | dcx a b c d => rfl
/-- what is told of the class u -/
structure IsM (G : Stat) (u : Value) (k : Msk) : Prop where
  n : PySem.W.kitOne G.K (.type "NoneType") u = some k.n
  b : PySem.W.kitOne G.K (.type "bool") u = some k.b
  i : PySem.W.kitOne G.K (.type "int") u = some k.i
  s : PySem.W.kitOne G.K (.type "str") u = some k.s
  t : PySem.W.kitOne G.K (.type "tuple") u = some k.t
  l : PySem.W.kitOne G.K (.type "list") u = some k.l
  d : PySem.W.kitOne G.K (.type "dict") u = some k.d
  c : ∀ c b, k.c c = some b → (∃ ns, ObT G c ns) ∧ PySem.W.kitOne G.K (.ref (G.ca c)) u = some b
theorem IsM.isT {u : Value} {k : Msk} (T : IsM G u k) : IsT G u k.ty k.c := by
  refine ⟨fun t b e => ?_, T.c⟩
  unfold Msk.ty at e
  split at e
  · rename_i z; subst z; cases e; exact T.n
  split at e
  · rename_i z; subst z; cases e; exact T.b
  split at e
  · rename_i z; subst z; cases e; exact T.i
  split at e
  · rename_i z; subst z; cases e; exact T.s
  split at e
  · rename_i z; subst z; cases e; exact T.t
  split at e
  · rename_i z; subst z; cases e; exact T.l
  split at e
  · rename_i z; subst z; cases e; exact T.d
  · cases e
theorem dIsM_fun (k : Msk) : dIsM k = dIsG k.ty k.c := funext (dIsM_eq k)
theorem se_isMB {k : Nat} {e : Expr} {T : Str} {T' : String} {m : Mx} {p p2 pos : Pos} {ms : Msk} (g : Gd G X W k) (h : SE G an W X e m) (hm : G.mg "isinstance" = none) (I : IsM G (.type T') ms) (hmT : G.mg T = none) (hvT : bootBuiltins T = some (.type T') := by decide +kernel) (hg : Gl X "isinstance" := by rfl) (hgT : Gl X T := by rfl)
    (hnT : T ≠ "__name__" := by decide) (hdT : (T == ("__debug__" : Str)) = false := by decide)
    (hs1 : starEach [.Name T p2] X.env = (false, eval (.Name T p2) X.env) :: starEach [] X.env := by rfl) (he : starEach [e, .Name T p2] X.env = (false, eval e X.env) :: starEach [.Name T p2] X.env := by rfl) (hpl : (backTo pos (starEach [.Name T p2] X.env)).any (·.1) = false := by rfl) :
    SE G an W X (.Call (.Name "isinstance" p) [e, .Name T p2] [] pos) (mOp1 (dIsM ms) m) := by
  rw [dIsM_fun]
  exact se_isB g h hm I.isT hmT hvT hg hgT hnT hdT hs1 he hpl
theorem se_isMC {k c : Nat} {e : Expr} {T : Str} {m : Mx} {p p2 pos : Pos} {ms : Msk} (g : Gd G X W k) (h : SE G an W X e m) (hm : G.mg "isinstance" = none) (I : IsM G (.ref (G.ca c)) ms) (hmT : G.mg T = some (.ref (G.ca c))) (hg : Gl X "isinstance" := by rfl) (hgT : Gl X T := by rfl)
    (hdT : (T == ("__debug__" : Str)) = false := by decide)
    (hs1 : starEach [.Name T p2] X.env = (false, eval (.Name T p2) X.env) :: starEach [] X.env := by rfl) (he : starEach [e, .Name T p2] X.env = (false, eval e X.env) :: starEach [.Name T p2] X.env := by rfl) (hpl : (backTo pos (starEach [.Name T p2] X.env)).any (·.1) = false := by rfl) :
    SE G an W X (.Call (.Name "isinstance" p) [e, .Name T p2] [] pos) (mOp1 (dIsM ms) m) := by
  rw [dIsM_fun]
  exact se_isC g h hm I.isT hmT hg hgT hdT hs1 he hpl
/-- masks of the built-in types -/
def mkInt (c : Nat → Option Bool) : Msk := { b := true, i := true, c := c }
def mkBool (c : Nat → Option Bool) : Msk := { b := true, c := c }
def mkStr (c : Nat → Option Bool) : Msk := { s := true, c := c }
def mkTuple (c : Nat → Option Bool) : Msk := { t := true, c := c }
def mkList (c : Nat → Option Bool) : Msk := { l := true, c := c }
def mkDict (c : Nat → Option Bool) : Msk := { d := true, c := c }
def mkOwn (c : Nat → Option Bool) : Msk := { c := c }
theorem isM_b {T : String} {k : Msk} (h : (kitB "NoneType" T == some k.n && kitB "bool" T == some k.b && kitB "int" T == some k.i && kitB "str" T == some k.s && kitB "tuple" T == some k.t && kitB "list" T == some k.l && kitB "dict" T == some k.d) = true)
    (c : ∀ c b, k.c c = some b → (∃ ns, ObT G c ns) ∧ PySem.W.kitOne G.K (.ref (G.ca c)) (.type T) = some b) : IsM G (.type T) k := by
  simp only [Bool.and_eq_true, beq_iff_eq] at h
  obtain ⟨⟨⟨⟨⟨⟨h1, h2⟩, h3⟩, h4⟩, h5⟩, h6⟩, h7⟩ := h
  exact ⟨kit_ty h1, kit_ty h2, kit_ty h3, kit_ty h4, kit_ty h5, kit_ty h6, kit_ty h7, c⟩
theorem kb_int {c} : (kitB "NoneType" "int" == some (mkInt c).n && kitB "bool" "int" == some (mkInt c).b && kitB "int" "int" == some (mkInt c).i && kitB "str" "int" == some (mkInt c).s && kitB "tuple" "int" == some (mkInt c).t && kitB "list" "int" == some (mkInt c).l && kitB "dict" "int" == some (mkInt c).d) = true := by
  show (kitB "NoneType" "int" == some false && kitB "bool" "int" == some true && kitB "int" "int" == some true && kitB "str" "int" == some false && kitB "tuple" "int" == some false && kitB "list" "int" == some false && kitB "dict" "int" == some false) = true
  decide +kernel
theorem kb_bool {c} : (kitB "NoneType" "bool" == some (mkBool c).n && kitB "bool" "bool" == some (mkBool c).b && kitB "int" "bool" == some (mkBool c).i && kitB "str" "bool" == some (mkBool c).s && kitB "tuple" "bool" == some (mkBool c).t && kitB "list" "bool" == some (mkBool c).l && kitB "dict" "bool" == some (mkBool c).d) = true := by
  show (kitB "NoneType" "bool" == some false && kitB "bool" "bool" == some true && kitB "int" "bool" == some false && kitB "str" "bool" == some false && kitB "tuple" "bool" == some false && kitB "list" "bool" == some false && kitB "dict" "bool" == some false) = true
  decide +kernel
theorem kb_str {c} : (kitB "NoneType" "str" == some (mkStr c).n && kitB "bool" "str" == some (mkStr c).b && kitB "int" "str" == some (mkStr c).i && kitB "str" "str" == some (mkStr c).s && kitB "tuple" "str" == some (mkStr c).t && kitB "list" "str" == some (mkStr c).l && kitB "dict" "str" == some (mkStr c).d) = true := by
  show (kitB "NoneType" "str" == some false && kitB "bool" "str" == some false && kitB "int" "str" == some false && kitB "str" "str" == some true && kitB "tuple" "str" == some false && kitB "list" "str" == some false && kitB "dict" "str" == some false) = true
  decide +kernel
theorem kb_tuple {c} : (kitB "NoneType" "tuple" == some (mkTuple c).n && kitB "bool" "tuple" == some (mkTuple c).b && kitB "int" "tuple" == some (mkTuple c).i && kitB "str" "tuple" == some (mkTuple c).s && kitB "tuple" "tuple" == some (mkTuple c).t && kitB "list" "tuple" == some (mkTuple c).l && kitB "dict" "tuple" == some (mkTuple c).d) = true := by
  show (kitB "NoneType" "tuple" == some false && kitB "bool" "tuple" == some false && kitB "int" "tuple" == some false && kitB "str" "tuple" == some false && kitB "tuple" "tuple" == some true && kitB "list" "tuple" == some false && kitB "dict" "tuple" == some false) = true
  decide +kernel
theorem kb_list {c} : (kitB "NoneType" "list" == some (mkList c).n && kitB "bool" "list" == some (mkList c).b && kitB "int" "list" == some (mkList c).i && kitB "str" "list" == some (mkList c).s && kitB "tuple" "list" == some (mkList c).t && kitB "list" "list" == some (mkList c).l && kitB "dict" "list" == some (mkList c).d) = true := by
  show (kitB "NoneType" "list" == some false && kitB "bool" "list" == some false && kitB "int" "list" == some false && kitB "str" "list" == some false && kitB "tuple" "list" == some false && kitB "list" "list" == some true && kitB "dict" "list" == some false) = true
  decide +kernel
theorem kb_dict {c} : (kitB "NoneType" "dict" == some (mkDict c).n && kitB "bool" "dict" == some (mkDict c).b && kitB "int" "dict" == some (mkDict c).i && kitB "str" "dict" == some (mkDict c).s && kitB "tuple" "dict" == some (mkDict c).t && kitB "list" "dict" == some (mkDict c).l && kitB "dict" "dict" == some (mkDict c).d) = true := by
  show (kitB "NoneType" "dict" == some false && kitB "bool" "dict" == some false && kitB "int" "dict" == some false && kitB "str" "dict" == some false && kitB "tuple" "dict" == some false && kitB "list" "dict" == some false && kitB "dict" "dict" == some true) = true
  decide +kernel
end
/-- what the written part says of an own class of objects -/
structure ObA (K : PySem.W.Frag) (x : Str) (C I : Addr) (ns : List Str) : Prop where
  nm : PySem.W.nsIn K mainGlobals x = some (some (.ref C))
  pg : PySem.W.plainGet K C Str.empty = true
  hd : PySem.W.hasDictIn K C = true
  po : PySem.W.plainOver K C = true
  sa : PySem.W.findIn K (.ref C) "__setattr__" = some (some (.builtin "object.__setattr__"))
  ha : PySem.W.findIn K (.ref C) "__class__" = some (some (.builtin "object.__class__"))
  hn : PySem.W.specialIn K (.builtin "object.__class__") "__get__" = some (some (.builtin "getset_descriptor.__get__"))
  htk : PySem.W.takesIn K (.builtin "object.__class__") = some true
  hm : PySem.W.mroIn K C (.type "object") = some true
  mks : PySem.W.makesIn K C = true
  ini : PySem.W.findIn K (.ref C) "__init__" = some (some (.ref I))
  fn : PySem.W.isFn K (.ref I) = true
  kp : PySem.W.keepIn K (.ref C) = true
  na : ∀ f ∈ ns, PySem.W.findIn K (.ref C) f = some none
theorem ObA.obT {G : Stat} {x : Str} {C I : Addr} {ns : List Str} {c : Nat} (A : ObA G.K x C I ns) (e : G.ca c = C) (ef : G.fl c = ns) (hl : ns.length < 1000) : ObT G c ns := by
  subst e
  exact ⟨ef, ⟨A.pg, A.hd, A.po, A.sa⟩, A.na, hl, A.ha, A.hn, A.htk, A.hm⟩
theorem ObA.mk' {G : Stat} {x : Str} {C I : Addr} {ns : List Str} {c : Nat} (A : ObA G.K x C I ns) (e : G.ca c = C) : Mk G.K (G.ca c) I := by
  subst e
  exact ⟨A.mks, A.ini, A.fn, A.kp⟩
/-- a def that stands in a class -/
structure AtM (K : PySem.W.Frag) (x qual : Str) (st : Stmt) (f : Addr) : Prop where
  ex : ∃ (oc : Value) (od : Option Addr) (kV doc pm : Value) (an : Option Addr) (cdv ct : Value) (osl : Array (Option Value)), K.lookup f = some ⟨oc, od, .func (PySem.W.fnOf x qual (defArgs st) (defBody st) (defScope st) .none kV doc pm an cdv ct), osl⟩ ∧ PySem.W.codeIn K cdv qual = true
  kp : PySem.W.keepIn K (.ref f) = true
theorem atM_mk {K : PySem.W.Frag} {x qual : Str} {st : Stmt} {f : Addr} {oc : Value} {od : Option Addr} {kV doc pm : Value} {an : Option Addr} {cdv ct : Value} {osl : Array (Option Value)}
    (l : K.lookup f = some ⟨oc, od, .func (PySem.W.fnOf x qual (defArgs st) (defBody st) (defScope st) .none kV doc pm an cdv ct), osl⟩) (c : PySem.W.codeIn K cdv qual = true) (k : PySem.W.keepIn K (.ref f) = true) : AtM K x qual st f := ⟨⟨_, _, _, _, _, _, _, _, _, l, c⟩, k⟩
theorem AtM.fn {K : PySem.W.Frag} {x qual : Str} {st : Stmt} {f : Addr} (A : AtM K x qual st f) : ∃ fd, Fun K x qual st f fd := by
  obtain ⟨oc, od, kV, doc, pm, an, cdv, ct, osl, l, c⟩ := A.ex
  exact ⟨_, fun_mk l c A.kp⟩
/-- a property of the written part -/
structure PrA (K : PySem.W.Frag) (C : Addr) (f : Str) (p gt : Addr) : Prop where
  at_ : PySem.W.findIn K (.ref C) f = some (some (.ref p))
  get : PySem.W.specialIn K (.ref p) "__get__" = some (some (.builtin "property.__get__"))
  tak : PySem.W.takesIn K (.ref p) = some true
  rec_ : ∃ rest, PySem.W.recIn K p "property" = some (.ref gt :: rest)
theorem prT_mk {G : Stat} {c : Nat} {C p gt : Addr} {f fd qual : Str} {st : Stmt} {ns N : List Str} {p1 p2 p3 : Pos} (A : PrA G.K C f p gt) (M : AtM G.K f qual st gt) (e : G.ca c = C) (T : ObT G c ns) (hfd : fd ∈ ns) (S : FnScope N ["self"] (defScope st)) (hN : N[0]? = some ("self" : Str))
    (hb : defBody st = [.Return (some (.Attribute (.Name "self" p1) fd p2)) p3])
    (hbi : ∀ kV doc pm an cdv ct (us : List Value), us.length = 1 → bindArgs (PySem.W.fnOf f qual (defArgs st) (defBody st) (defScope st) .none kV doc pm an cdv ct) ⟨us, []⟩ = pure ((["self"] : List Str).zip us)) : PrT G c f fd 1 := by
  subst e
  obtain ⟨oc, od, kV, doc, pm, an, cdv, ct, osl, l, cc⟩ := M.ex
  exact ⟨p, gt, _, ⟨A.at_, A.get, A.tak, A.rec_⟩, fn_getter (k := 0) l cc S hN hb T.cls (T.na fd hfd), .all fun us hl => hbi kV doc pm an cdv ct us hl⟩
end EV
namespace EV
open PySem PySem.Spec PyProof.Rows L2
section
variable {G : Stat} {an : An} {w w' : Wd} {H H' : Hp} {S S' : Sto} {W : WX} {X : Cx}
theorem Gd.down {j k : Nat} (g : Gd G X W k) (h : j ≤ k) : Gd G X W j := ⟨g.P, g.w, g.K, g.mg, g.base, g.calm, g.nd, g.tk, g.room.mono h, g.pass⟩
theorem se_attk {f : Str} {tb : Nat → Option Nat} {e : Expr} {m : Mx} {pos : Pos} {k : Nat} (g : Gd G X W k) (hk : 2 ≤ k) (T : ∀ c i, tb c = some i → AttT G f 1 c i) (h : SE G an W X e m) (hb : attributeBase e f X.env (eval e X.env) = eval e X.env := by rfl) :
    SE G an W X (.Attribute e f pos) (mOp1 (dAtt tb) m) := se_att (g.down hk) T h hb
theorem se_mkj {k j c m n : Nat} {x : Str} {f : Fs} {e : Expr} {es : List Expr} {ma : Ma} {p pos : Pos} {ns : List Str} (g : Gd G X W k) (hj : j + 1 ≤ k) (M : MkT G j x c n f) (T : ObT G c ns) (hm : ns.length = m) (hkp : PySem.W.keepIn G.K (.ref (G.ca c)) = true) (ha : SA G an W X (e :: es) ma) (hg : Gl X x := by rfl)
    (hdb : (x == ("__debug__" : Str)) = false := by decide) (he : starEach (e :: es) X.env = (false, eval e X.env) :: starEach es X.env := by rfl) (hpl : (backTo pos (starEach es X.env)).any (·.1) = false := by rfl) :
    SE G an W X (.Call (.Name x p) (e :: es) [] pos) (mMk c m f n ma) := se_mk (g.down hj) M (by rw [T.fl]; exact hm) hkp ha hg hdb he hpl
theorem se_mkjO {k j c m n : Nat} {x : Str} {f : Fs} {e : Expr} {es : List Expr} {ma : Ma} {p pos : Pos} {ns : List Str} (g : Gd G X W k) (hj : j + 1 ≤ k) (M : MkT G j x c n f) (T : ObT G c ns) (hm : ns.length = m) (hkp : PySem.W.keepIn G.K (.ref (G.ca c)) = true) (ha : SA G an W X (e :: es) ma) (hg : Gl X x := by rfl)
    (hdb : (x == ("__debug__" : Str)) = false := by decide) (he : starEach (e :: es) X.env = (false, eval e X.env) :: starEach es X.env := by rfl) (hpl : (backTo pos (starEach es X.env)).any (·.1) = false := by rfl) :
    SE G an W X (.Call (.Name x p) (e :: es) [] pos) (mMkO c m f n ma) := se_mkO (g.down hj) M (by rw [T.fl]; exact hm) hkp ha hg hdb he hpl
end
end EV

set_option Elab.async false
set_option linter.all false
set_option maxRecDepth 100000
/-! EvOe: exact tuples: displays, index; list(range(n)). -/
namespace EV
open PySem PySem.Spec PyProof.Rows L2

/-! ### a display whose tuple is known exactly -/
theorem pe_tux {X : Cx} {es : List Expr} {x1 : Nat} {pos : Pos} {t : TA} (h : PA X es t) : PE X (.Tuple es x1 pos) (fun σ H Q => t σ H fun xs H1 => xs.length ≤ sizeLine ∧ ∀ p o, o.dict = none → H1 p = none → Q (.ref p) (upd H1 p (.frz o (.tup xs)))) := by
  refine ⟨fun pins s σ H Q I hq => ?_⟩
  refine wpAny_Tuple_spliced (thn (h.run pos pins s σ H _ I hq) fun us s1 ⟨xs, H1, I1, r, z, q⟩ => ⟨by rw [← r.length]; exact z, ?_⟩)
  have hf : H1 s1.heap.objs.size = none := I1.hok.fresh (Nat.le_refl _)
  have hg := Heap.get?_push_size s1.heap (o := { cls := .type "tuple", data := .seq us.toArray }) rfl
  refine ⟨.ref s1.heap.objs.size, upd H1 s1.heap.objs.size (.frz { cls := .type "tuple", data := .seq us.toArray } (.tup xs)), I1.laid (t' := s1.toks) (fun b u e => Heap.get?_push_of_some _ e) (Nat.le_refl _) ⟨hg, ?_⟩, rfl, q _ _ rfl hf⟩
  exact ⟨z, us, r, ⟨_, hg, rfl, _, rfl⟩⟩
section
variable {G : Stat} {an : An} {w w' : Wd} {H H' : Hp} {S S' : Sto} {W : WX} {X : Cx}
def dTux (ds : List Dt) : Option Vl := if line ds.length then some (.p (.tux ds)) else none
theorem se_tux {es : List Expr} {x1 : Nat} {pos : Pos} {m : Ma} (h : SA G an W X es m) : SE G an W X (.Tuple es x1 pos) (mPure dTux m) := by
  refine PE.imp (pe_tux h) fun σ H Q ⟨env, w, S, hE, hS, q⟩ => ⟨env, w, S, hE, hS, (pure_elim q).imp (fun xs S1 w1 H1 _ g1 s1 q1 vs rvs => ?_) fun _ _ _ z => z⟩
  obtain ⟨ds, a, h1, h2, q2⟩ := q1
  have k := rvs.all h1
  unfold dTux at h2
  split at h2
  · rename_i hl
    cases h2
    refine ⟨by rw [← k.length]; exact line_ok hl, fun p o hd hp => q2 w1 _ (Grow.obj s1 hp) (s1.obj hp) _ (.p (.tux upd_same hd (k.mono (Grow.obj s1 hp))))⟩
  · cases h2

/-! ### methods of exact tuples -/
theorem pe_bmX {o e : Expr} {es : List Expr} {to : TE} {t : TA} {name : Str} {apos cpos : Pos} {id : String} {r : V → List V → Hp → VK → Prop} (pa : PlainAttrs "tuple") (slot : Slot "tuple" name id) (hty : typeOf (.builtin id) = pure (.type "method_descriptor")) (hm : MtR X id r) (ho : PE X o to) (ha : PA X (e :: es) t)
    (hbase : attributeBase o name X.env (eval o X.env) = eval o X.env := by rfl)
    (hfew : ((backTo cpos (starEach (e :: es) X.env)).all (fun x => !x.1) && (backToKw cpos (keywordEach [] X.env)).all (fun x => x.1.isSome)
      && decide ((e :: es).length + ([] : List Keyword).length + (if ([] : List Keyword).isEmpty then 0 else 1) < 30)) = true := by rfl)
    (hline : (apos.endLine == cpos.line) = true := by rfl) (hs : starEach (e :: es) X.env = (false, eval e X.env) :: starEach es X.env := by rfl) (hplain : (backTo cpos (starEach es X.env)).any (·.1) = false := by rfl) :
    PE X (.Call (.Attribute o name apos) (e :: es) [] cpos) (fun σ H Q => to σ H fun x H1 => (∃ a ob xs, x = .ref a ∧ H1 a = some (.frz ob (.tup xs)) ∧ ob.dict = none) ∧ t σ H1 fun xs H2 => r x xs H2 Q) := by
  refine ⟨fun pins s σ H Q I h => ?_⟩
  refine wpAny_Call_method_late hbase hfew hline rfl (thn (ho.run pins s σ H _ I h) fun v s1 ⟨x, H1, I1, r1, ⟨a, ob, xs, ex, ea, hd⟩, q1⟩ => ?_)
  subst ex
  cases r1
  obtain ⟨hg, _, its, rv, o2, h1, h2, n, h3⟩ := (show ObjOk X.prog X.w H1 s1.heap a (.frz ob (.tup xs)) from I1.hok a _ ea)
  rw [hg] at h1
  cases h1
  refine ⟨"tuple", id, pa, slot, hty, ⟨ob, hg, h2⟩, fun b e => by cases e; exact ⟨ob, hg, hd⟩, ?_⟩
  have hA := ha.run cpos pins s1 σ H1 _ I1 q1
  rw [hs] at hA ⊢
  refine Calls.callWith_builtin (by show (false || (backTo cpos (starEach es X.env)).any (·.1)) = false; rw [hplain] <;> rfl) (Calls.evalArgs_plain ?_)
  exact thn hA fun us s2 ⟨vs, H2, I2, r2, q2⟩ => hm pins s2 σ H2 (.ref a) vs (.ref a) us Q I2 rfl r2 q2

/-! ### index of ints -/
def idxI : List Int → Int → Option Nat
  | [], _ => none
  | n :: r, i => if n = i then some 0 else (idxI r i).map (· + 1)
theorem idxI_ok {i : Int} : ∀ {ns : List Int} {j : Nat}, idxI ns i = some j → ns[j]? = some i ∧ ∀ m, m < j → ns[m]? ≠ some i
  | [], _, h => by cases h
  | n :: r, j, h => by
    unfold idxI at h
    split at h
    · rename_i e
      cases h
      exact ⟨by rw [e]; rfl, fun m hm => absurd hm (Nat.not_lt_zero _)⟩
    · rename_i ne
      cases hr : idxI r i with
      | none => rw [hr] at h; cases h
      | some k =>
        rw [hr] at h
        have h : k + 1 = j := by simpa using h
        subst h
        obtain ⟨h1, h2⟩ := idxI_ok hr
        refine ⟨by simpa using h1, fun m hm => ?_⟩
        cases m with
        | zero => intro z; exact ne (by simpa using z)
        | succ m => intro z; exact h2 m (by omega) (by simpa using z)
def rIdxT (K : PySem.W.Frag) : V → List V → Hp → VK → Prop := fun x xs H Q => ∃ (p : Addr) (ns : List Int) (z : Int) (j : Nat), x = .ref p ∧ xs = [.int z] ∧ SqT K H p (ns.map V.int) ∧ ns[j]? = some z ∧ (∀ m, m < j → ns[m]? ≠ some z) ∧ Q (.int (j : Nat)) H
theorem flat_ints (ns : List Int) : (ns.map V.int).all flatV = true := by
  rw [List.all_map]
  exact List.all_eq_true.mpr fun _ _ => rfl
theorem mt_idxT : MtR X "tuple.index" (rIdxT X.K) := by
  intro pins s σ H x xs v us Q I rx rs h
  obtain ⟨p, ys, z, j, rfl, rfl, hq, hy, hno, q⟩ := h
  cases rx
  obtain ⟨u, rfl, t, rfl⟩ := vals1 rs
  obtain ⟨its, r, pl, hz⟩ := I.tuple hq
  obtain ⟨⟨cls, dd, dt, sl⟩, ho, hc, n, hd⟩ := pl
  simp only at hc hd
  subst hc
  subst hd
  have hl : its.toArray.size = ys.length := by rw [List.size_toArray, ← r.length, List.length_map]
  have hj : j < its.toArray.size := by rw [hl]; exact (List.getElem?_eq_some_iff.mp hy).1
  have at' : ∀ (m : Nat) (hm : m < its.toArray.size), ∃ y t', ys[m]? = some y ∧ its.toArray[m] = Value.int y t' := fun m hm => by
    have hm' : m < ys.length := by rw [← hl]; exact hm
    obtain ⟨w, hw, t', hw'⟩ := r.get (i := m) (x := .int ys[m]) (by simp [hm'])
    refine ⟨ys[m], t', List.getElem?_eq_getElem hm', ?_⟩
    have e := (List.getElem?_eq_some_iff.mp hw).2
    rw [← hw', ← e]
    simp
  refine call_meets PySem.F.slot_tuple_index ⟨_, ho, rfl⟩ PySem.F.entry_tuple_index (PySem.F.args_tuple_index_2 _ _) (TI.tuple_indexAt p its.toArray n dd sl (.int z t) (eqU (.int z)) j hj ?_ ?_)
    ⟨ho, fun w hw => mem_eqAt (x := .int z) ⟨t, rfl⟩ rfl r (flat_ints ys) w (by simpa using hw), ⟨.int (j : Nat), H, I.tok _, ⟨_, rfl⟩, q⟩⟩
  · obtain ⟨y, t', h1, h2⟩ := at' j hj
    rw [hy] at h1
    cases h1
    rw [h2]
    show (z == z) = true
    exact beq_self_eq_true z
  · intro m hm hmj
    obtain ⟨y, t', h1, h2⟩ := at' m hm
    rw [h2]
    show (y == z) = false
    exact beq_eq_false_iff_ne.mpr fun e => hno m hmj (e ▸ h1)
def idxD (d : Option Dt) (y : Vl) : Option Dt := match y with
  | .p (.int z) => (match d with
    | some (.tux ds) => (match intsD ds with
      | some ns => (idxI ns z).map fun j => .int (j : Nat)
      | none => none)
    | some (.lst ds) => (match intsD ds with
      | some ns => (idxI ns z).map fun j => .int (j : Nat)
      | none => none)
    | _ => none)
  | _ => none
def isTux : Option Dt → Bool
  | some (.tux _) => true
  | _ => false
def isLsD : Option Dt → Bool
  | some (.lst _) => true
  | _ => false
theorem isTux_eq {o : Option Dt} (h : isTux o = true) : ∃ ds, o = some (.tux ds) := by
  unfold isTux at h
  split at h
  · exact ⟨_, rfl⟩
  · cases h
theorem isLsD_eq {o : Option Dt} (h : isLsD o = true) : ∃ ds, o = some (.lst ds) := by
  unfold isLsD at h
  split at h
  · exact ⟨_, rfl⟩
  · cases h
/-- o.index(e), o an exact tuple or a list, of ints -/
def mIdx (mo ma : Mx) : Mx := fun env S => (mo env S).bind fun x S1 => if isTux (deref S1 x) || isLsD (deref S1 x) then (ma env S1).bind fun y S2 => match idxD (deref S2 x) y with
  | some z => .ok (.p z) S2
  | none => .bad else .bad
theorem idx_elim {ds : List Dt} {z : Int} {r : Dt} (h : (match intsD ds with
      | some ns => (idxI ns z).map fun j => Dt.int (j : Nat)
      | none => none) = some r) : ∃ ns j, intsD ds = some ns ∧ idxI ns z = some j ∧ r = .int (j : Nat) := by
  cases h1 : intsD ds with
  | none => rw [h1] at h; cases h
  | some ns =>
    rw [h1] at h
    cases h2 : idxI ns z with
    | none => simp only [h2] at h; cases h
    | some j =>
      simp only [h2] at h
      exact ⟨ns, j, rfl, h2, (Option.some.inj h).symm⟩
theorem se_idxd {k : Nat} {o e : Expr} {mo ma : Mx} {apos cpos : Pos} (g : Gd G X W k) (ho : SE G an W X o mo) (ha : SE G an W X e ma)
    (hbase : attributeBase o "index" X.env (eval o X.env) = eval o X.env := by rfl)
    (hfew : ((backTo cpos (starEach [e] X.env)).all (fun x => !x.1) && (backToKw cpos (keywordEach [] X.env)).all (fun x => x.1.isSome)
      && decide ([e].length + ([] : List Keyword).length + (if ([] : List Keyword).isEmpty then 0 else 1) < 30)) = true := by rfl)
    (hline : (apos.endLine == cpos.line) = true := by rfl) (hs : starEach [e] X.env = (false, eval e X.env) :: starEach [] X.env := by rfl) (hplain : (backTo cpos (starEach [] X.env)).any (·.1) = false := by rfl) :
    SE G an W X (.Call (.Attribute o "index" apos) [e] [] cpos) (mIdx mo ma) := by
  refine ⟨fun pins s σ H Q I ⟨env, w, S, hE, hS, q⟩ => ?_⟩
  by_cases z : ∃ x S1, mo env S = .ok x S1 ∧ isTux (deref S1 x) = true
  · obtain ⟨x0, S0, r0, ht⟩ := z
    obtain ⟨ds, eo⟩ := isTux_eq ht
    refine (pe_bmX PySem.F.plainAttrs_tuple PySem.F.slot_tuple_index PySem.F.type_tuple_index mt_idxT ho (pa_cons ha pa_nil hs) hbase hfew hline hs hplain).run pins s σ H Q I ⟨env, w, S, hE, hS, (Pst.bind q).imp (fun x S1 w1 H1 r1 g1 s1 q1 v rv => ?_) fun _ _ _ z => z⟩
    rw [r0] at r1
    cases r1
    rw [ht, Bool.true_or, if_pos rfl] at q1
    obtain ⟨a, o, xs, rfl, h1, hd, kk⟩ := (rv.top s1 eo).tuxH
    refine ⟨⟨a, o, xs, rfl, h1, hd⟩, ?_⟩
    refine ⟨env, w1, S0, hE.mono g1, s1, (Pst.bind q1).imp (fun y S2 w2 H2 r2 g2 s2 q2 v2 rv2 => ?_) fun _ _ _ z => z⟩
    have eo2 : deref S2 x0 = some (.tux ds) := by
      cases rv with
      | p pv => cases eo; rfl
      | @loc nn _ hn =>
        obtain ⟨d, f1, c⟩ := s1.at' _ _ hn
        have eo : S0[nn]? = some (Dt.tux ds) := eo
        rw [eo] at f1
        cases f1
        cases c
    rw [eo2] at q2
    cases rv2 with
    | loc h => exact q2.elim
    | @p d _ pv => cases d with
      | int zz =>
        cases pv
        cases hi : idxD (some (.tux ds)) (.p (.int zz)) with
        | none => simp only [hi] at q2; exact q2.elim
        | some rr =>
          simp only [hi] at q2
          obtain ⟨ns, j, e1, e2, rfl⟩ := idx_elim (ds := ds) hi
          have e3 := ints_ok kk e1
          subst e3
          obtain ⟨i1, i2⟩ := idxI_ok e2
          exact ⟨a, ns, zz, j, rfl, rfl, by rw [g.K]; exact .inl (.inr ⟨_, g2.frzs _ _ _ h1⟩), i1, i2, q2 w2 H2 Grow.refl s2 _ (.p (.int _))⟩
      | _ => exact q2.elim
  · have nt : ∀ x S1, mo env S = .ok x S1 → isTux (deref S1 x) = false := fun x S1 r => by
      cases e : isTux (deref S1 x) with
      | false => rfl
      | true => exact absurd ⟨x, S1, r, e⟩ z
    refine (pe_bm PySem.F.plainAttrs_list PySem.F.slot_list_index PySem.F.type_list_index mt_index ho (pa_cons ha pa_nil hs) hbase hfew hline hs hplain).run pins s σ H Q I ⟨env, w, S, hE, hS, (Pst.bind q).imp (fun x S1 w1 H1 r1 g1 s1 q1 v rv => ?_) fun _ _ _ z => z⟩
    rw [nt x S1 r1, Bool.false_or] at q1
    split at q1
    · rename_i hL
      obtain ⟨ds1, eo1⟩ := isLsD_eq hL
      obtain ⟨a, xs1, rfl, h1, _⟩ := (rv.top s1 eo1).lst
      refine ⟨.inl ⟨rfl, xs1, by rw [g.K]; exact h1⟩, ?_⟩
      refine ⟨env, w1, S1, hE.mono g1, s1, (Pst.bind q1).imp (fun y S2 w2 H2 r2 g2 s2 q2 v2 rv2 => ?_) fun _ _ _ z => z⟩
      cases hi : idxD (deref S2 x) y with
      | none => simp only [hi] at q2; exact q2.elim
      | some rr =>
        simp only [hi] at q2
        cases rv2 with
        | loc h => cases hi
        | @p d _ pv => cases d with
          | int zz =>
            cases pv
            cases eo2 : deref S2 x with
            | none => rw [eo2] at hi; cases hi
            | some dd =>
              rw [eo2] at hi
              cases dd with
              | lst ds =>
                obtain ⟨ns, j, e1, e2, rfl⟩ := idx_elim (ds := ds) hi
                obtain ⟨b, xs, eb, h2, kk⟩ := ((rv.mono g2).top s2 eo2).lst
                cases eb
                have e3 := ints_ok kk e1
                subst e3
                obtain ⟨i1, i2⟩ := idxI_ok e2
                refine ⟨a, ns.map V.int, .int zz, j, .int zz, rfl, rfl, by rw [g.K]; exact h2, rfl, flat_ints ns, by simp [i1], by show (zz == zz) = true; exact beq_self_eq_true zz, fun m z' hm hz => ?_, q2 w2 H2 Grow.refl s2 _ (.p (.int _))⟩
                rw [List.getElem?_map] at hz
                cases hn : ns[m]? with
                | none => rw [hn] at hz; cases hz
                | some n =>
                  rw [hn] at hz
                  have hz : V.int n = z' := by simpa using hz
                  subst hz
                  show (n == zz) = false
                  exact beq_eq_false_iff_ne.mpr fun e => i2 m hm (e ▸ hn)
              | tux ds =>
                cases rv with
                | p pv => cases eo1; cases eo2
                | @loc nn _ hn =>
                  obtain ⟨t, et⟩ := g2.pre
                  have hn2 : w2.rho[nn]? = some a := by rw [et, List.getElem?_append_left (List.getElem?_eq_some_iff.mp hn).1]; exact hn
                  obtain ⟨d, f1, c⟩ := s2.at' _ _ hn2
                  have eo2 : S2[nn]? = some (Dt.tux ds) := eo2
                  rw [eo2] at f1
                  cases f1
                  cases c
              | _ => cases hi
          | _ => cases hi
    · exact q1.elim
/-! ### list(range(n)) -/
def miLR (m : Mx) : Mi := fun env S => (m env S).bind fun x S1 => match x with
  | .p (.int n) => if decide (0 ≤ n) && decide (n ≤ 1000000) then .ok ((List.range n.toNat).map fun i => .int (i : Nat)) S1 else .bad
  | _ => .bad
theorem sf_listR {k : Nat} {a : Expr} {m : Mx} {p p2 pos pos2 : Pos} (g : Gd G X W k) (hm : G.mg "range" = none) (hm2 : G.mg "list" = none) (ha : SE G an W X a m) (hg : Gl X "range" := by rfl) (hg2 : Gl X "list" := by rfl)
    (na : starEach [a] X.env = (false, eval a X.env) :: starEach [] X.env := by rfl) (hs : starEach [.Call (.Name "range" p) [a] [] pos] X.env = (false, eval (.Call (.Name "range" p) [a] [] pos) X.env) :: starEach [] X.env := by rfl) :
    SF G an W X (.Call (.Name "list" p2) [.Call (.Name "range" p) [a] [] pos] [] pos2) (miLR m) := by
  refine PE.imp (pe_listRg g.calm hg2 (by rw [g.mg]; exact hm2) (prg_1 hg (by rw [g.mg]; exact hm) ha na) hs) fun σ H Q ⟨env, w, S, hE, hS, q⟩ => ⟨env, w, S, hE, hS, (Pst.bind q).imp (fun x S1 w1 H1 r1 g1 s1 q1 v rv => ?_) fun _ _ _ z => z⟩
  split at q1
  · rename_i n
    split at q1
    · rename_i hb
      obtain ⟨b1, b2⟩ := (Bool.and_eq_true _ _).mp hb
      have b1 := of_decide_eq_true b1
      have b2 := of_decide_eq_true b2
      cases rv with
      | p h =>
        cases h
        refine ⟨n, rfl, RgOk.of_le (by omega) (by omega) (by omega) b1, fun q hq => ?_⟩
        have e : rgV 0 n = (List.range n.toNat).map fun i => V.int ((i : Nat) : Int) := by
          unfold rgV
          rw [Int.sub_zero]
          exact List.map_congr_left fun i _ => by rw [Int.zero_add]
        rw [e]
        exact q1 w1 H1 Grow.refl s1 q _ hq (perL_rg _)
    · exact q1.elim
  · exact q1.elim
end
end EV

set_option Elab.async false
set_option linter.all false
set_option maxRecDepth 100000
/-! EvOf: max(.., default=n); d.values() as an argument; len(set(ints)); sorted(dict of ints). -/
namespace EV
open PySem PySem.Spec PyProof.Rows L2

/-! ### max with a default, walked -/
section
variable {prog : Program} {w : World} {A : Around} {R : Result → Shared → Prop} {I : Addr} {fp wr : List Addr} {n : Nat} {P : Nat → Value → Prop} {St : Nat → Heap → Prop} {dv : Value}
theorem maxD_go (W : Walks prog w A.in1 I fp wr n P St) (bt : Nat → Nat → Bool) (hcmp : CmpOf prog w A.in1 .Gt P bt) (Z : Addr) (hZ : Z ∉ fp) : ∀ (m i : Nat) (s : Shared) (v : Value) (c : Nat), n - (i + 1) = m → i + 1 ≤ n → St (i + 1) s.heap → P (argBest bt i) v →
    s.heap.get? Z = some { cls := .type "list", dict := none, data := .seq #[v, v] c, slots := #[] } →
    (∀ u h' tk, P (argBest bt (n - 1)) u → (∀ b o, b ∉ wr → b ≠ Z → s.heap.get? b = some o → h'.get? b = some o) → R (.ok (.ret u)) { s with heap := h', toks := tk }) →
    codeAny (model prog w) A (.builtin "max.loop" ⟨[.ref I, .none, .ref Z], [("default", dv)]⟩) R s := by
  have zw : Z ∉ wr := fun e => hZ (W.sub _ e)
  have nm : (toString "max" ++ toString ".loop" : String) = "max.loop" := by decide
  intro m
  induction m with
  | zero =>
    intro i s v c hm hi st pv gz r
    have last : i + 1 = n := by omega
    refine codeAny_builtin F.entry_max_loop ?_
    rw [Around.under_plainId F.plain_max_loop _]
    show wpAny _ A.in1 (seqItems? (.ref Z) >>= _) _ _ s
    refine wpAny_bind (wpAny_seqItems gz rfl ?_)
    show wpAny _ A.in1 (tryCatch (pyNext (.ref I)) _ >>= _) _ _ s
    refine wpAny_bind (wpAny_tryCatch (W.done s _ _ (last ▸ st) fun h1 t1 k1 => ?_))
    have gz1 := k1 Z _ zw gz
    show wpAny _ A.in1 (updateSeq Z (fun _ => #[]) >>= _) _ _ _
    refine wpAny_bind (wpAny_updateSeq gz1 rfl (wpAny_bind (wpAny_letGo (wpAny_pure ?_))))
    exact r v _ t1 (by rw [← last]; exact pv) fun b o nb nz e => (Heap.get?_update_other _ _ (Ne.symm nz)).trans (k1 b o nb e)
  | succ m ih =>
    intro i s v c hm hi st pv gz r
    have more : i + 1 < n := by omega
    refine codeAny_builtin F.entry_max_loop ?_
    rw [Around.under_plainId F.plain_max_loop _]
    show wpAny _ A.in1 (seqItems? (.ref Z) >>= _) _ _ s
    refine wpAny_bind (wpAny_seqItems gz rfl ?_)
    show wpAny _ A.in1 (tryCatch (pyNext (.ref I)) _ >>= _) _ _ s
    refine wpAny_bind (wpAny_tryCatch (W.item (i + 1) s _ _ more st fun u h1 t1 pu st1 k1 => ?_))
    have gz1 := k1 Z _ zw gz
    show wpAny _ A.in1 (tryCatch (holding [u, u] (richCompare .Gt u v >>= _)) _ >>= _) _ _ _
    refine wpAny_bind (wpAny_tryCatch (wpAny_holding (wpAny_bind (hcmp (i + 1) (argBest bt i) u v _ _ _ pu pv ?_))))
    refine wpAny_bind (wpAny_holding (wpAny_truthy_bool ?_))
    refine wpAny_bind (wpAny_letGo (wpAny_pure ?_))
    cases eb : bt (i + 1) (argBest bt i) with
    | true =>
      simp only [if_true]
      refine wpAny_bind (wpAny_updateSeq gz1 rfl (wpAny_bind (wpAny_letGo ?_)))
      rw [nm]
      refine wpAny_pure ⟨plainId_quiet F.plain_max_loop _, ih (i + 1) _ u _ (by omega) more (W.frame _ _ _ st1 fun b bf o e => ?_) (by simp only [argBest, eb, if_true]; exact pu) (Heap.get?_update_self _ gz1 rfl) fun z h2 t2 pz k2 => ?_⟩
      · exact (Heap.get?_update_other _ _ (fun e2 : Z = b => hZ (by rw [e2]; exact bf))).trans e
      · exact r z h2 t2 pz fun b o nb nz e => k2 b o nb nz ((Heap.get?_update_other _ _ (Ne.symm nz)).trans (k1 b o nb e))
    | false =>
      simp only [Bool.false_eq_true, if_false]
      refine wpAny_bind (wpAny_letGo ?_)
      rw [nm]
      refine wpAny_pure ⟨plainId_quiet F.plain_max_loop _, ih (i + 1) _ v c (by omega) more st1 (by simp only [argBest, eb, Bool.false_eq_true, if_false]; exact pv) gz1 fun z h2 t2 pz k2 => ?_⟩
      exact r z h2 t2 pz fun b o nb nz e => k2 b o nb nz (k1 b o nb e)
theorem maxD_first (W : Walks prog w A.in1 I fp wr n P St) (bt : Nat → Nat → Bool) (hcmp : CmpOf prog w A.in1 .Gt P bt) (Z : Addr) (hZ : Z ∉ fp) {s : Shared} {c : Nat} (st : St 0 s.heap)
    (gz : s.heap.get? Z = some { cls := .type "list", dict := none, data := .seq #[] c, slots := #[] })
    (r : ∀ u h' tk, (0 < n → P (argBest bt (n - 1)) u) → (n = 0 → u = dv) → (∀ b o, b ∉ wr → b ≠ Z → s.heap.get? b = some o → h'.get? b = some o) → R (.ok (.ret u)) { s with heap := h', toks := tk }) :
    codeAny (model prog w) A (.builtin "max.loop" ⟨[.ref I, .none, .ref Z], [("default", dv)]⟩) R s := by
  have zw : Z ∉ wr := fun e => hZ (W.sub _ e)
  have nm : (toString "max" ++ toString ".loop" : String) = "max.loop" := by decide
  refine codeAny_builtin F.entry_max_loop ?_
  rw [Around.under_plainId F.plain_max_loop _]
  show wpAny _ A.in1 (seqItems? (.ref Z) >>= _) _ _ s
  refine wpAny_bind (wpAny_seqItems gz rfl ?_)
  show wpAny _ A.in1 (tryCatch (pyNext (.ref I)) _ >>= _) _ _ s
  rcases Nat.eq_zero_or_pos n with hn | hn
  · subst hn
    refine wpAny_bind (wpAny_tryCatch (W.done s _ _ st fun h1 t1 k1 => ?_))
    show wpAny _ A.in1 (rule (toString "max" ++ toString ".default") >>= _) _ _ _
    refine wpAny_bind (wpAny_rule (wpAny_pure ?_))
    exact r dv h1 t1 (fun z => absurd z (Nat.lt_irrefl _)) (fun _ => rfl) fun b o nb nz e => k1 b o nb e
  · refine wpAny_bind (wpAny_tryCatch (W.item 0 s _ _ hn st fun u h1 t1 pu st1 k1 => ?_))
    have gz1 := k1 Z _ zw gz
    show wpAny _ A.in1 (updateSeq Z (fun _ => #[u, u]) >>= _) _ _ _
    refine wpAny_bind (wpAny_updateSeq gz1 rfl ?_)
    rw [nm]
    refine wpAny_pure ⟨plainId_quiet F.plain_max_loop _, maxD_go W bt hcmp Z hZ _ 0 _ u _ rfl hn (W.frame _ _ _ st1 fun b bf o e => ?_) pu (Heap.get?_update_self _ gz1 rfl) fun z h2 t2 pz k2 => ?_⟩
    · exact (Heap.get?_update_other _ _ (fun e2 : Z = b => hZ (by rw [e2]; exact bf))).trans e
    · exact r z h2 t2 (fun _ => pz) (fun e => absurd e (Nat.ne_of_gt hn)) fun b o nb nz e => k2 b o nb nz ((Heap.get?_update_other _ _ (Ne.symm nz)).trans (k1 b o nb e))
end
section
variable {prog : Program} {w : World} {A : Around} {E : Value → Shared → Prop} {s : Shared} {dv : Value}
theorem call_kw_tree {id : String} {b : Builtin} {args : List Value} {kw : List (Str × Value)} {Q : Value → Shared → Prop} (hk : builtinKind id = none) (hp : plainId id = true) (hb : entryFor table id = some b) (ha : argsOk id ⟨args, kw⟩)
    (hc : wpAny (model prog w) A.in1 (b ⟨args, kw⟩) (fun fin s' => match fin with
      | .done f => (match (Except.ok f : Result) with | .ok (.ret v) => Q v s' | .ok _ => False | .error e => E e s')
      | .again c' => c'.quiet = true ∧ codeAny (model prog w) A c' (fun r s' => match r with | .ok (.ret v) => Q v s' | .ok _ => False | .error e => E e s') s') E s) :
    wpAny (model prog w) A (call (.builtin id) args kw) Q E s := by
  refine wpAny_call (codeAny_call_builtin hp hb ?_)
  simp only [checkBuiltinCall, hk]
  cases sg : Manifest.signature? id with
  | none => exact wpAny_pure hc
  | some g =>
    simp only [argsOk, sg] at ha
    have h2 : Bind.checkArgs id g ⟨args, kw⟩ = pure () := ha
    show wpAny _ A.in1 (Bind.checkArgs id g ⟨args, kw⟩) _ _ s
    rw [h2]
    exact wpAny_pure hc
theorem bind_maxD (d : Value) : Builtin.Builtins.bindParams "max" ["key", "default"] 0 ⟨[], [("default", d)]⟩ = pure [none, some d] := by kernel_rfl
theorem args_maxD (a d : Value) : argsOk "max" ⟨[a], [("default", d)]⟩ := by unfold argsOk; kernel_rfl
theorem maxD_walk {x : Value} {Q : Value → Shared → Prop}
    (h : wpAny (model prog w) A.in1 (pyIter x) (fun it s2 => ∃ I fp wr n P St bt, it = .ref I ∧ Walks prog w A.in1 I fp wr n P St ∧ St 0 s2.heap ∧ (∀ b ∈ fp, b < s2.heap.objs.size) ∧ CmpOf prog w A.in1 .Gt P bt ∧
      ∀ u h' tk, (0 < n → P (argBest bt (n - 1)) u) → (n = 0 → u = dv) → (∀ b o, b ∉ wr → s2.heap.get? b = some o → h'.get? b = some o) → Q u { s2 with heap := h', toks := tk }) E s) :
    wpAny (model prog w) A (call (.builtin "max") [x] [("default", dv)]) Q E s := by
  have nm : (toString "max" ++ toString ".loop" : String) = "max.loop" := by decide
  refine call_kw_tree F.kind_max F.plain_max F.entry_max (args_maxD _ _) ?_
  show wpAny _ A.in1 (Builtin.Builtins.bindParams "max" ["key", "default"] 0 ⟨[], [("default", dv)]⟩ >>= _) _ _ s
  refine wpAny_bind (wpAny_of_eq (bind_maxD dv) ?_)
  refine wpAny_bind (wpAny_pure ?_)
  refine wpAny_bind (wpAny_mono h (fun it s2 h2 => ?_) fun _ _ e => e)
  obtain ⟨I, fp, wr, n, P, St, bt, rfl, W, st, big, hcmp, r⟩ := h2
  refine wpAny_bind (wpAny_newObj_type ?_)
  have zf : s2.heap.objs.size ∉ fp := fun m => Nat.lt_irrefl _ (big _ m)
  rw [nm]
  refine wpAny_pure ⟨plainId_quiet F.plain_max_loop _, maxD_first W bt hcmp s2.heap.objs.size zf (W.frame _ _ _ st fun b _ o e => Heap.get?_push_of_some _ e) (Heap.get?_push_size _ rfl) fun u h1 t1 p1 p2 k1 => ?_⟩
  exact r u h1 t1 p1 p2 fun b o nb e => k1 b o nb (Nat.ne_of_lt (Heap.lt_size e)) (Heap.get?_push_of_some _ e)
end
/-! ### the greatest -/
def maxI (d : Int) : List Int → Int
  | [] => d
  | n :: r => r.foldl (fun m x => if m < x then x else m) n
theorem foldMax : ∀ (r : List Int) (n : Int), (r.foldl (fun m x => if m < x then x else m) n = n ∨ r.foldl (fun m x => if m < x then x else m) n ∈ r) ∧ n ≤ r.foldl (fun m x => if m < x then x else m) n ∧ ∀ y ∈ r, y ≤ r.foldl (fun m x => if m < x then x else m) n
  | [], n => ⟨.inl rfl, Int.le_refl _, fun y h => by cases h⟩
  | x :: r, n => by
    obtain ⟨h1, h2, h3⟩ := foldMax r (if n < x then x else n)
    rw [List.foldl_cons]
    by_cases c : n < x
    · rw [if_pos c] at h1 h2 h3 ⊢
      refine ⟨.inr ?_, by omega, fun y hy => ?_⟩
      · rcases h1 with e | e
        · rw [e]; exact List.mem_cons_self
        · exact List.mem_cons_of_mem _ e
      · rcases List.mem_cons.mp hy with e | e
        · subst e; exact h2
        · exact h3 y e
    · rw [if_neg c] at h1 h2 h3 ⊢
      refine ⟨?_, h2, fun y hy => ?_⟩
      · rcases h1 with e | e
        · exact .inl e
        · exact .inr (List.mem_cons_of_mem _ e)
      · rcases List.mem_cons.mp hy with e | e
        · subst e; omega
        · exact h3 y e
theorem maxI_eq {d m : Int} {ns : List Int} (h : m ∈ ns) (k : ∀ y ∈ ns, y ≤ m) : maxI d ns = m := by
  cases ns with
  | nil => cases h
  | cons n r =>
    obtain ⟨h1, h2, h3⟩ := foldMax r n
    show r.foldl _ n = m
    apply Int.le_antisymm
    · rcases h1 with e | e
      · rw [e]; exact k n List.mem_cons_self
      · exact k _ (List.mem_cons_of_mem _ e)
    · rcases List.mem_cons.mp h with e | e
      · rw [e]; exact h2
      · exact h3 m e
theorem best_max {d : Int} {ns : List Int} (hn : 0 < ns.length) : ns.getD (argBest (fun i j => decide (ns.getD i 0 > ns.getD j 0)) (ns.length - 1)) 0 = maxI d ns := by
  obtain ⟨m1, m2⟩ := argBest_gt (fun i => ns.getD i 0) (ns.length - 1)
  have lt : argBest (fun i j => decide (ns.getD i 0 > ns.getD j 0)) (ns.length - 1) < ns.length := by
    have : argBest (fun i j => decide (ns.getD i 0 > ns.getD j 0)) (ns.length - 1) ≤ ns.length - 1 := m1
    omega
  refine (maxI_eq (PySem.getD_mem lt) fun y hy => ?_).symm
  obtain ⟨j, hj, e⟩ := List.mem_iff_getElem.mp hy
  have z : ns.getD j 0 ≤ _ := m2 j (by omega)
  have e3 : ns.getD j 0 = y := by rw [List.getD_eq_getElem?_getD, List.getElem?_eq_getElem hj, ← e] <;> rfl
  rw [e3] at z
  exact z

/-! ### d.values() as an argument -/
def valsO (p d : Addr) : HO := .ext fun h => h.get? p = some { cls := .type "dict_values", data := .fields #[.ref d] }
theorem valsO_ok {P : Program} {w : World} {H : Hp} {h : Heap} {p d : Addr} (e : h.get? p = some { cls := .type "dict_values", data := .fields #[.ref d] }) : ObjOk P w H h p (valsO p d) := ⟨e, ⟨_, e⟩, fun h1 h2 x k => k _ x⟩
section
variable {G : Stat} {an : An} {w w' : Wd} {H H' : Hp} {S S' : Sto} {W : WX} {X : Cx}
theorem pe_dvals {e : Expr} {td : TE} {apos cpos : Pos} (he : PE X e td) (hbase : attributeBase e "values" X.env (eval e X.env) = eval e X.env := by rfl) (hline : (apos.endLine == cpos.line) = true := by rfl) :
    PE X (.Call (.Attribute e "values" apos) [] [] cpos) (fun σ H Q => td σ H fun x H1 => ∃ d o kvs, x = .ref d ∧ H1 d = some (.frz o (.dT kvs)) ∧ ∀ p, H1 p = none → Q (.ref p) (upd H1 p (valsO p d))) := by
  refine ⟨fun pins s σ H Q I h => ?_⟩
  refine wpAny_Call_method (T := "dict") (id := "dict.values") hbase rfl hline F.plainAttrs_dict F.slot_dict_values F.type_dict_values (thn (he.run pins s σ H _ I h) fun u s1 ⟨x, H1, I1, rx, d, o, kvs, ex, hd, q⟩ => ?_)
  subst ex
  obtain rfl : u = Value.ref d := rx
  obtain ⟨hs, hgd, hx, es, ep, hdt, hsz, raw, _, ent⟩ := frzTV I1 hd
  refine ⟨raw.typeIs, fun b q => ?_, ?_⟩
  · cases q
    exact ⟨o, hgd, hx.2.1⟩
  have hf : H1 s1.heap.objs.size = none := I1.hok.fresh (Nat.le_refl _)
  have hg := Heap.get?_push_size s1.heap (o := { cls := .type "dict_values", data := .fields #[.ref d] }) rfl
  have fin : EP X pins σ Q (.ref s1.heap.objs.size) { s1 with heap := s1.heap.push { cls := .type "dict_values", data := .fields #[.ref d] } } :=
    ⟨.ref s1.heap.objs.size, upd H1 s1.heap.objs.size (valsO s1.heap.objs.size d), I1.laid (t' := s1.toks) (fun b u e => Heap.get?_push_of_some _ e) (Nat.le_refl _) (valsO_ok hg), rfl, q _ hf⟩
  show wpAny _ _ (callWith cpos (.builtin "dict.values") [.ref d] [] []) _ X.xe s1
  exact method_meetsIn F.slot_dict_values F.entry_dict_values rfl (PySem.evalArgs_none ⟨rfl, raw.typeIs, F.args_dict_values_1 _, _, meets_dict_values_raw d hs, ⟨es, ep, raw⟩, fin⟩)
/-- the values of the locked dict, ints -/
theorem vals_int {pins : List (Addr × Obj)} {σ : L2.St} {s : Shared} {p d : Addr} {o : Obj} {kvs : List (List Key × V)} {ns : List Int} (I : Inv X pins σ H s) (hp : H p = some (valsO p d)) (hd : H d = some (.frz o (.dT kvs))) (hn : kvs.map (·.2) = ns.map V.int) :
    ∃ es ep, s.heap.DictRaw d es ep ∧ s.heap.IsValuesView p d ∧ es.size = ns.length ∧ ∀ i v, (∃ hi : i < es.size, v = (es[i]'hi).val) → ∃ t, v = .int (ns.getD i 0) t := by
  obtain ⟨hs, hgd, hx, es, ep, hdt, hsz, raw, _, ent⟩ := frzTV I hd
  have hv : s.heap.get? p = some { cls := .type "dict_values", data := .fields #[.ref d] } := (show ObjOk X.prog X.w H s.heap p (valsO p d) from I.hok p _ hp).1
  have hl : kvs.length = ns.length := by
    have e := congrArg List.length hn
    rw [List.length_map, List.length_map] at e
    exact e
  refine ⟨es, ep, raw, ⟨_, hv, rfl, rfl⟩, hsz.trans hl, fun i v ⟨hi, ev⟩ => ?_⟩
  have h2 : i < kvs.length := by omega
  have h3 : i < ns.length := by omega
  obtain ⟨b, e1, e2, rv⟩ := ent i hi kvs[i].1 kvs[i].2 (List.getElem?_eq_getElem h2)
  have e4 : kvs[i].2 = V.int ns[i] := by
    have z : (kvs.map (·.2))[i]? = (ns.map V.int)[i]? := by rw [hn]
    rw [List.getElem?_map, List.getElem?_map, List.getElem?_eq_getElem h2, List.getElem?_eq_getElem h3] at z
    exact Option.some.inj z
  rw [e4] at rv
  obtain ⟨t, et⟩ := rv
  refine ⟨t, ?_⟩
  rw [ev, et, List.getD_eq_getElem?_getD, List.getElem?_eq_getElem h3] <;> rfl
def rMaxV : List V → List V → Hp → VK → Prop := fun xs zs H Q => ∃ (p d : Addr) (o : Obj) (kvs : List (List Key × V)) (ns : List Int) (z : Int), xs = [.ref p] ∧ zs = [.int z] ∧ H p = some (valsO p d) ∧ H d = some (.frz o (.dT kvs)) ∧ kvs.map (·.2) = ns.map V.int ∧ Q (.int (maxI z ns)) H
theorem cr_maxV (hc : X.calm = true) : CallRK X (.builtin "max") [("default" : Str)] rMaxV := by
  intro pins s σ H xs zs us ws Q I rx rz h
  obtain ⟨p, d, o, kvs, ns, z, rfl, rfl, hp, hd, hn, q⟩ := h
  obtain rfl := Vals.ref1 rx
  obtain ⟨u, rfl, t0, rfl⟩ := vals1 rz
  obtain ⟨es, ep, raw, view, hsz, ent⟩ := vals_int I hp hd hn
  have dl : d < s.heap.objs.size := raw.lt_size
  show wpAny (model X.prog X.w) X.A (call (.builtin "max") [.ref p] [("default", .int z t0)]) _ _ s
  refine maxD_walk (wpAny_pyIter_values_raw view raw ?_)
  refine ⟨s.heap.objs.size, [s.heap.objs.size, d], [s.heap.objs.size], es.size, _, _, fun i j => decide (ns.getD i 0 > ns.getD j 0), rfl, Walks.rawValues (show X.A.in1.handled = none from I.ok.hd hc) s.heap.objs.size d (Nat.ne_of_lt dl) es ep, ⟨⟨_, Heap.get?_push_size _ rfl, rfl, rfl⟩, raw.push _⟩, fun b hb => ?_, CmpOf.ints_gt (fun i => ns.getD i 0) ent, fun v h' tk p1 p2 k1 => ?_⟩
  · show b < (s.heap.push _).objs.size
    rw [size_push']
    rcases List.mem_cons.mp hb with e | e
    · rw [e]; exact Nat.lt_succ_self _
    · rw [List.mem_singleton.mp e]; exact Nat.lt_succ_of_lt dl
  · have keep : ∀ b ob, s.heap.get? b = some ob → h'.get? b = some ob := fun b ob e => k1 b ob (fun m => by rw [List.mem_singleton.mp m] at e; exact absurd (Heap.lt_size e) (Nat.lt_irrefl _)) (Heap.get?_push_of_some _ e)
    have ev : ∃ t, v = .int (maxI z ns) t := by
      rcases Nat.eq_zero_or_pos es.size with e0 | e0
      · refine ⟨t0, ?_⟩
        rw [p2 e0]
        have : ns = [] := List.eq_nil_of_length_eq_zero (by omega)
        rw [this]; rfl
      · obtain ⟨t, e⟩ := ent _ v (p1 e0)
        refine ⟨t, ?_⟩
        rw [e, hsz, best_max (d := z) (by omega)]
    exact ⟨.int _, H, I.kept (t' := tk) keep, ev, q⟩
/-- max(e.values(), default=n) -/
def mMaxV (z : Int) (m : Mx) : Mx := fun env S => (m env S).bind fun x S1 => match x with
  | .p (.dtt _ ds) => (match intsD ds with
    | some ns => .ok (.p (.int (maxI z ns))) S1
    | none => .bad)
  | _ => .bad
theorem se_maxV {k : Nat} {e : Expr} {m : Mx} {z : Int} {j : Nat} {p apos cpos kpos zpos pos : Pos} (g : Gd G X W k) (hm : G.mg "max" = none) (h : SE G an W X e m) (hbase : attributeBase e "values" X.env (eval e X.env) = eval e X.env := by rfl) (hline : (apos.endLine == cpos.line) = true := by rfl) (hg : Gl X "max" := by rfl)
    (hs1 : starEach [.Call (.Attribute e "values" apos) [] [] cpos] X.env = (false, eval (.Call (.Attribute e "values" apos) [] [] cpos) X.env) :: starEach [] X.env := by rfl)
    (he : backTo pos (starEach [.Call (.Attribute e "values" apos) [] [] cpos] X.env) = (false, eval (.Call (.Attribute e "values" apos) [] [] cpos) X.env) :: backTo pos (starEach [] X.env) := by rfl)
    (hpl : (backTo pos (starEach [.Call (.Attribute e "values" apos) [] [] cpos] X.env)).any (·.1) = false := by rfl)
    (hall : (backToKw pos (keywordEach [⟨some "default", .Constant (.int z) j zpos, kpos⟩] X.env)).all (·.1.isSome) = true := by rfl) (hnone : (backToKw pos (keywordEach [⟨some "default", .Constant (.int z) j zpos, kpos⟩] X.env)).any (·.1.isNone) = false := by rfl)
    (hks : (backToKw pos (keywordEach [⟨some "default", .Constant (.int z) j zpos, kpos⟩] X.env)).filterMap (·.1) = [("default" : Str)] := by rfl) :
    SE G an W X (.Call (.Name "max" p) [.Call (.Attribute e "values" apos) [] [] cpos] [⟨some "default", .Constant (.int z) j zpos, kpos⟩] pos) (mMaxV z m) := by
  refine PE.imp (pe_callBK (cr_maxV g.calm) hg (by rw [g.mg]; exact hm) (by decide +kernel) (pa_cons (pe_dvals h hbase hline) pa_nil hs1) (pk_cons pe_int pk_nil) (by decide) (by decide) he hpl hall hnone hks) fun σ H Q ⟨env, w, S, hE, hS, q⟩ => ⟨env, w, S, hE, hS, (Pst.bind q).imp (fun x S1 w1 H1 r1 g1 s1 q1 v rv => ?_) fun _ _ _ z => z⟩
  split at q1
  · rename_i ks ds
    split at q1
    · rename_i ns en
      cases rv with
      | p pv =>
        cases pv with
        | dtt hd e1 kk =>
          rename_i a o kvs
          refine ⟨a, o, kvs, rfl, hd, fun pp hp => ?_⟩
          have gw := Grow.obj (o := valsO pp a) s1 hp
          refine ⟨pp, a, o, kvs, ns, z, rfl, rfl, upd_same, by rw [upd_ne (ne_of_none hd hp)]; exact hd, ints_ok kk en, q1 w1 _ gw (s1.obj hp) _ (.p (.int _))⟩
    · exact q1.elim
  · exact q1.elim

/-! ### len(set(..)) of ints -/
def nDis (ns : List Int) : Nat := (firstMet (fun i => ns.getD i 0) ns.length).length
def tLenS (K : PySem.W.Frag) (ta : TE) : TE := fun σ H Q => ta σ H fun x H1 => ∃ (l : Addr) (ns : List Int), x = .ref l ∧ SqL K H1 l (ns.map V.int) ∧ ns.length ≤ 4000 ∧ Q (.int (nDis ns : Nat)) H1
theorem pe_lenS {a : Expr} {ta : TE} {p p2 q pos : Pos} (hg : Gl X "len") (hm : X.mg "len" = none) (hg2 : Gl X "set") (hm2 : X.mg "set" = none) (ha : PE X a ta) (hc : X.calm = true)
    (na : starEach [a] X.env = (false, eval a X.env) :: starEach [] X.env := by rfl) : PE X (.Call (.Name "len" p) [.Call (.Name "set" p2) [a] [] q] [] pos) (tLenS X.K ta) := by
  refine ⟨fun pins s σ H Q I h => ?_⟩
  refine Call_ (ld_blt I hg hm boot_len (callWith_builtin1 (args_cons ?_ rfl) rfl rfl))
  refine Call_ (ld_blt I hg2 hm2 boot_set (callWith_type1 (args_cons (thn (ha.run pins s σ H _ I h) fun v s1 ⟨x, H1, I1, r1, q1⟩ => args_nil ?_) na) na rfl))
  obtain ⟨l, ns, rfl, hq, hl, q1⟩ := q1
  cases r1
  obtain ⟨its, rv, pl, _⟩ := I1.list hq
  have len : its.toArray.size = ns.length := by rw [List.size_toArray, ← rv.length, List.length_map]
  refine call_set_list (I1.ok.hd hc) pl.isList (by simpa using RZ.intsAre_vals rv) (by rw [len]; unfold scanBound; omega) fun h' tk hS hk => ?_
  refine args_nil ?_
  rw [len] at hS
  obtain ⟨o, es, ep, t, ho, hex, hd, _, _, _, hf, hn⟩ := hS
  have I2 : Inv X pins σ H1 { s1 with heap := h', toks := tk } := I1.kept fun b o e => hk b o (Heap.lt_size e) e
  have sz : es.size = nDis ns := hn
  have le : nDis ns ≤ ns.length := firstMet_length_le _ _
  exact call_len_set ho hex hd hf (by rw [sz] <;> omega) ⟨.int (nDis ns : Nat), H1, I2.tok _, ⟨_, by rw [sz]⟩, q1⟩
def mLenS (m : Mx) : Mx := fun env S => (m env S).bind fun x S1 => match deref S1 x with
  | some (.lst ds) => (match intsD ds with
    | some ns => if decide (ns.length ≤ 4000) then .ok (.p (.int (nDis ns : Nat))) S1 else .bad
    | none => .bad)
  | _ => .bad
theorem se_lenS {k : Nat} {a : Expr} {m : Mx} {p p2 q pos : Pos} (g : Gd G X W k) (hm : G.mg "len" = none) (hm2 : G.mg "set" = none) (h : SE G an W X a m) (hg : Gl X "len" := by rfl) (hg2 : Gl X "set" := by rfl)
    (na : starEach [a] X.env = (false, eval a X.env) :: starEach [] X.env := by rfl) : SE G an W X (.Call (.Name "len" p) [.Call (.Name "set" p2) [a] [] q] [] pos) (mLenS m) := by
  refine PE.imp (pe_lenS hg (by rw [g.mg]; exact hm) hg2 (by rw [g.mg]; exact hm2) h g.calm na) fun σ H Q ⟨env, w, S, hE, hS, q⟩ => ⟨env, w, S, hE, hS, (Pst.bind q).imp (fun x S1 w1 H1 r1 g1 s1 q1 v rv => ?_) fun _ _ _ z => z⟩
  split at q1
  · rename_i ds eo
    split at q1
    · rename_i ns en
      split at q1
      · rename_i hl
        obtain ⟨a, xs, rfl, h1, kk⟩ := (rv.top s1 eo).lst
        have e := ints_ok kk en
        subst e
        exact ⟨a, ns, rfl, by rw [g.K]; exact h1, of_decide_eq_true hl, q1 w1 H1 Grow.refl s1 _ (.p (.int _))⟩
      · exact q1.elim
    · exact q1.elim
  · exact q1.elim
end
end EV

set_option Elab.async false
set_option linter.all false
set_option maxRecDepth 100000
/-! EvOg: sorted of ints, of dicts with ints as keys; walks of such dicts. -/
namespace EV
open PySem PySem.Spec PyProof.Rows L2
def insZ (x : Int) : List Int → List Int
  | [] => [x]
  | y :: r => if x ≤ y then x :: y :: r else y :: insZ x r
def sortZ (l : List Int) : List Int := l.foldr insZ []
theorem insZ_perm {x : Int} : ∀ {l : List Int}, (insZ x l).Perm (x :: l)
  | [] => .refl _
  | y :: r => by
    unfold insZ
    split
    · exact .refl _
    · exact ((insZ_perm (l := r)).cons y).trans (.swap _ _ _)
theorem sortZ_perm : ∀ {l : List Int}, (sortZ l).Perm l
  | [] => .refl _
  | x :: r => insZ_perm.trans ((sortZ_perm (l := r)).cons x)
theorem insZ_pw {x : Int} : ∀ {l : List Int}, l.Pairwise (· ≤ ·) → (insZ x l).Pairwise (· ≤ ·)
  | [], _ => List.pairwise_singleton _ _
  | y :: r, h => by
    unfold insZ
    obtain ⟨h1, h2⟩ := List.pairwise_cons.mp h
    split
    · rename_i c
      exact List.pairwise_cons.mpr ⟨fun z hz => by
        rcases List.mem_cons.mp hz with e | e
        · rw [e]; exact c
        · exact Int.le_trans c (h1 z e), h⟩
    · rename_i c
      refine List.pairwise_cons.mpr ⟨fun z hz => ?_, insZ_pw h2⟩
      rcases List.mem_cons.mp ((insZ_perm (l := r)).mem_iff.mp hz) with e | e
      · rw [e]; omega
      · exact h1 z e
theorem sortZ_pw : ∀ {l : List Int}, (sortZ l).Pairwise (· ≤ ·)
  | [] => .nil
  | _ :: r => insZ_pw (sortZ_pw (l := r))
theorem sortZ_eq {l m : List Int} (p : m.Perm l) (h : m.Pairwise (· ≤ ·)) : m = sortZ l := ps_eq (fun a b => Int.le_antisymm) (p.trans sortZ_perm.symm) h sortZ_pw
def dSrtA : List Dt → Option (List Dt)
  | [.lst ds] => match intsD ds with
    | some ns => if decide (ns.length < 64) then some ((sortZ ns).map .int) else none
    | none => dSrtK [.lst ds]
  | [.dct ks _] => match intsK ks with
    | some ns => if decide (ns.length < 64) then some ((sortZ ns).map .int) else none
    | none => none
  | [.dtt ks ds] => dSrtK [.dtt ks ds]
  | _ => none
def rSrtDI (H : Hp) (Q : VK) (xs : List V) : Prop := ∃ (a : Addr) (kvs : List (Key × V)) (ks : List Int), xs = [.ref a] ∧ Rd H a (.dK kvs) ∧ kvs.map (·.1) = ks.map Sum.inl ∧ ks.length < 64 ∧ ∀ (ys : List Int) (p : Addr), ys.Perm ks → ys.Pairwise (· ≤ ·) → H p = none → Q (.ref p) (upd H p (.lst (ys.map V.int)))
def rSrtA (K : PySem.W.Frag) : List V → Hp → VK → Prop := fun vs H Q => rSrtK K vs H Q ∨ rSorted K vs H Q ∨ rSrtDI H Q vs
theorem cr_srtA {X : Cx} (hc : X.calm = true) (hu : X.A.units + 64 < cLine) : CallR X (.builtin "sorted") (rSrtA X.K) := by
  intro pins s σ H vs us Q I r h
  rcases h with h | h | h
  · exact cr_srtK hc hu pins s σ H vs us Q I r h
  · exact cr_sorted pins s σ H vs us Q I r h
  · exact call_sortedDI hc pins s σ H vs us Q I r h
section
variable {G : Stat} {an : An} {w w' : Wd} {H H' : Hp} {S S' : Sto} {W : WX} {X : Cx}
theorem perL_ints : ∀ (ns : List Int), PerL G w H (ns.map .int) (ns.map V.int)
  | [] => .nil
  | n :: r => .cons (.int n) (perL_ints r)
theorem okF_srtA : PrF G (rSrtA G.K) dSrtA := by
  intro an w S H ds xs z Q hS t e q
  match ds, e with
  | [.lst ds], e =>
    have e : (match intsD ds with
      | some ns => if decide (ns.length < 64) = true then some ((sortZ ns).map Dt.int) else none
      | none => dSrtK [.lst ds]) = some z := e
    cases e1 : intsD ds with
    | none => rw [e1] at e; exact .inl (okF_srtK an w S H [.lst ds] xs z Q hS t e q)
    | some ns =>
      rw [e1] at e
      dsimp only at e
      split at e
      · rename_i hl
        cases e
        obtain ⟨v, rfl, tv⟩ := TpL.one t
        obtain ⟨a, ys, rfl, h1, h2⟩ := tv.lst
        have e2 := ints_ok h2 e1
        subst e2
        refine .inr (.inl ⟨a, ns, rfl, h1, of_decide_eq_true hl, fun ys p hp pw hn => ?_⟩)
        rw [sortZ_eq hp pw]
        exact q w H p _ Grow.refl hS hn (perL_ints _)
      · cases e
  | [.dct ks ds], e =>
    have e : (match intsK ks with
      | some ns => if decide (ns.length < 64) = true then some ((sortZ ns).map Dt.int) else none
      | none => none) = some z := e
    cases e1 : intsK ks with
    | none => rw [e1] at e; cases e
    | some ns =>
      rw [e1] at e
      dsimp only at e
      split at e
      · rename_i hl
        cases e
        obtain ⟨v, rfl, tv⟩ := TpL.one t
        obtain ⟨a, kvs, rfl, h1, h2, h3⟩ := tv.dct'
        refine .inr (.inr ⟨a, kvs, ns, rfl, h1, by rw [h2]; exact intsK_ok e1, of_decide_eq_true hl, fun ys p hp pw hn => ?_⟩)
        rw [sortZ_eq hp pw]
        exact q w H p _ Grow.refl hS hn (perL_ints _)
      · cases e
  | [.dtt ks ds], e => exact .inl (okF_srtK an w S H [.dtt ks ds] xs z Q hS t e q)
theorem Per.dtK (k : Key) : Per G w H (EV.dtK k) (kV k) := by
  cases k with
  | inl i => exact .int i
  | inr s => exact .str s
end
end EV

set_option Elab.async false
set_option linter.all false
set_option maxRecDepth 100000
/-! EvOh: dicts with bools among their keys: displays, walks by keys; walks of dicts with plain keys. -/
namespace EV
open PySem PySem.Spec PyProof.Rows L2
theorem kB_is {P : Program} {w : World} {b0 b1 : Bool} {k : Leaf} {v : Value} (r : RelV (kB b0 b1 k) v) : (bKind P w b0 b1).is k v = true := by
  cases k with
  | none => cases (show v = Value.none from r); rfl
  | text x =>
    obtain ⟨t, e⟩ := (show ∃ t, v = Value.str x t from r)
    cases e
    show (Value.isStrOf x (.str x t) && true) = true
    rw [Bool.and_true]
    exact decide_eq_true rfl
  | num i =>
    have r : RelV (if i = 0 ∧ b0 = true then V.bl false else if i = 1 ∧ b1 = true then V.bl true else V.int i) v := r
    split at r
    · rename_i h
      cases (show v = Value.bool false from r)
      obtain ⟨rfl, rfl⟩ := h
      cases b1 <;> rfl
    · rename_i h0
      split at r
      · rename_i h
        cases (show v = Value.bool true from r)
        obtain ⟨rfl, rfl⟩ := h
        cases b0 <;> rfl
      · rename_i h1
        obtain ⟨t, e⟩ := (show ∃ t, v = Value.int i t from r)
        cases e
        show (decide (i = i) && (false == ((decide (i = 0) && b0) || (decide (i = 1) && b1)))) = true
        rw [decide_eq_true rfl, Bool.true_and, beq_iff_eq]
        refine (Bool.or_eq_false_iff.mpr ⟨?_, ?_⟩).symm
        · cases b0 with
          | false => exact Bool.and_false _
          | true => rw [Bool.and_true]; exact decide_eq_false fun e => h0 ⟨e, rfl⟩
        · cases b1 with
          | false => exact Bool.and_false _
          | true => rw [Bool.and_true]; exact decide_eq_false fun e => h1 ⟨e, rfl⟩
theorem lv_of {P : Program} {w : World} {b0 b1 : Bool} : ∀ {kvs : List (Leaf × V)} {ws : List (Value × Value)}, VV (kvs.map fun kv => (kB b0 b1 kv.1, kv.2)) ws → ∃ rs, Carries (bKind P w b0 b1) ws rs ∧ LV kvs rs
  | [], _, r => by rw [List.map_nil] at r; cases r; exact ⟨[], True.intro, .nil⟩
  | p :: kvs, _, r => by
    rw [List.map_cons] at r
    cases r with
    | @cons a b as bs h t =>
      obtain ⟨rs, c, q⟩ := lv_of (P := P) (w := w) t
      obtain ⟨c1, c2⟩ := b
      exact ⟨(p.1, c2) :: rs, ⟨kB_is h.1, rfl, c⟩, .cons ⟨rfl, h.2⟩ q⟩
theorem lv_keys : ∀ {kvs : List (Leaf × V)} {rs : List (Leaf × Value)}, LV kvs rs → kvs.map (·.1) = rs.map (·.1)
  | _, _, .nil => rfl
  | _, _, .cons h t => by rw [List.map_cons, List.map_cons, h.1, lv_keys t]
theorem merged_app {K : Type} [DecidableEq K] : ∀ (more acc : List (K × Value)), ((acc ++ more).map (·.1)).Nodup → merged acc more = acc ++ more
  | [], acc, _ => by simp [merged]
  | p :: r, acc, h => by
    have no : (acc.any fun kv => decide (kv.1 = p.1)) = false := by
      cases e : acc.any fun kv => decide (kv.1 = p.1) with
      | false => rfl
      | true =>
        obtain ⟨x, hx, ex⟩ := List.any_eq_true.mp e
        rw [List.map_append, List.nodup_append] at h
        exact absurd (of_decide_eq_true ex) (h.2.2 _ (List.mem_map.mpr ⟨x, hx, rfl⟩) _ (List.mem_map.mpr ⟨p, List.mem_cons_self, rfl⟩))
    have st : stored acc p.1 p.2 = acc ++ [p] := by
      unfold stored
      rw [no]
      rfl
    show merged (stored acc p.1 p.2) r = acc ++ p :: r
    rw [st, merged_app r (acc ++ [p]) (by simpa using h)]
    simp
theorem empty_of {P : Program} {w : World} {K1 K2 : Type} [DecidableEq K1] [DecidableEq K2] {k1 : KeyKind P w K1} {k2 : KeyKind P w K2} {h : Heap} {a : Addr} (d : h.DictOf k1 a []) : h.DictOf k2 a [] := by
  obtain ⟨o, es, ep, e, x, hd, ks, ps, nd⟩ := d
  have e0 : es.toList = [] := by
    have := ps.length
    exact List.eq_nil_of_length_eq_zero this
  refine ⟨o, es, ep, e, x, hd, ?_, by rw [e0]; exact .nil, List.nodup_nil⟩
  have e1 : es = #[] := by
    apply Array.toList_inj.mp
    rw [e0]
  subst e1
  first | exact fun _ h => by simp at h | (intro i hi; simp at hi) | simp [KeysOf]
theorem pe_dispX {X : Cx} {pos : Pos} {keys : List (Option Expr)} {values : List Expr} {trs : List (TE × TE)} {b0 b1 : Bool} (h : PPs X pos keys values trs) (hall : keys.all (·.isSome) = true) (hl : keys.length = values.length) (h0 : keys ≠ []) (h15 : keys.length ≤ 15) :
    PE X (.Dict keys values pos) (fun σ H Q => ∀ p, H p = none → tPairs trs σ (upd H p (.dK [])) fun ps H2 => H2 p = some (.dK []) ∧ ∃ kvs : List (Leaf × V), ps = kvs.map (fun kv => (kB b0 b1 kv.1, kv.2)) ∧ (kvs.map (·.1)).Nodup ∧ kvs.length ≤ 15 ∧ Q (.ref p) (upd H2 p (dXo X.prog X.w b0 b1 p kvs))) := by
  refine ⟨fun pins s σ H Q I q => ?_⟩
  have fresh := I.hok.fresh (Nat.le_refl s.heap.objs.size)
  have I1 := I.laid (a := s.heap.objs.size) (o := .dK []) (h' := s.heap.push { cls := .type "dict", data := .dict #[] }) (t' := s.toks) (fun _ _ q => Heap.get?_push_of_some _ q) (Nat.le_refl _) (dk_empty s.heap I.big)
  refine wpAny_Dict_walk (knd := bKind X.prog X.w b0 b1) hall hl h0 h15 (thn (h.run pins _ σ _ _ I1 (q _ fresh)) fun ws s2 ⟨ps, H2, I2, rel, e, kvs, ep, nd, lk, q2⟩ => ?_)
  subst ep
  obtain ⟨rs, c, rk⟩ := lv_of (P := X.prog) (w := X.w) rel
  obtain ⟨_, lo, vs0, r0, dd⟩ := dk_of I2.hok e
  cases r0
  have mm : merged [] rs = rs := merged_app rs [] (by rw [List.nil_append, ← lv_keys rk]; exact nd)
  refine ⟨rs, c, empty_of dd, fun h' dd' hs => ⟨.ref s.heap.objs.size, _, ?_, rfl, q2⟩⟩
  rw [mm] at dd'
  have he : ∃ q, h'.get? s.heap.objs.size = some q := let ⟨q, _, _, hq, _⟩ := dd'; ⟨q, hq⟩
  exact d_write I2 (by rw [e]; exact True.intro) hs he (dXo_ok (by rw [sizeLine_eq]; omega) lo rk dd')
/-! ### its keys, walked -/
section
variable {X : Cx} {pins : List (Addr × Obj)} {σ : L2.St} {H : Hp} {s : Shared} {d : Addr} {o : Obj}
theorem pairs_at {P : Program} {w : World} {b0 b1 : Bool} : ∀ {kvs : List (Leaf × V)} {us : List (Leaf × Value)} {es : List DictEntry} {i : Nat} {k : Leaf} {v : V}, LV kvs us → Pairs (bKind P w b0 b1) es us → kvs[i]? = some (k, v) → ∃ en, es[i]? = some en ∧ RelV (kB b0 b1 k) en.key ∧ RelV v en.val
  | _, _, _, i, k, v, .nil, .nil, e => by simp at e
  | _, _, _, 0, k, v, .cons h t, .cons h1 h2 h3, e => by
    have e := Option.some.inj (show some _ = some (k, v) from e)
    subst e
    obtain ⟨q1, q2⟩ := h
    exact ⟨_, rfl, kB_rel (by rw [show k = _ from q1]; exact h1), by rw [h2]; exact q2⟩
  | _, _, _, i + 1, k, v, .cons h t, .cons h1 h2 h3, e => by
    obtain ⟨en, a, b, c⟩ := pairs_at (i := i) (k := k) (v := v) t h3 (by simpa using e)
    exact ⟨en, by simpa using a, b, c⟩
theorem frzX {P : Program} {w : World} {b0 b1 : Bool} {kvs : List (Leaf × V)} (I : Inv X pins σ H s) (h : H d = some (.frz o (dXo P w b0 b1 d kvs))) :
    (d == sysModules) = false ∧ s.heap.get? d = some o ∧ o.ExactDict ∧ ∃ (es : Array DictEntry) (ep : Nat), o.data = .dict es ep ∧ es.size = kvs.length ∧ ∀ (i : Nat) (k : Leaf) (v : V), kvs[i]? = some (k, v) → ∃ en, es[i]? = some en ∧ RelV (kB b0 b1 k) en.key ∧ RelV v en.val := by
  obtain ⟨hd, ⟨z, lo, us, r, o', es, ep, ho, hx, hdt, _, ps, _⟩, _⟩ := (show ObjOk X.prog X.w H s.heap d (.frz o (dXo P w b0 b1 d kvs)) from I.hok d _ h)
  rw [hd] at ho
  cases ho
  refine ⟨lo, hd, hx, es, ep, hdt, ?_, fun i k v e => ?_⟩
  · have l1 := ps.length
    have l2 : kvs.length = us.length := Paired.length r
    rw [Array.length_toList] at l1
    omega
  · obtain ⟨en, e1, e2, e3⟩ := pairs_at r ps e
    exact ⟨en, by rw [← Array.getElem?_toList]; exact e1, e2, e3⟩
end
def Itx (P : Program) (w : World) (b0 b1 : Bool) (d : Addr) (o : Obj) (kvs : List (Leaf × V)) : It :=
  ⟨fun i H => H d = some (.frz o (dXo P w b0 b1 d kvs)) ∧ i < kvs.length, fun i H x H' => H' = H ∧ ∃ k v, kvs[i]? = some (k, v) ∧ x = kB b0 b1 k, fun i H => H d = some (.frz o (dXo P w b0 b1 d kvs)) ∧ kvs.length ≤ i⟩
theorem turn_keysX {P P2 : Program} {w w2 : World} {K : PySem.W.Frag} {tg : Expr} {d : Addr} {o : Obj} {es : Array DictEntry} {ep : Nat} {b0 b1 : Bool} {kvs : List (Leaf × V)} (it : Addr) (hod : o.data = .dict es ep) : Turn P w K tg (Itx P2 w2 b0 b1 d o kvs) [it] it (fun i h => h.IsKeyIter it d i kvs.length ep) where
  mem := by simp
  obj := fun i h st b hb => by
    have e : b = it := by simpa using hb
    subst e
    obtain ⟨oi, e, c, dd⟩ := st
    exact ⟨oi, e, fun v z => by rw [dd] at z; cases z⟩
  keep := fun i h h' st k => st.at fun oi e => k it (by simp) oi e
  item := by
    intro X hP hw hK hc i pins s σ H E I hf st hg
    subst hP hw hK
    obtain ⟨hd, hi⟩ := hg
    obtain ⟨f0, f1, f2, f3, f4, f5⟩ := hf it (by simp)
    obtain ⟨hs, hgd, hx, es', ep', hdt, hsz, ent⟩ := frzX I hd
    obtain ⟨rfl, rfl⟩ := dict_ep hod hdt
    obtain ⟨⟨k, v⟩, hkv⟩ : ∃ p, kvs[i]? = some p := ⟨kvs[i], List.getElem?_eq_getElem hi⟩
    obtain ⟨en, hen, rk, _⟩ := ent i k v hkv
    refine next_key_item st hgd hdt hsz hen fun h' st' sb => ?_
    have I1 : Inv X pins σ H { s with heap := h' } := I.turned (t' := s.toks) (fun b ob hb e => (sb.2 b hb).trans e) f0 f1 f3 f4 f5
    obtain ⟨oi, e, c, dd⟩ := id st'
    exact ⟨en.key, rfl, go_of (s := { s with heap := h' }) e c dd (by decide) ⟨kB b0 b1 k, H, I1, rk, ⟨rfl, k, v, hkv, rfl⟩, st', fun b hb => (hf b hb).1⟩⟩
  done := by
    intro X hP hw hK hc i pins s σ H E I hf st hg
    subst hP hw hK
    obtain ⟨hd, hi⟩ := hg
    obtain ⟨f0, f1, f2, f3, f4, f5⟩ := hf it (by simp)
    obtain ⟨hs, hgd, hx, es', ep', hdt, hsz, ent⟩ := frzX I hd
    obtain ⟨rfl, rfl⟩ := dict_ep hod hdt
    exact next_key_end (I.ok.hd hc) st hgd hdt hsz hi fun h' eb => ⟨rfl, I.turned (t' := s.toks) (fun b ob hb e => eb b ob hb e) f0 f1 f3 f4 f5⟩
  self := fun A i s Q E st h => wpAny_pyIter_keyiter st h
theorem pi_keysX {X : Cx} {tg e : Expr} {td : TE} {P : Program} {w : World} {b0 b1 : Bool} (he : PE X e td) : PI X tg e (fun σ H R => td σ H fun x H1 => ∃ d o kvs, x = .ref d ∧ H1 d = some (.frz o (dXo P w b0 b1 d kvs)) ∧ R (Itx P w b0 b1 d o kvs) H1) := by
  refine ⟨fun pins s σ H R I h => ?_⟩
  refine thn (he.run pins s σ H _ I h) fun u s1 ⟨x, H1, I1, rx, d, o, kvs, ex, hd, q⟩ => ?_
  subst ex
  obtain rfl : u = Value.ref d := rx
  obtain ⟨hs, hgd, hx, es, ep, hdt, hsz, ent⟩ := frzX I1 hd
  refine iter_keys hs hgd hx hdt (pi_one (tk := s1.toks) I1 _ (turn_keysX _ hdt) ⟨_, Heap.get?_push_size _ rfl, rfl, ?_⟩ q)
  rw [hsz] <;> rfl
end EV
namespace EV
open PySem PySem.Spec PyProof.Rows L2
section
variable {G : Stat} {an : An} {w w' : Wd} {H H' : Hp} {S S' : Sto} {W : WX} {X : Cx}
theorem tPairs_lit {b0 b1 : Bool} {σ : L2.St} : ∀ {ks : List Leaf} {vs : List V} {H : Hp} {Q : List (V × V) → Hp → Prop}, ks.length = vs.length → Q ((ks.zip vs).map fun p => (kB b0 b1 p.1, p.2)) H → tPairs ((ks.zip vs).map fun p => (tC (kB b0 b1 p.1), tC p.2)) σ H Q
  | [], [], _, _, _, q => q
  | k :: ks, v :: vs, H, Q, h, q => tPairs_lit (ks := ks) (vs := vs) (H := H) (Q := fun ps H3 => Q ((kB b0 b1 k, v) :: ps) H3) (by simpa using h) q
  | [], _ :: _, _, _, h, _ => by simp at h
  | _ :: _, [], _, _, h, _ => by simp at h
theorem se_dcx {k : Nat} {pos : Pos} {keys : List (Option Expr)} {values : List Expr} {b0 b1 : Bool} {ks : List Leaf} {ds : List Dt} {vs : List V} (g : Gd G X W k) (h : PPs X pos keys values ((ks.zip vs).map fun p => (tC (kB b0 b1 p.1), tC p.2))) (hkv : ks.length = vs.length) (hp : ∀ w H, PerL G w H ds vs) (nd : ks.Nodup)
    (hall : keys.all (·.isSome) = true := by rfl) (hl : keys.length = values.length := by rfl) (h0 : keys ≠ [] := by simp) (h15 : keys.length ≤ 15 := by decide) (hk15 : ks.length ≤ 15 := by decide) : SE G an W X (.Dict keys values pos) (mLit (.dcx b0 b1 ks ds)) := by
  refine PE.imp (pe_frz (pe_dispX (b0 := b0) (b1 := b1) h hall hl h0 h15)) fun σ H Q ⟨env, w, S, hE, hS, q⟩ => ?_
  intro p hpn
  refine tPairs_lit hkv ⟨upd_same, ks.zip vs, rfl, ?_, ?_, p, _, rfl, upd_same, trivial, fun od => ?_⟩
  · rw [List.map_fst_zip (by omega)]; exact nd
  · rw [List.length_zip]; omega
  · rw [upd_upd, upd_upd]
    have gw := Grow.obj (o := .frz od (dXo X.prog X.w b0 b1 p (ks.zip vs))) hS hpn
    rw [g.P, g.w] at gw ⊢
    exact q w _ gw (hS.obj hpn) _ (.p (.dcx upd_same (List.map_fst_zip (by omega)) (by rw [List.map_snd_zip (by omega)]; exact hp _ _)))
/-! ### what is walked: any dict by its keys -/
def leafD (b0 b1 : Bool) : Leaf → Dt
  | .none => .non
  | .num i => if i = 0 ∧ b0 = true then .bl false else if i = 1 ∧ b1 = true then .bl true else .int i
  | .text x => .str x
theorem Per.leaf {b0 b1 : Bool} (k : Leaf) : Per G w H (leafD b0 b1 k) (kB b0 b1 k) := by
  cases k with
  | none => exact .non
  | text x => exact .str x
  | num i =>
    show Per G w H (if i = 0 ∧ b0 = true then .bl false else if i = 1 ∧ b1 = true then .bl true else .int i) (if i = 0 ∧ b0 = true then .bl false else if i = 1 ∧ b1 = true then .bl true else .int i)
    split
    · exact .bl _
    · split
      · exact .bl _
      · exact .int i
theorem itr_keysX {P : Program} {wl : World} {b0 b1 : Bool} {a : Addr} {o : Obj} {kvs : List (Leaf × V)} {ks : List Leaf} (h : H a = some (.frz o (dXo P wl b0 b1 a kvs))) (e : kvs.map (·.1) = ks) : ItR G an (Itx P wl b0 b1 a o kvs) (ks.map (leafD b0 b1)) w H := fun i w' H' g => by
  have h' := g.frzs _ _ _ h
  subst e
  refine ⟨fun d hd => ?_, fun hl => ⟨h', by simpa using hl⟩⟩
  rw [List.map_map, List.getElem?_map] at hd
  cases hk : kvs[i]? with
  | none => rw [hk] at hd; cases hd
  | some kv =>
    rw [hk] at hd
    have hd : leafD b0 b1 kv.1 = d := by simpa using hd
    subst hd
    refine ⟨⟨h', (List.getElem?_eq_some_iff.mp hk).1⟩, fun x H2 y S s => ?_⟩
    obtain ⟨rfl, k2, v2, y, rfl⟩ := y
    rw [hk] at y
    cases y
    exact ⟨Grow.refl, s, Per.leaf k2⟩
theorem itr_keysK2 {a : Addr} {o : Obj} {kvs : List (Key × V)} {ks : List Key} (h : H a = some (.frz o (.dK kvs))) (e : kvs.map (·.1) = ks) : ItR G an (Itk a o kvs) (ks.map dtK) w H := fun i w' H' g => by
  have h' := g.frzs _ _ _ h
  subst e
  refine ⟨fun d hd => ?_, fun hl => ⟨h', by simpa using hl⟩⟩
  rw [List.map_map, List.getElem?_map] at hd
  cases hk : kvs[i]? with
  | none => rw [hk] at hd; cases hd
  | some kv =>
    rw [hk] at hd
    have hd : dtK kv.1 = d := by simpa using hd
    subst hd
    refine ⟨⟨h', (List.getElem?_eq_some_iff.mp hk).1⟩, fun x H2 y S s => ?_⟩
    obtain ⟨rfl, k2, v2, y, rfl⟩ := y
    rw [hk] at y
    cases y
    exact ⟨Grow.refl, s, Per.dtK k2⟩
def miKeysG (m : Mx) : Mi := fun env S => (m env S).bind fun x S1 => match x with
  | .p (.dtt ks _) => .ok (ks.map fun k => .tup (k.map dtK)) S1
  | .p (.dct ks _) => .ok (ks.map dtK) S1
  | .p (.dcx b0 b1 ks _) => .ok (ks.map (leafD b0 b1)) S1
  | _ => .bad
theorem si_keysG {k : Nat} {tg e : Expr} {m : Mx} (g : Gd G X W k) (h : SE G an W X e m) : SI G an W X tg e (miKeysG m) := by
  refine ⟨fun pins s σ H R I ⟨env, w, S, hE, hS, q⟩ => ?_⟩
  have q := Pst.bind q
  by_cases z : ∃ b0 b1 ks ds S1, m env S = .ok (.p (.dcx b0 b1 ks ds)) S1
  · obtain ⟨b0, b1, ks, ds, S1, r⟩ := z
    refine (pi_keysX (P := G.P) (w := G.w) (b0 := b0) (b1 := b1) h).run pins s σ H R I ⟨env, w, S, hE, hS, ?_⟩
    rw [r] at q ⊢
    intro w1 H1 g1 s1 v rv
    cases rv with
    | p pv => cases pv with
      | dcx hd e1 kk => exact ⟨_, _, _, rfl, hd, q w1 H1 g1 s1 w1 H1 Grow.refl s1 _ (itr_keysX hd e1)⟩
  · refine (pi_keys h).run pins s σ H R I ⟨env, w, S, hE, hS, q.imp (fun x S1 w1 H1 r g1 s1 q1 v rv => ?_) fun _ _ _ z => z⟩
    cases x with
    | loc n => exact q1.elim
    | p d => cases d with
      | dtt ks ds =>
        cases rv with
        | p pv => cases pv with
          | dtt hd e1 kk => exact ⟨_, _, rfl, .inr ⟨_, hd, q1 w1 H1 Grow.refl s1 _ (itr_keysD hd e1)⟩⟩
      | dct ks ds =>
        cases rv with
        | p pv => cases pv with
          | dct hd e1 kk => exact ⟨_, _, rfl, .inl ⟨_, hd, q1 w1 H1 Grow.refl s1 _ (itr_keysK2 hd e1)⟩⟩
      | dcx b0 b1 ks ds => exact absurd ⟨b0, b1, ks, ds, S1, r⟩ z
      | _ => exact q1.elim
end
end EV

set_option Elab.async false
set_option linter.all false
set_option maxRecDepth 100000
/-! EvOi: displays of dicts with plain keys. -/
namespace EV
open PySem PySem.Spec PyProof.Rows L2
section
variable {G : Stat} {an : An} {w w' : Wd} {H H' : Hp} {S S' : Sto} {W : WX} {X : Cx}
def psGoK : List (Mx × Mx) → Slo → Sto → Rz (List (Key × Dt))
  | [], _, S => .ok [] S
  | m :: r, env, S => (m.1 env S).bind fun x S1 => (m.2 env S1).bind fun y S2 => match x, y with
    | .p d, .p e => (match keyD d with
      | some k => (psGoK r env S2).bind fun z S3 => .ok ((k, e) :: z) S3
      | none => .bad)
    | _, _ => .bad
theorem pairsK_read : ∀ (ms : List (Mx × Mx)) {σ : L2.St} {env : Slo} {w : Wd} {S : Sto} {H : Hp} {Q : List (V × V) → Hp → Prop}, EnvR G w H env σ → StoR G an w S H →
    Pst G an w H (psGoK ms env S) (fun z _ w' H' => ∀ kvs : List (Key × V), kvs.map (·.1) = z.map (·.1) → PerL G w' H' (z.map (·.2)) (kvs.map (·.2)) → Q (kvs.map fun kv => (kV kv.1, kv.2)) H') (fun c d H' => W c d σ H') → tPairs (trsOf G an W ms) σ H Q
  | [], σ, env, w, S, H, Q, hE, hS, q => q w H Grow.refl hS [] rfl .nil
  | m :: r, σ, env, w, S, H, Q, hE, hS, q => by
    refine ⟨env, w, S, hE, hS, (Pst.bind q).imp (fun x S1 w1 H1 _ g1 s1 q1 v rv => ?_) fun _ _ _ z => z⟩
    refine ⟨env, w1, S1, hE.mono g1, s1, (Pst.bind q1).imp (fun y S2 w2 H2 _ g2 s2 q2 u ru => ?_) fun _ _ _ z => z⟩
    split at q2
    · rename_i d e
      split at q2
      · rename_i k ek
        refine pairsK_read r ((hE.mono g1).mono g2) s2 ((Pst.bind q2).imp (fun z S3 w3 H3 _ g3 s3 q3 kvs e2 e3 => ?_) fun _ _ _ z => z)
        cases rv with
        | p pv => cases ru with
          | p pu =>
            have ev := keyD_ok (.per ((pv.mono g2).mono g3)) ek
            subst ev
            exact q3 w3 H3 Grow.refl s3 ((k, u) :: kvs) (by simp [e2]) (.cons (pu.mono g3) e3)
      · exact q2.elim
    · exact q2.elim
theorem mergeK_app : ∀ (more acc : List (Key × V)), ((acc ++ more).map (·.1)).Nodup → mergeK acc more = acc ++ more
  | [], acc, _ => by simp [mergeK]
  | p :: r, acc, h => by
    have put : ∀ (l : List (Key × V)), p.1 ∉ l.map (·.1) → putK l p.1 p.2 = l ++ [p] := fun l => by
      intro hl
      unfold putK
      have no : (l.any fun kv => decide (kv.1 = p.1)) = false := by
        cases e : l.any fun kv => decide (kv.1 = p.1) with
        | false => rfl
        | true =>
          obtain ⟨x, hx, ex⟩ := List.any_eq_true.mp e
          exact absurd (List.mem_map.mpr ⟨x, hx, of_decide_eq_true ex⟩) hl
      first | (rw [no]; rfl) | (rw [if_neg (by simpa using no)])
    have hn : p.1 ∉ acc.map (·.1) := fun m => by
      rw [List.map_append, List.nodup_append] at h
      exact h.2.2 _ m _ (List.mem_map.mpr ⟨p, List.mem_cons_self, rfl⟩) rfl
    show mergeK (putK acc p.1 p.2) r = acc ++ p :: r
    rw [put acc hn, mergeK_app r (acc ++ [p]) (by simpa using h)]
    simp
def mDctK (ms : List (Mx × Mx)) : Mx := fun env S => (psGoK ms env S).bind fun z S1 => if decide (z.length ≤ 15) && decide (z.map (·.1)).Nodup then .ok (.p (.dct (z.map (·.1)) (z.map (·.2)))) S1 else .bad
theorem se_dctK {k : Nat} {pos : Pos} {keys : List (Option Expr)} {values : List Expr} {ms : List (Mx × Mx)} (g : Gd G X W k) (h : SPs G an W X pos keys values ms) (hall : keys.all (·.isSome) = true := by rfl) (hl : keys.length = values.length := by rfl) (h0 : keys ≠ [] := by simp) (h15 : keys.length ≤ 15 := by decide) :
    SE G an W X (.Dict keys values pos) (mDctK ms) := by
  refine PE.imp (pe_frz (pe_disp h.run hall hl h0 h15)) fun σ H Q ⟨env, w, S, hE, hS, q⟩ => fun p hp => ?_
  have ga := Grow.aside (o := .dK []) hS hp
  refine pairsK_read ms (hE.mono ga) (hS.aside hp trivial) ?_
  unfold mDctK at q
  cases hz : psGoK ms env S with
  | bad => rw [hz] at q; exact q.elim
  | exc c d S1 =>
    rw [hz] at q
    exact fun w' H' cls dd g s x => (show ∀ w' H' cls dd, Grow w H w' H' → StoR G an w' S1 H' → ExR G w' H' c d cls dd → W cls dd σ H' from q) w' H' cls dd (ga.trans g) s x
  | ok z S1 =>
    rw [hz] at q
    intro w1 H1 g1 s1 kvs e2 e3
    have q : Pst G an w H (if (decide (z.length ≤ 15) && decide (z.map (·.1)).Nodup) = true then .ok (.p (.dct (z.map (·.1)) (z.map (·.2)))) S1 else .bad) (fun x _ w' H' => ∀ v, Rv G w' H' x v → Q v H') (fun c d H' => W c d σ H') := q
    split at q
    · rename_i hc
      obtain ⟨c1, c2⟩ := (Bool.and_eq_true _ _).mp hc
      have c1 := of_decide_eq_true c1
      have c2 := of_decide_eq_true c2
      have hl1 : kvs.length = z.length := by have := congrArg List.length e2; simpa using this
      have mm : mergeK [] kvs = kvs := mergeK_app kvs [] (by rw [List.nil_append, e2]; exact c2)
      have hH : H1 p = some (.dK []) := g1.keep p _ upd_same (hS.out hp)
      have hx : p ∈ w1.xi := g1.xi p List.mem_cons_self
      have gr := ga.trans g1
      have gd := gr.del hp (hS.outx hp) hH
      have sd := s1.del hH trivial hx (an.m _ _ _ _ gd hS.anc)
      refine ⟨hH, kvs, rfl, by omega, p, _, rfl, upd_same, trivial, fun od => ?_⟩
      rw [upd_upd, mm]
      have go := Grow.obj (o := .frz od (.dK kvs)) sd delH_same
      have so := sd.obj (o := .frz od (.dK kvs)) delH_same
      have k2 := (e3.del hH trivial hx).mono go
      have q2 := q _ _ (gd.trans go) so (.ref p) (.p (.dct upd_same e2 k2))
      rw [upd_delO] at q2
      exact q2
    · exact q.elim
end
end EV

set_option Elab.async false
set_option linter.all false
set_option maxRecDepth 100000
set_option maxHeartbeats 4000000
/-! a tuple repeated more than a thousand times -/
namespace EV
open PySem PySem.Spec PyProof.Rows L2
def rRepM (K : PySem.W.Frag) : R2 := fun x y H Q => ∃ l k xs, x = .ref l ∧ y = .int k ∧ SqT K H l xs ∧ xs ≠ [] ∧ 2 ≤ k ∧ (xs.length : Int) * k ≤ 100000 ∧ ∀ p, H p = none → Q (.ref p) (upd H p (.tup (List.replicate k.toNat xs).flatten))
theorem op_repM {X : Cx} : OpR X (binaryOp .Mult) (rRepM X.K) := by
  rintro pins s σ H x y v u Q I rx ry ⟨l, k, xs, rfl, rfl, hT, hne, h1, h2, q⟩
  cases rx
  obtain ⟨t, rfl⟩ := ry
  obtain ⟨its, r, ⟨⟨c, dd, da, sl⟩, ho, hc, n, hd⟩, hs⟩ := I.tuple hT
  obtain rfl : c = .type "tuple" := hc
  obtain rfl : da = .seq its.toArray n := hd
  have el : its.length = xs.length := r.length.symm
  have es : its.toArray.size = xs.length := by rw [List.size_toArray, el]
  have p1 : 1 ≤ xs.length := by cases xs with
    | nil => exact absurd rfl hne
    | cons a b => simp
  have hk : k ≤ 100000 := Int.le_trans (by have := Int.mul_le_mul_of_nonneg_right (a := 1) (b := (xs.length : Int)) (c := k) (by omega) (by omega); omega) h2
  have ie : its.toArray.isEmpty = false := by
    rw [Array.isEmpty_eq_false_iff]
    intro e
    have : its.toArray.size = 0 := by rw [e]; rfl
    omega
  have fl : (List.replicate k.toNat its).flatten.length ≤ 100000 := by
    rw [PyProof.Rows.lm_len_rep_flat, el]
    have e : ((k.toNat * xs.length : Nat) : Int) = (xs.length : Int) * k := by rw [Int.natCast_mul, Int.toNat_of_nonneg (by omega), Int.mul_comm]
    omega
  have fl2 : (List.replicate k.toNat xs).flatten.length ≤ sizeLine := by
    have := fl
    rw [PyProof.Rows.lm_len_rep_flat] at this ⊢
    rw [sizeLine_eq, ← el]
    omega
  have tm : Builtin.Tuple.tupleTooMany (((its.toArray.size : Nat) : Int) * k) = false := by
    unfold Builtin.Tuple.tupleTooMany
    rw [sizeLine_eq, es]
    exact decide_eq_false (by omega)
  have w := tuple_mulW l its.toArray n dd sl k t (by rw [decide_eq_false (by omega), decide_eq_false (by omega)]; rfl) (by rw [ie, Bool.false_or]; exact beq_eq_false_iff_ne.mpr (by omega)) (by rw [ie, Bool.or_false]; exact decide_eq_false (by omega)) (by rw [es]; omega) tm (by rw [size_rep, List.size_toArray, sizeLine_eq]; omega)
  have m1 : s.heap.get? l = some { cls := .type "tuple", dict := dd, data := .seq its.toArray n, slots := sl } := ho
  refine wpAny_binaryOp_repeat_ref (T := "tuple") (U := "int") (by decide) ⟨_, m1, rfl⟩ (fun s' => typeIs_int s' k t) noFill_tuple_mul F.fills_int_mul F.slot_int_rmul repeat_tuple F.slot_int_index.lookup ?_
  refine call_meets F.slot_int_rmul (typeIs_int s k t) F.entry_int_rmul (F.args_int_rmul_2 _ _) (int_rmul_tuple k t l its.toArray n dd sl) ⟨m1, rfl, ⟨_, m1, rfl⟩, ?_⟩
  refine call_meets F.slot_tuple_mul ⟨_, m1, rfl⟩ F.entry_tuple_mul (F.args_tuple_mul_2 _ _) w ⟨m1, ?_⟩
  rw [size_rep]
  exact ⟨.ref s.heap.objs.size, _, I.laid (t' := s.toks) (o := .tup (List.replicate k.toNat xs).flatten) (fun b ob z => Heap.get?_push_of_some _ z) (Nat.le_refl _) ⟨fl2, _, r.rep k.toNat, IsTup.new _ _⟩, rfl, q _ (I.hok.fresh (Nat.le_refl _))⟩
variable {G : Stat}
def dMulM : Dt → Dt → Option Dt
  | .tup ds, .int n => if decide (2 ≤ n) && decide ((ds.length : Int) * n ≤ 100000) && !ds.isEmpty then some (.tup (rep n.toNat ds)) else none
  | _, _ => none
theorem ok_mulM : Op2Ok G (rRepM G.K) dMulM := by
  intro an w S H d e x y z Q s td te ef q
  cases d with
  | tup ds => cases e with
    | int n =>
      unfold dMulM at ef
      simp only at ef
      split at ef
      · rename_i hl
        simp only [Bool.and_eq_true, decide_eq_true_eq, Bool.not_eq_true'] at hl
        obtain ⟨⟨c1, c3⟩, c4⟩ := hl
        cases ef
        obtain ⟨a, xs, rfl, h1, k1⟩ := td.tup
        refine ⟨a, n, xs, rfl, te.int, h1, fun e0 => ?_, c1, by rw [← k1.length]; exact c3, fun p hp => ?_⟩
        · subst e0; cases k1; cases c4
        · rw [← rep_eq]
          exact q w _ _ (Grow.obj s hp) (s.obj hp) (.tup upd_same ((k1.rep _).mono (Grow.obj s hp)))
      · cases ef
    | _ => cases ef
  | _ => cases ef
variable {an : An} {W : WX} {X : Cx} {k : Nat} {a b : Expr} {ma mb : Mx} {pos : Pos}
theorem se_mulM (g : Gd G X W k) (ha : SE G an W X a ma) (hb : SE G an W X b mb) : SE G an W X (.BinOp a .Mult b pos) (mOp2 dMulM ma mb) := se_op2 (op_repM (X := X)) (by rw [g.K]; exact ok_mulM) ha hb
end EV

set_option Elab.async false
set_option linter.all false
set_option maxRecDepth 100000
/-! the end: what is told of own classes -/
namespace EV
open PySem PySem.Spec PyProof.Rows L2
theorem na_nil {K : PySem.W.Frag} {C : Addr} : ∀ f ∈ ([] : List Str), PySem.W.findIn K (.ref C) f = some none := fun _ h => by cases h
theorem na_cons {K : PySem.W.Frag} {C : Addr} {f : Str} {r : List Str} (h : PySem.W.findIn K (.ref C) f = some none) (t : ∀ g ∈ r, PySem.W.findIn K (.ref C) g = some none) : ∀ g ∈ f :: r, PySem.W.findIn K (.ref C) g = some none := fun g m => by
  rcases List.mem_cons.mp m with rfl | m
  · exact h
  · exact t g m
theorem mkT_mk {G : Stat} {h : Heap} {k n c : Nat} {x : Str} {f : Fs} {C I : Addr} {ns : List Str} {fd : FuncData} {ps : List Str} (X : G.K.In h) (N : h.Ns mainGlobals G.mg) (A : ObA G.K x C I ns) (e : G.ca c = C) (F : FnOk G.P G.w G.K G.mg G.base (L2.CX G.P G.w) k I fd ps (spOf G (n + 1) f)) (b : Binds G.K fd ps []) : MkT G k x c n f :=
  ⟨⟨I, fd, ps, A.mk' e, F, b⟩, by rw [e]; exact PySem.W.mg_of X N A.nm⟩
/-- the seven built-in types, none of the class -/
structure KtN (K : PySem.W.Frag) (C : Addr) : Prop where
  n : PySem.W.kitOne K (.type "NoneType") (.ref C) = some false
  b : PySem.W.kitOne K (.type "bool") (.ref C) = some false
  i : PySem.W.kitOne K (.type "int") (.ref C) = some false
  s : PySem.W.kitOne K (.type "str") (.ref C) = some false
  t : PySem.W.kitOne K (.type "tuple") (.ref C) = some false
  l : PySem.W.kitOne K (.type "list") (.ref C) = some false
  d : PySem.W.kitOne K (.type "dict") (.ref C) = some false
theorem isM_o {G : Stat} {C : Addr} {c : Nat} {tc : Nat → Option Bool} (e : G.ca c = C) (k : KtN G.K C) (h : ∀ c b, tc c = some b → (∃ ns, ObT G c ns) ∧ PySem.W.kitOne G.K (.ref (G.ca c)) (.ref C) = some b) : IsM G (.ref (G.ca c)) (mkOwn tc) := by
  subst e
  exact ⟨k.n, k.b, k.i, k.s, k.t, k.l, k.d, h⟩
end EV

set_option Elab.async false
set_option linter.all false
set_option maxRecDepth 100000
set_option maxHeartbeats 4000000
/-! EvOl: enumerate and zip over lists and tuples alike (b: a list, else a tuple). -/
namespace EV
open PySem PySem.Spec PyProof.Rows L2
def SqB (b : Bool) (K : PySem.W.Frag) (H : Hp) (a : Addr) (xs : List V) : Prop := cond b (SqL K H a xs) (SqT K H a xs)
def ItB (b : Bool) (h : Heap) (it a : Addr) (i : Nat) : Prop := cond b (h.IsListIter it a i) (h.IsTupleIter it a i)
def LsB (b : Bool) (h : Heap) (a : Addr) (its : Array Value) : Prop := cond b (h.IsList a its) (h.IsTuple a its)
def obB (b : Bool) (a : Addr) : Obj := cond b { cls := .type "list_iterator", data := .fields #[.ref a, .int 0 0] } { cls := .type "tuple_iterator", data := .fields #[.ref a, .int 0 0] }
theorem ItB.ob {b : Bool} {h : Heap} {it a : Addr} {i : Nat} (q : ItB b h it a i) : ∃ o, h.get? it = some o ∧ ∃ fs, o.data = .fields fs := by
  cases b with
  | true => let ⟨o, e, _, d⟩ := (show h.IsListIter it a i from q); exact ⟨o, e, _, d⟩
  | false => let ⟨o, e, _, d⟩ := (show h.IsTupleIter it a i from q); exact ⟨o, e, _, d⟩
theorem ItB.to {b : Bool} {h h' : Heap} {it a : Addr} {i : Nat} (q : ItB b h it a i) (k : ∀ o, h.get? it = some o → h'.get? it = some o) : ItB b h' it a i := by
  cases b with
  | true => exact (show h.IsListIter it a i from q).at k
  | false => exact (show h.IsTupleIter it a i from q).at k
theorem LsB.to {b : Bool} {h h' : Heap} {a : Addr} {its : Array Value} (q : LsB b h a its) (k : ∀ o, h.get? a = some o → h'.get? a = some o) : LsB b h' a its := by
  cases b with
  | true => exact (show h.IsList a its from q).at k
  | false => exact (show h.IsTuple a its from q).at k
theorem LsB.lt {b : Bool} {h : Heap} {a : Addr} {its : Array Value} (q : LsB b h a its) : a < h.objs.size := by
  cases b with
  | true => let ⟨o, e, _⟩ := (show h.IsList a its from q); exact Heap.lt_size e
  | false => let ⟨o, e, _⟩ := (show h.IsTuple a its from q); exact Heap.lt_size e
theorem beginsB (b : Bool) (a : Addr) (its : Array Value) : Begins (.ref a) (obB b a) fun h => LsB b h a its := by
  cases b with
  | true => exact begins_list a its
  | false => exact begins_tuple a its
theorem ItB.zero {b : Bool} {h : Heap} {it a : Addr} (e : h.get? it = some (obB b a)) : ItB b h it a 0 := by
  cases b with
  | true => exact ⟨_, e, rfl, rfl⟩
  | false => exact ⟨_, e, rfl, rfl⟩
/-- what is drawn up to the i-th turn -/
theorem drawsB {b : Bool} {prog : Program} {w : World} {A : Around} (hh : A.handled = none) (it a : Addr) (hne : a ≠ it) (its : Array Value) (j : Nat) :
    Draws prog w A it [it, a] (max its.size j) (fun i v => its[i]? = some v) (fun i h => ItB b h it a i ∧ LsB b h a its ∧ (i < max its.size j → j ≤ its.size)) where
  live := fun _ _ st => let ⟨o, e, _⟩ := st.1.ob; ⟨o, e⟩
  frame := fun _ _ _ st k => ⟨st.1.to fun o e => k it (by simp) o e, st.2.1.to fun o e => k a (by simp) o e, st.2.2⟩
  item := fun i s Q E hi st q => by
    have hj := st.2.2 hi
    have hs : i < its.size := by omega
    cases b with
    | true => exact wpAny_nextOf_list_item st.1 st.2.1 (x := its[i]) (by simp [hs]) fun h' t1 sb => q _ h' s.toks (by simp [hs]) ⟨t1, (show s.heap.IsList a its from st.2.1).extBut sb.extBut hne, fun _ => hj⟩ sb
    | false => exact wpAny_nextOf_tuple_item st.1 st.2.1 (x := its[i]) (by simp [hs]) fun h' t1 sb => q _ h' s.toks (by simp [hs]) ⟨t1, (show s.heap.IsTuple a its from st.2.1).extBut sb.extBut hne, fun _ => hj⟩ sb
  done := fun s Q E st hE => by
    have hn : its[max its.size j]? = none := by
      rw [Array.getElem?_eq_none_iff]
      omega
    cases b with
    | true => exact wpAny_nextOf_list_end hh st.1 st.2.1 hn hE
    | false => exact wpAny_nextOf_tuple_end hh st.1 st.2.1 hn hE
theorem seqB {b : Bool} {X : Cx} {pins : List (Addr × Obj)} {σ : L2.St} {H : Hp} {s : Shared} {a : Addr} {xs : List V} (I : Inv X pins σ H s) (q : SqB b X.K H a xs) : ∃ its : List Value, Vals xs its ∧ LsB b s.heap a its.toArray := by
  cases b with
  | true => obtain ⟨its, r, p, _⟩ := I.list (show SqL X.K H a xs from q); exact ⟨its, r, p.isList⟩
  | false => obtain ⟨its, r, p, _⟩ := I.tuple (show SqT X.K H a xs from q); exact ⟨its, r, p⟩
theorem seqB_inj {b : Bool} {X : Cx} {pins : List (Addr × Obj)} {σ : L2.St} {H : Hp} {s : Shared} {a : Addr} {xs ys : List V} (I : Inv X pins σ H s) (q : SqB b X.K H a xs) (r : SqB b X.K H a ys) : xs = ys := by
  cases b with
  | true => exact I.list_inj q r
  | false => exact I.tuple_inj q r
/-- each item with its place in a new pair -/
def IteB (b : Bool) (K : PySem.W.Frag) (a : Addr) : It :=
  ⟨fun i H => ∃ xs x, SqB b K H a xs ∧ xs[i]? = some x, fun i H v H' => ∃ T x, v = .ref T ∧ H T = none ∧ H' = upd H T (.tup [.int (i : Nat), x]) ∧ ∀ xs, SqB b K H a xs → xs[i]? = some x, fun i H => ∃ xs, SqB b K H a xs ∧ xs.length ≤ i⟩
theorem turn_enumB {b : Bool} {P : Program} {w : World} {K : PySem.W.Frag} {elts : List Expr} {kk : Nat} {tpos : Pos} (a e it : Addr) (hae : a ≠ e) (hai : a ≠ it) :
    Turn P w K (.Tuple elts kk tpos) (IteB b K a) [e, it] e (fun i h => (∃ old, IsEnum h e it ((i : Nat) : Int) old) ∧ ItB b h it a i ∧ e ≠ it) where
  mem := by simp
  obj := by
    rintro i h ⟨⟨old, he⟩, hi, _⟩ c hc
    rcases (show c = e ∨ c = it by simpa using hc) with rfl | rfl
    · exact ⟨_, he, fun v q => nomatch q⟩
    · obtain ⟨o, ho, fs, hd⟩ := hi.ob
      exact ⟨o, ho, fun v q => by rw [hd] at q; cases q⟩
  keep := fun i h h' st k => ⟨st.1.imp fun _ he => k e (by simp) _ he, st.2.1.to fun o q => k it (by simp) o q, st.2.2⟩
  item := by
    rintro X rfl rfl rfl hc i pins s σ H E I hf ⟨⟨old, he⟩, hit, hne⟩ ⟨xs, x, hq, hx⟩
    obtain ⟨its, rv, p⟩ := seqB I hq
    obtain ⟨u, hu, ru⟩ := rv.get hx
    obtain ⟨o1, ho1, _⟩ := hit.ob
    have el := Heap.lt_size he
    have il := Heap.lt_size ho1
    have hl : i < its.toArray.size := by rw [List.size_toArray]; exact (List.getElem?_eq_some_iff.mp hu).1
    have D := drawsB (b := b) (prog := X.prog) (w := X.w) (A := X.A.in1) (show X.A.in1.handled = none from I.ok.hd hc) it a hai its.toArray i
    refine wpAny_pyNext_enum_itemD D he ⟨hit, p, fun _ => Nat.le_of_lt hl⟩ (by omega) hne (by simp [hne, Ne.symm hae]) fun y h' tk hy ho hs hT hsz hk => ?_
    have ey : y = u := by
      have : some y = some u := hy.symm.trans (by simpa using hu)
      exact Option.some.inj this
    subst ey
    refine ⟨_, rfl, wpAny_letOwnedTupleGo_enum (s := { s with heap := h', toks := tk + 1 }) ho fun h2 he2 sb => ?_⟩
    have g2 : h2.get? s.heap.objs.size = some { cls := .type "tuple", data := .seq #[.int i tk, y] } := (sb.2 _ (Nat.ne_of_gt el)).trans hT
    have ok2 : ObjOk X.prog X.w (upd H s.heap.objs.size (.tup [.int (i : Nat), x])) h2 s.heap.objs.size (.tup [.int (i : Nat), x]) :=
      ⟨show 2 ≤ sizeLine by decide, [.int i tk, y], .cons ⟨_, rfl⟩ (.cons ru .nil), ⟨_, g2, rfl, _, rfl⟩⟩
    refine ⟨.ref s.heap.objs.size, _, I.turnedNew (t' := tk + 1) (ch := [e, it]) (fun c oc hb q => (sb.2 c fun z => hb (by rw [z]; simp)).trans (hk c oc (fun z => hb (by rw [z]; simp)) (fun z => hb (by rw [z]; simp)) q)) hf (Nat.le_refl _) ok2, rfl, ⟨_, x, rfl, I.hok.fresh (Nat.le_refl _), rfl, fun ys hy => by rw [seqB_inj I hy hq]; exact hx⟩, ⟨⟨y, ?_⟩, hs.1.to fun o q => (sb.2 it (Ne.symm hne)).trans q, hne⟩, fun c hcm => ?_⟩
    · rw [show ((i + 1 : Nat) : Int) = (i : Int) + 1 by omega]
      exact he2
    · have cl : c < s.heap.objs.size := by
        rcases (show c = e ∨ c = it by simpa using hcm) with rfl | rfl
        · exact el
        · exact il
      rw [upd_ne (Nat.ne_of_lt cl)]
      exact (hf c hcm).1
  done := by
    rintro X rfl rfl rfl hc i pins s σ H E I hf ⟨⟨old, he⟩, hit, hne⟩ ⟨xs, hq, hx⟩
    obtain ⟨its, rv, p⟩ := seqB I hq
    obtain ⟨f0, f1, f2, f3, f4, f5⟩ := hf it (by simp)
    have hl := rv.length
    have em : max its.toArray.size i = i := by rw [List.size_toArray]; omega
    have st : ItB b s.heap it a (max its.toArray.size i) ∧ LsB b s.heap a its.toArray ∧ (max its.toArray.size i < max its.toArray.size i → i ≤ its.toArray.size) := ⟨by rw [em]; exact hit, p, fun z => absurd z (Nat.lt_irrefl _)⟩
    have D := drawsB (b := b) (prog := X.prog) (w := X.w) (A := X.A.in1) (show X.A.in1.handled = none from I.ok.hd hc) it a hai its.toArray i
    exact wpAny_pyNext_enum_endD D he st fun h' eb => ⟨rfl, I.turned (t' := s.toks) (fun c o hb q => eb c o hb q) f0 f1 f3 f4 f5⟩
  self := fun A i s Q E st h => wpAny_pyIter_enum st.1.choose_spec h
theorem enum_new {v : Value} {o : Obj} {H : Heap → Prop} (B : Begins v o H) :
    Meets (Builtin.«enumerate.__new__» ⟨[.type "enumerate", v], []⟩) (fun _ R s => H s.heap ∧
      R (.ok (.ret (.ref (s.heap.push o).objs.size))) { s with heap := (s.heap.push o).push { cls := .type "enumerate", data := .fields #[.none, .bool false, .ref s.heap.objs.size, rawInt 0, .none, .none] } }) :=
  .of_wp fun prog w A R s ⟨h1, h⟩ => by
    have hsub := sub_enumerate
    have q1 : ∀ {A' : Around} {E : Value → Shared → Prop} {Q : Value → Shared → Prop}, Q (.ref s.heap.objs.size) { s with heap := s.heap.push o } → wpAny (model prog w) A' (pyIter v) Q E s :=
      fun q => B.iter prog w _ _ s _ h1 q
    obtain ⟨hp, g, d, tk, os⟩ := s
    wp_walk using q1
    refine wpAny_stack_any fun st => wpAny_pure ?_
    split
    · rename_i c _ _ _ _ _
      cases c == Value.type "enumerate" <;> (wp_walk using q1; exact ⟨_, rfl, h⟩)
    · wp_walk using q1
      exact ⟨_, rfl, h⟩
theorem enum_call {prog : Program} {w : World} {A : Around} {E : Value → Shared → Prop} {s : Shared} {v : Value} {o : Obj} {H : Heap → Prop} {Q : Value → Shared → Prop} (B : Begins v o H) (h1 : H s.heap)
    (h : ∀ h', IsEnum h' (s.heap.objs.size + 1) s.heap.objs.size 0 .none → h'.get? s.heap.objs.size = some o → h'.objs.size = s.heap.objs.size + 2 →
      (∀ b o, s.heap.get? b = some o → h'.get? b = some o) → Q (.ref (s.heap.objs.size + 1)) { s with heap := h' }) :
    wpAny (model prog w) A (call (.type "enumerate") [v]) Q E s := by
  have hz : (s.heap.push o).objs.size = s.heap.objs.size + 1 := Heap.size_push ..
  have he := Heap.get?_push_size (s.heap.push o) (o := { cls := .type "enumerate", data := .fields #[.none, .bool false, .ref s.heap.objs.size, rawInt 0, .none, .none] }) rfl
  refine callType_new F.called_enumerate (by decide) (F.typeCall_enumerate_1 _) (F.newCall_enumerate_1 _) (fun obj => F.args_object_init_2 obj _) F.entry_enumerate_new (enum_new B) ⟨h1, ⟨_, he, rfl⟩, ?_⟩
  rw [hz]
  rw [hz] at he
  exact h _ he (Heap.get?_push_of_some _ (Heap.get?_push_size _ B.free)) (by rw [Heap.size_push, hz]) fun b ob x => Heap.get?_push_of_some _ (Heap.get?_push_of_some _ x)
def iEnumB (K : PySem.W.Frag) (ta : TA) : TI := fun σ H R => ta σ H fun vs H1 => ∃ b a xs, vs = [.ref a] ∧ SqB b K H1 a xs ∧ R (IteB b K a) H1
theorem pi_enumB {X : Cx} {e : Expr} {ta : TA} {p pos tpos : Pos} {elts : List Expr} {kk : Nat} (hg : Gl X "enumerate") (hm : X.mg "enumerate" = none) (ha : PA X [e] ta) (hs : starEach [e] X.env = [(false, eval e X.env)] := by rfl) :
    PI X (.Tuple elts kk tpos) (.Call (.Name "enumerate" p) [e] [] pos) (iEnumB X.K ta) := by
  refine ⟨fun pins s σ H R I h => Call_ (ld_blt I hg hm boot_enumerate (PyProof.Rows.callWith_type1 (thn (ha.run pos pins s σ H _ I h) fun us s1 ⟨vs, H1, I1, r1, b, a, xs, ex, hq, q⟩ => ?_) hs rfl))⟩
  subst ex
  cases r1 with
  | cons r rr =>
    cases rr
    cases r
    obtain ⟨its, rv, p'⟩ := seqB I1 hq
    have al := p'.lt
    refine enum_call (beginsB b a its.toArray) p' fun h' he hit hsz hk => wpAny_pyIter_enum he ?_
    refine ⟨s1.heap.objs.size + 1, [s1.heap.objs.size + 1, s1.heap.objs.size], _, _, H1, rfl, I1.kept (t' := s1.toks) hk, turn_enumB a (s1.heap.objs.size + 1) s1.heap.objs.size (Nat.ne_of_lt (Nat.lt_succ_of_lt al)) (Nat.ne_of_lt al), ⟨⟨.none, he⟩, .zero hit, Nat.succ_ne_self _⟩, fun c hb => ?_, q⟩
    have hle : s1.heap.objs.size ≤ c := by
      rcases (show c = s1.heap.objs.size + 1 ∨ c = s1.heap.objs.size by simpa using hb) with rfl | rfl
      · exact Nat.le_succ _
      · exact Nat.le_refl _
    exact I1.fpOk hle (I1.hok.fresh hle)
end EV

set_option Elab.async false
set_option linter.all false
set_option maxRecDepth 100000
set_option maxHeartbeats 4000000
/-! EvOm: zip over two sequences, each a list or a tuple. -/
namespace EV
open PySem PySem.Spec PyProof.Rows L2
def ItzB (b c : Bool) (K : PySem.W.Frag) (l m : Addr) : It :=
  ⟨fun i H => ∃ xs ys x y, SqB b K H l xs ∧ SqB c K H m ys ∧ xs[i]? = some x ∧ ys[i]? = some y,
    fun i H v H' => ∃ T x y, v = .ref T ∧ H T = none ∧ H' = upd H T (.tup [x, y]) ∧ (∀ xs, SqB b K H l xs → xs[i]? = some x) ∧ ∀ ys, SqB c K H m ys → ys[i]? = some y,
    fun i H => ∃ xs ys, SqB b K H l xs ∧ SqB c K H m ys ∧ (xs.length ≤ i ∨ ys.length ≤ i)⟩
theorem turn_zipB {b c : Bool} {P : Program} {w : World} {K : PySem.W.Frag} {elts : List Expr} {kk : Nat} {tpos : Pos} {l m z TI TO i1 i2 : Addr} (D : ZipSep2 z TI TO i1 i2 [i1, l] [i2, m]) (n1 : l ≠ i1) (n2 : m ≠ i2) :
    Turn P w K (.Tuple elts kk tpos) (ItzB b c K l m) [z, TI, TO, i1, i2] z (fun i h => IsZip h z TI TO .none ∧ IsTupOf2 h TI (.ref i1) (.ref i2) ∧ (∃ x y, IsTupOf2 h TO x y) ∧ ItB b h i1 l i ∧ ItB c h i2 m i) where
  mem := by simp
  obj := by
    rintro i h ⟨hz, hTI, ⟨x, y, hTO⟩, h1, h2⟩ a ha
    rcases (show a = z ∨ a = TI ∨ a = TO ∨ a = i1 ∨ a = i2 by simpa using ha) with rfl | rfl | rfl | rfl | rfl
    · exact ⟨_, hz, fun v q => nomatch q⟩
    · exact ⟨_, hTI, fun v q => nomatch q⟩
    · exact ⟨_, hTO, fun v q => nomatch q⟩
    · obtain ⟨o, ho, fs, hd⟩ := h1.ob
      exact ⟨o, ho, fun v q => by rw [hd] at q; cases q⟩
    · obtain ⟨o, ho, fs, hd⟩ := h2.ob
      exact ⟨o, ho, fun v q => by rw [hd] at q; cases q⟩
  keep := fun i h h' st k => ⟨k z (by simp) _ st.1, k TI (by simp) _ st.2.1, st.2.2.1.imp fun x e => e.imp fun y e => k TO (by simp) _ e, st.2.2.2.1.to fun o q => k i1 (by simp) o q, st.2.2.2.2.to fun o q => k i2 (by simp) o q⟩
  item := by
    rintro X rfl rfl rfl hc i pins s σ H E I hf ⟨hz, hTI, ⟨x0, y0, hTO⟩, h1, h2⟩ ⟨xs, ys, x, y, hqx, hqy, hx, hy⟩
    obtain ⟨its, rv, p⟩ := seqB I hqx
    obtain ⟨jts, rw', p2⟩ := seqB I hqy
    obtain ⟨u, hu, ru⟩ := rv.get hx
    obtain ⟨t, ht, rt⟩ := rw'.get hy
    have l1 : i < its.toArray.size := by rw [List.size_toArray]; exact (List.getElem?_eq_some_iff.mp hu).1
    have l2 : i < jts.toArray.size := by rw [List.size_toArray]; exact (List.getElem?_eq_some_iff.mp ht).1
    have hh : X.A.in1.handled = none := I.ok.hd hc
    have D1 := drawsB (b := b) (prog := X.prog) (w := X.w) (A := X.A.in1) hh i1 l n1 its.toArray i
    have D2 := drawsB (b := c) (prog := X.prog) (w := X.w) (A := X.A.in1) hh i2 m n2 jts.toArray i
    have zl := Heap.lt_size hz
    refine wpAny_pyNext_zipD2_item D D1 D2 hz hTI hTO ⟨h1, p, fun _ => Nat.le_of_lt l1⟩ ⟨h2, p2, fun _ => Nat.le_of_lt l2⟩ (by omega) (by omega) fun u' t' h' tk eu et z' TO' s1' s2' hT hsz hk => ?_
    obtain rfl : u' = u := Option.some.inj (eu.symm.trans (by simpa using hu))
    obtain rfl : t' = t := Option.some.inj (et.symm.trans (by simpa using ht))
    refine ⟨_, rfl, wpAny_letOwnedTupleGo_zip (s := { s with heap := h', toks := tk }) z' fun h2' z2 sb => ?_⟩
    have g2 : h2'.get? s.heap.objs.size = some { cls := .type "tuple", data := .seq #[u', t'] } := (sb.2 _ (Nat.ne_of_gt zl)).trans hT
    have ok2 : ObjOk X.prog X.w (upd H s.heap.objs.size (.tup [x, y])) h2' s.heap.objs.size (.tup [x, y]) :=
      ⟨show 2 ≤ sizeLine by decide, [u', t'], .cons ru (.cons rt .nil), ⟨_, g2, rfl, _, rfl⟩⟩
    refine ⟨.ref s.heap.objs.size, _, I.turnedNew (t' := tk) (ch := [z, TI, TO, i1, i2]) (fun a o hb q => (sb.2 a fun e => hb (by rw [e]; simp)).trans (hk a o (fun e => hb (by rw [e]; simp)) (fun e => hb (by rw [e]; simp)) (fun e => hb (by rw [e]; simp)) (fun e => hb (by rw [e]; simp)) q)) hf (Nat.le_refl _) ok2, rfl,
      ⟨_, x, y, rfl, I.hok.fresh (Nat.le_refl _), rfl, fun k hk' => by rw [seqB_inj I hk' hqx]; exact hx, fun k hk' => by rw [seqB_inj I hk' hqy]; exact hy⟩, ⟨z2, ?_, ⟨u', t', ?_⟩, ?_, ?_⟩, fun a ha => ?_⟩
    · exact (sb.2 _ D.TIz).trans (hk _ _ D.TIz D.TITO D.TIi1 D.TIi2 hTI)
    · exact (sb.2 _ D.TOz).trans TO'
    · exact s1'.1.to fun o q => (sb.2 _ (Ne.symm D.zi1)).trans q
    · exact s2'.1.to fun o q => (sb.2 _ (Ne.symm D.zi2)).trans q
    · have al : a < s.heap.objs.size := by
        obtain ⟨o1, e1, _⟩ := h1.ob
        obtain ⟨o2, e2, _⟩ := h2.ob
        rcases (show a = z ∨ a = TI ∨ a = TO ∨ a = i1 ∨ a = i2 by simpa using ha) with rfl | rfl | rfl | rfl | rfl
        · exact zl
        · exact Heap.lt_size hTI
        · exact Heap.lt_size hTO
        · exact Heap.lt_size e1
        · exact Heap.lt_size e2
      rw [upd_ne (Nat.ne_of_lt al)]
      exact (hf a ha).1
  done := by
    rintro X rfl rfl rfl hc i pins s σ H E I hf ⟨hz, hTI, ⟨x0, y0, hTO⟩, h1, h2⟩ ⟨xs, ys, hqx, hqy, hend⟩
    obtain ⟨its, rv, p⟩ := seqB I hqx
    obtain ⟨jts, rw', p2⟩ := seqB I hqy
    have e1 := rv.length
    have e2 := rw'.length
    have hh : X.A.in1.handled = none := I.ok.hd hc
    have D1 := drawsB (b := b) (prog := X.prog) (w := X.w) (A := X.A.in1) hh i1 l n1 its.toArray i
    have D2 := drawsB (b := c) (prog := X.prog) (w := X.w) (A := X.A.in1) hh i2 m n2 jts.toArray i
    exact wpAny_pyNext_zipD2_end D D1 D2 hz hTI hTO ⟨h1, p, fun q => by omega⟩ ⟨h2, p2, fun q => by omega⟩ (by omega) (by omega) (by simp only [List.size_toArray]; omega) fun h' tk hk => ⟨rfl, I.turnedL (t' := tk) (ch := [z, TI, TO, i1, i2]) (fun a o hb q => hk a o (fun e => hb (by rw [e]; simp)) (fun e => hb (by rw [e]; simp)) (fun e => hb (by rw [e]; simp)) (fun e => hb (by rw [e]; simp)) q) hf⟩
  self := fun A i s Q E st h => wpAny_pyIter_zip st.1 h
theorem zsep (I l m : Nat) (h1 : l < I) (h2 : m < I) : ZipSep2 (I + 4) (I + 2) (I + 3) I (I + 1) [I, l] [I + 1, m] := by
  constructor
  all_goals first | (show (_ : Nat) ≠ _; omega) | (simp only [List.mem_cons, List.not_mem_nil, or_false, not_or, true_or]; done) | (simp only [List.mem_cons, List.not_mem_nil, or_false, not_or]; constructor <;> (show (_ : Nat) ≠ _; omega))
theorem z5 {I a : Nat} (h : a ∈ [I + 4, I + 2, I + 3, I, I + 1]) : I ≤ a := by
  simp only [List.mem_cons, List.not_mem_nil, or_false] at h
  omega
def iZipB (K : PySem.W.Frag) (ta : TA) : TI := fun σ H R => ta σ H fun vs H1 => ∃ b c l m xs ys, vs = [.ref l, .ref m] ∧ SqB b K H1 l xs ∧ SqB c K H1 m ys ∧ R (ItzB b c K l m) H1
theorem pi_zipB {X : Cx} {e e2 : Expr} {ta : TA} {p pos tpos : Pos} {elts : List Expr} {kk : Nat} (hg : Gl X "zip") (hm : X.mg "zip" = none) (ha : PA X [e, e2] ta)
    (hs : starEach [e, e2] X.env = (false, eval e X.env) :: starEach [e2] X.env := by rfl) (hpl : (backTo pos (starEach [e2] X.env)).any (·.1) = false := by rfl) :
    PI X (.Tuple elts kk tpos) (.Call (.Name "zip" p) [e, e2] [] pos) (iZipB X.K ta) := by
  refine ⟨fun pins s σ H R I h => Call_ (ld_blt I hg hm PyProof.Rows.boot_zip (PyProof.Rows.callWith_type1 (thn (ha.run pos pins s σ H _ I h) fun us s1 ⟨vs, H1, I1, r1, b, c, l, m, xs, ys, ex, hqx, hqy, q⟩ => ?_) hs hpl))⟩
  subst ex
  cases r1 with
  | cons r rr => cases rr with
    | cons r' rr =>
      cases rr
      cases r
      cases r'
      obtain ⟨its, rv, p1⟩ := seqB I1 hqx
      obtain ⟨jts, rw', p2⟩ := seqB I1 hqy
      have l1 := p1.lt
      have l2 := p2.lt
      have D := zsep s1.heap.objs.size l m l1 l2
      refine zip_begins2 (beginsB b l its.toArray) (beginsB c m jts.toArray) p1 p2 fun h' hz hTI hTO h1 h2 hsz hk => wpAny_pyIter_zip hz ?_
      refine ⟨s1.heap.objs.size + 4, [s1.heap.objs.size + 4, s1.heap.objs.size + 2, s1.heap.objs.size + 3, s1.heap.objs.size, s1.heap.objs.size + 1], _, _, H1, rfl, I1.kept (t' := s1.toks) hk, turn_zipB D (Nat.ne_of_lt l1) (Nat.ne_of_lt (Nat.lt_succ_of_lt l2)), ⟨hz, hTI, ⟨_, _, hTO⟩, .zero h1, .zero h2⟩, fun a ha => ?_, q⟩
      have hle : s1.heap.objs.size ≤ a := z5 ha
      exact I1.fpOk hle (I1.hok.fresh hle)
end EV

set_option Elab.async false
set_option linter.all false
set_option maxRecDepth 100000
set_option maxHeartbeats 4000000
/-! EvOn: for .. in enumerate(..), for .. in zip(.., ..), over data. -/
namespace EV
open PySem PySem.Spec PyProof.Rows L2
section
variable {G : Stat} {an : An} {w w' : Wd} {H H' : Hp} {S S' : Sto} {W : WX} {X : Cx}
def dSq : Dt → Option (List Dt)
  | .lst ds => some ds
  | .tup ds => some ds
  | .tux ds => some ds
  | _ => none
theorem sq_of {d : Dt} {ds : List Dt} {v : V} (h : Per G w H d v) (e : dSq d = some ds) : ∃ b a xs, v = .ref a ∧ PerL G w H ds xs ∧ ∀ w' H', GrowX w H w' H' → SqB b G.K H' a xs := by
  cases h with
  | lst h n1 n2 k => cases e; exact ⟨true, _, _, rfl, k, fun w' H' g => .inl (.inl (g.keep _ _ h n1 n2))⟩
  | tup h k =>
    cases e
    exact ⟨false, _, _, rfl, k, fun w' H' g => g.sqT (.inl (.inl h))⟩
  | tux h hd k =>
    cases e
    exact ⟨false, _, _, rfl, k, fun w' H' g => g.sqT (.inl (.inr ⟨_, h⟩))⟩
  | _ => cases e
def enD (ds : List Dt) : List Dt := zipD ((List.range ds.length).map fun i : Nat => .int (i : Int)) ds
theorem enD_get {ds : List Dt} {i : Nat} {d : Dt} (e : (enD ds)[i]? = some d) : ∃ b, ds[i]? = some b ∧ d = .tup [.int (i : Int), b] := by
  obtain ⟨a, b, h1, h2, rfl⟩ := zipD_get e
  rw [List.getElem?_map] at h1
  cases z : (List.range ds.length)[i]? with
  | none => rw [z] at h1; cases h1
  | some j =>
    rw [z] at h1
    cases h1
    rw [List.getElem?_eq_some_iff] at z
    obtain ⟨hj, ej⟩ := z
    rw [List.getElem_range] at ej
    subst ej
    exact ⟨b, h2, rfl⟩
theorem enD_len (ds : List Dt) : (enD ds).length = ds.length := by simp [enD, zipD]
theorem itr_enumB {b : Bool} {a : Addr} {xs : List V} {ds : List Dt} (k : PerL G w H ds xs) (q : ∀ w' H', GrowX w H w' H' → SqB b G.K H' a xs) : ItR G an (IteB b G.K a) (enD ds) w H := fun i w' H' g => by
  refine ⟨fun d e => ?_, fun hl => ⟨xs, q w' H' g, by rw [← k.length, ← enD_len]; exact hl⟩⟩
  obtain ⟨d1, e1, rfl⟩ := enD_get e
  obtain ⟨v, f1, p1⟩ := k.get e1
  refine ⟨⟨xs, v, q w' H' g, f1⟩, fun x H2 y S s => ?_⟩
  obtain ⟨T, x1, rfl, hT, rfl, q1⟩ := y
  have z1 := (q1 xs (q w' H' g)).symm.trans f1
  cases z1
  exact yield_tup s hT (.int _) (p1.monoX g)
theorem itr_zipB {b c : Bool} {l m : Addr} {xs ys : List V} {ds es : List Dt} (k : PerL G w H ds xs) (q : ∀ w' H', GrowX w H w' H' → SqB b G.K H' l xs) (k2 : PerL G w H es ys) (r : ∀ w' H', GrowX w H w' H' → SqB c G.K H' m ys) : ItR G an (ItzB b c G.K l m) (zipD ds es) w H := fun i w' H' g => by
  refine ⟨fun d e => ?_, fun hl => ⟨xs, ys, q w' H' g, r w' H' g, by rw [← k.length, ← k2.length]; exact zipD_end hl⟩⟩
  obtain ⟨a1, b1, e1, e2, rfl⟩ := zipD_get e
  obtain ⟨v, f1, p1⟩ := k.get e1
  obtain ⟨u, f2, p2⟩ := k2.get e2
  refine ⟨⟨xs, ys, v, u, q w' H' g, r w' H' g, f1, f2⟩, fun x H2 y S s => ?_⟩
  obtain ⟨T, x1, y1, rfl, hT, rfl, q1, q2⟩ := y
  have z1 := (q1 xs (q w' H' g)).symm.trans f1
  have z2 := (q2 ys (r w' H' g)).symm.trans f2
  cases z1
  cases z2
  exact yield_tup s hT (p1.monoX g) (p2.monoX g)
def miEn (m : Ma) : Mi := fun env S => (m env S).bind fun xs S1 => match xs with
  | [.p d] => (match dSq d with
    | some ds => .ok (enD ds) S1
    | none => .bad)
  | _ => .bad
theorem si_enum {k : Nat} {e : Expr} {m : Ma} {p pos tpos : Pos} {elts : List Expr} {kk : Nat} (g : Gd G X W k) (hm : G.mg "enumerate" = none) (ha : SA G an W X [e] m) (hg : Gl X "enumerate" := by rfl)
    (hs : starEach [e] X.env = [(false, eval e X.env)] := by rfl) :
    SI G an W X (.Tuple elts kk tpos) (.Call (.Name "enumerate" p) [e] [] pos) (miEn m) := by
  refine PI.imp (pi_enumB hg (by rw [g.mg]; exact hm) ha hs) fun σ H R ⟨env, w, S, hE, hS, q⟩ => ⟨env, w, S, hE, hS, (Pst.bind q).imp (fun xs S1 w1 H1 r1 g1 s1 q1 vs rvs => ?_) fun _ _ _ z => z⟩
  split at q1
  · rename_i d
    cases rvs with
    | cons r1 rr =>
      cases rr
      cases r1 with
      | p r1 =>
        cases e1 : dSq d with
        | none => rw [e1] at q1; exact q1.elim
        | some ds =>
          rw [e1] at q1
          obtain ⟨b, a, xs, rfl, k, sq⟩ := sq_of r1 e1
          exact ⟨b, a, xs, rfl, by rw [g.K]; exact sq _ _ Grow.refl.x, by rw [g.K]; exact q1 w1 H1 Grow.refl s1 _ (itr_enumB k sq)⟩
  · exact q1.elim
def miZp (m : Ma) : Mi := fun env S => (m env S).bind fun xs S1 => match xs with
  | [.p d, .p e] => (match dSq d, dSq e with
    | some ds, some es => .ok (zipD ds es) S1
    | _, _ => .bad)
  | _ => .bad
theorem si_zipB {k : Nat} {e e2 : Expr} {m : Ma} {p pos tpos : Pos} {elts : List Expr} {kk : Nat} (g : Gd G X W k) (hm : G.mg "zip" = none) (ha : SA G an W X [e, e2] m) (hg : Gl X "zip" := by rfl)
    (hs : starEach [e, e2] X.env = (false, eval e X.env) :: starEach [e2] X.env := by rfl) (hpl : (backTo pos (starEach [e2] X.env)).any (·.1) = false := by rfl) :
    SI G an W X (.Tuple elts kk tpos) (.Call (.Name "zip" p) [e, e2] [] pos) (miZp m) := by
  refine PI.imp (pi_zipB hg (by rw [g.mg]; exact hm) ha hs hpl) fun σ H R ⟨env, w, S, hE, hS, q⟩ => ⟨env, w, S, hE, hS, (Pst.bind q).imp (fun xs S1 w1 H1 r1 g1 s1 q1 vs rvs => ?_) fun _ _ _ z => z⟩
  split at q1
  · rename_i d e
    cases rvs with
    | cons r1 rr => cases rr with
      | cons r2 rn =>
        cases rn
        cases r1 with
        | p r1 => cases r2 with
          | p r2 =>
            cases e1 : dSq d with
            | none => simp only [e1] at q1; exact q1.elim
            | some ds => cases e2 : dSq e with
              | none => simp only [e1, e2] at q1; exact q1.elim
              | some es =>
                simp only [e1, e2] at q1
                obtain ⟨b, a, xs, rfl, k, sq⟩ := sq_of r1 e1
                obtain ⟨c, a2, ys, rfl, k2, sq2⟩ := sq_of r2 e2
                exact ⟨b, c, a, a2, xs, ys, rfl, by rw [g.K]; exact sq _ _ Grow.refl.x, by rw [g.K]; exact sq2 _ _ Grow.refl.x, by rw [g.K]; exact q1 w1 H1 Grow.refl s1 _ (itr_zipB k sq k2 sq2)⟩
  · exact q1.elim
end
end EV

set_option Elab.async false
set_option linter.all false
set_option maxRecDepth 100000
set_option maxHeartbeats 4000000
/-! EvOo: dict(zip(.., ..)), each a list or a tuple, the keys ints or texts. -/
namespace EV
open PySem PySem.Spec PyProof.Rows L2
section
variable {prog : Program} {w : World} {A : Around} {E : Value → Shared → Prop} {s : Shared} {z TI TO i1 i2 T : Addr} {fp1 fp2 : List Addr} {n1 n2 i : Nat} {P1 P2 : Nat → Value → Prop} {St1 St2 : Nat → Heap → Prop} {f : Bool} {oT : Obj}
/-- the next pair while the last one is still held -/
theorem zipH_item {Q : Option Value → Shared → Prop} (S : ZipSep2 z TI TO i1 i2 fp1 fp2) (D1 : Draws prog w A.in1 i1 fp1 n1 P1 St1) (D2 : Draws prog w A.in1 i2 fp2 n2 P2 St2) (hz : IsZipHeld s.heap z TI TO T f) (hT : s.heap.get? T = some oT)
    (hTI : IsTupOf2 s.heap TI (.ref i1) (.ref i2)) (st1 : St1 i s.heap) (st2 : St2 i s.heap) (l1 : i < n1) (l2 : i < n2)
    (hQ : ∀ x y h' tk, P1 i x → P2 i y → IsZipHeld h' z TI TO T true → St1 (i + 1) h' → St2 (i + 1) h' → IsTupOf2 h' s.heap.objs.size x y →
      (∀ c o, c ≠ z → c ≠ i1 → c ≠ i2 → s.heap.get? c = some o → h'.get? c = some o) → Q (some (.ref s.heap.objs.size)) { s with heap := h', toks := tk }) :
    wpAny (model prog w) A (pyNext (.ref z)) Q E s := by
  have ty : s.TypeIs (.ref z) "zip" := ⟨_, hz, rfl⟩
  have core : wpAny (model prog w) A.in1 (Builtin.«zip.__next__» ⟨[.ref z], []⟩) (fun fin s' => ∃ v, fin = .done (.ret v) ∧ ∃ x y h' tk, v = .ref s.heap.objs.size ∧ s' = { s with heap := h', toks := tk } ∧ P1 i x ∧ P2 i y ∧ IsZipHeld h' z TI TO T true ∧ St1 (i + 1) h' ∧ St2 (i + 1) h' ∧ IsTupOf2 h' s.heap.objs.size x y ∧
      ∀ c o, c ≠ z → c ≠ i1 → c ≠ i2 → s.heap.get? c = some o → h'.get? c = some o) (fun _ _ => False) s := by
    obtain ⟨hp, g, d, tk0, os⟩ := s
    show wpAny _ _ (field (.ref z) 2 >>= _) _ _ _
    refine wpAny_bind (wpAny_field hz rfl (x := .bool false) rfl ?_)
    show wpAny _ _ (field (.ref z) 3 >>= _) _ _ _
    refine wpAny_bind (wpAny_field hz rfl (x := .ref TI) rfl (wpAny_bind (wpAny_seqItems hTI rfl ?_)))
    show wpAny _ _ (Builtin.SmallTypes.ownedTupleIsFree (.ref z) >>= _) _ _ _
    refine wpAny_bind (wpAny_tupleHeld_zip hz hT fun ha za sa => ?_)
    simp only [Bool.false_eq_true, if_false]
    refine wpAny_bind ?_
    rw [← Array.forIn_toList]
    simp only [List.forIn_cons, List.forIn_nil]
    refine wpAny_bind (wpAny_bind (wpAny_holding ?_))
    show wpAny _ _ (Builtin.SmallTypes.nextOf (.ref i1) >>= _) _ _ _
    refine wpAny_bind (D1.item i ⟨ha, g, d, tk0, os⟩ _ _ l1 (D1.over st1 sa S.zf1) fun x hb tb px sb1 sb => wpAny_pure (wpAny_pure (wpAny_bind (wpAny_bind (wpAny_holding ?_)))))
    show wpAny _ _ (Builtin.SmallTypes.nextOf (.ref i2) >>= _) _ _ _
    refine wpAny_bind (D2.item i ⟨hb, g, d, tb, os⟩ _ _ l2 (D2.over (D2.over st2 sa S.zf2) sb S.sep1_2) fun y hc tc py sc2 sc => wpAny_pure (wpAny_pure (wpAny_pure ?_)))
    show wpAny _ _ (newTuple [x, y] >>= _) _ _ _
    refine wpAny_bind (wpAny_newTuple (wpAny_pure ⟨_, rfl, x, y, _, tc, ?_, rfl, px, py, ?_, ?_, ?_, ?_, ?_⟩))
    all_goals have esz : hc.objs.size = hp.objs.size := by rw [sc.1, sb.1, sa.1]
    · show Value.ref hc.objs.size = _
      rw [esz]
    · exact Heap.get?_push_of_some _ (sc.extBut _ _ (Ne.symm (Ne.symm S.zi2)) (sb.extBut _ _ (Ne.symm (Ne.symm S.zi1)) za))
    · exact D1.frame _ _ _ (D1.over sb1 sc S.sep2_1) fun c _ o e => Heap.get?_push_of_some _ e
    · exact D2.frame _ _ _ sc2 fun c _ o e => Heap.get?_push_of_some _ e
    · have e : IsTupOf2 (hc.push { cls := .type "tuple", data := .seq #[x, y] }) hc.objs.size x y := Heap.get?_push_size _ rfl
      rw [esz] at e
      exact e
    · exact fun c o c1 c2 c3 e => Heap.get?_push_of_some _ (sc.extBut _ _ c3 (sb.extBut _ _ c2 (sa.extBut _ _ c1 e)))
  unfold pyNext
  refine wpAny_bind (wpAny_attempt (wpAny_callSpecial?_slot (name := Str.ofString "__next__") ty F.slot_zip_next (wpAny_call_entry F.slot_zip_next ty F.entry_zip_next (wpAny_mono core (fun fin s' => ?_) fun _ _ z => z.elim) (F.args_zip_next_1 _))))
  rintro ⟨v, rfl, x, y, h', tk, rfl, rfl, a1, a2, a3, a4, a5, a6, a7⟩
  exact ⟨_, rfl, wpAny_pure (hQ x y h' tk a1 a2 a3 a4 a5 a6 a7)⟩
/-- no further pair -/
theorem zipH_end {Q : Option Value → Shared → Prop} (S : ZipSep2 z TI TO i1 i2 fp1 fp2) (D1 : Draws prog w A.in1 i1 fp1 n1 P1 St1) (D2 : Draws prog w A.in1 i2 fp2 n2 P2 St2) (hz : IsZipHeld s.heap z TI TO T f) (hT : s.heap.get? T = some oT)
    (hTI : IsTupOf2 s.heap TI (.ref i1) (.ref i2)) (st1 : St1 i s.heap) (st2 : St2 i s.heap) (l1 : i ≤ n1) (he : i = n1 ∨ i = n2)
    (hQ : ∀ h' tk, (∀ c o, c ≠ z → c ≠ i1 → c ≠ i2 → s.heap.get? c = some o → h'.get? c = some o) → Q none { s with heap := h', toks := tk }) :
    wpAny (model prog w) A (pyNext (.ref z)) Q E s := by
  have ty : s.TypeIs (.ref z) "zip" := ⟨_, hz, rfl⟩
  have core : wpAny (model prog w) A.in1 (Builtin.«zip.__next__» ⟨[.ref z], []⟩) (fun _ _ => False) (fun er s' => ∃ a h' tk, er = .ref a ∧ s' = { s with heap := h', toks := tk } ∧ (∃ o, h'.get? a = some o ∧ o.cls = .type "StopIteration") ∧
      ∀ c o, c ≠ z → c ≠ i1 → c ≠ i2 → s.heap.get? c = some o → h'.get? c = some o) s := by
    obtain ⟨hp, g, d, tk0, os⟩ := s
    show wpAny _ _ (field (.ref z) 2 >>= _) _ _ _
    refine wpAny_bind (wpAny_field hz rfl (x := .bool false) rfl ?_)
    show wpAny _ _ (field (.ref z) 3 >>= _) _ _ _
    refine wpAny_bind (wpAny_field hz rfl (x := .ref TI) rfl (wpAny_bind (wpAny_seqItems hTI rfl ?_)))
    show wpAny _ _ (Builtin.SmallTypes.ownedTupleIsFree (.ref z) >>= _) _ _ _
    refine wpAny_bind (wpAny_tupleHeld_zip hz hT fun ha za sa => ?_)
    simp only [Bool.false_eq_true, if_false]
    refine wpAny_bind ?_
    rw [← Array.forIn_toList]
    simp only [List.forIn_cons, List.forIn_nil]
    refine wpAny_bind (wpAny_bind (wpAny_holding ?_))
    show wpAny _ _ (Builtin.SmallTypes.nextOf (.ref i1) >>= _) _ _ _
    by_cases c : i = n1
    · subst c
      exact wpAny_bind (D1.done ⟨ha, g, d, tk0, os⟩ _ _ (D1.over st1 sa S.zf1) fun hb e sb he' => ⟨e, hb, tk0, rfl, rfl, he', fun q o q1 q2 _ x => sb q o q2 (sa.extBut q o q1 x)⟩)
    · have e2 : i = n2 := he.resolve_left c
      refine wpAny_bind (D1.item i ⟨ha, g, d, tk0, os⟩ _ _ (by omega) (D1.over st1 sa S.zf1) fun x hb tb px sb1 sb => wpAny_pure (wpAny_pure (wpAny_bind (wpAny_bind (wpAny_holding ?_)))))
      show wpAny _ _ (Builtin.SmallTypes.nextOf (.ref i2) >>= _) _ _ _
      subst e2
      exact wpAny_bind (D2.done ⟨hb, g, d, tb, os⟩ _ _ (D2.over (D2.over st2 sa S.zf2) sb S.sep1_2) fun hc e sc he' => ⟨e, hc, tb, rfl, rfl, he', fun q o q1 q2 q3 x => sc q o q3 (sb.extBut q o q2 (sa.extBut q o q1 x))⟩)
  unfold pyNext
  refine wpAny_bind (wpAny_attempt (wpAny_callSpecial?_slot (name := Str.ofString "__next__") ty F.slot_zip_next (wpAny_call_entry F.slot_zip_next ty F.entry_zip_next (wpAny_mono core (fun _ _ z => z.elim) fun er s' => ?_) (F.args_zip_next_1 _))))
  rintro ⟨a, h', tk, rfl, rfl, ⟨o, ho, hc⟩, k⟩
  exact wpAny_bind (wpAny_isInstance (T := "StopIteration") (b := true) ⟨o, ho, hc⟩ isSubtype_stop (wpAny_pure (hQ _ _ k)))
end
section
variable {prog : Program} {w : World}
def ZipIs (b c : Bool) (h : Heap) (z TI TO i1 i2 l m : Addr) (i : Nat) (xs ys : Array Value) : Prop := IsTupOf2 h TI (.ref i1) (.ref i2) ∧ ItB b h i1 l i ∧ ItB c h i2 m i ∧ LsB b h l xs ∧ LsB c h m ys
theorem ZipIs.to {b c : Bool} {h h' : Heap} {z TI TO i1 i2 l m : Addr} {i : Nat} {xs ys : Array Value} (q : ZipIs b c h z TI TO i1 i2 l m i xs ys) (k : ∀ a o, a = TI ∨ a = i1 ∨ a = i2 ∨ a = l ∨ a = m → h.get? a = some o → h'.get? a = some o) : ZipIs b c h' z TI TO i1 i2 l m i xs ys :=
  ⟨k _ _ (.inl rfl) q.1, q.2.1.to fun o => k _ o (.inr (.inl rfl)), q.2.2.1.to fun o => k _ o (.inr (.inr (.inl rfl))), q.2.2.2.1.to fun o => k _ o (.inr (.inr (.inr (.inl rfl)))), q.2.2.2.2.to fun o => k _ o (.inr (.inr (.inr (.inr rfl))))⟩
theorem pairZ (b c : Bool) {z TI TO i1 i2 l m : Addr} (S : ZipSep2 z TI TO i1 i2 [i1, l] [i2, m]) (n1 : l ≠ i1) (n2 : m ≠ i2) (xs ys : Array Value) :
    PairArg prog w "zip" z [z, TI, TO, i1, i2, l, m] [z, TO, i1, i2] (min xs.size ys.size) (fun i k v => xs[i]? = some k ∧ ys[i]? = some v)
      (fun h => IsZip h z TI TO .none ∧ (∃ x y, IsTupOf2 h TO x y) ∧ ZipIs b c h z TI TO i1 i2 l m 0 xs ys) where
  type := fun s ok => ⟨_, ok.1, rfl⟩
  notDict := by decide
  keep := fun h h' ok hk => ⟨hk _ _ ok.1, ok.2.1.imp fun x e => e.imp fun y e => hk _ _ e, ok.2.2.to fun a o _ => hk a o⟩
  there := by
    rintro h ⟨hz, ⟨x, y, hTO⟩, hTI, h1, h2, q1, q2⟩ a ha
    obtain ⟨o1, e1, _⟩ := h1.ob
    obtain ⟨o2, e2, _⟩ := h2.ob
    have e3 : ∃ o, h.get? l = some o := by
      cases b with
      | true => obtain ⟨o, e, _⟩ := (show h.IsList l xs from q1); exact ⟨o, e⟩
      | false => obtain ⟨o, e, _⟩ := (show h.IsTuple l xs from q1); exact ⟨o, e⟩
    have e4 : ∃ o, h.get? m = some o := by
      cases c with
      | true => obtain ⟨o, e, _⟩ := (show h.IsList m ys from q2); exact ⟨o, e⟩
      | false => obtain ⟨o, e, _⟩ := (show h.IsTuple m ys from q2); exact ⟨o, e⟩
    simp only [List.mem_cons, List.not_mem_nil, or_false] at ha
    rcases ha with rfl | rfl | rfl | rfl | rfl | rfl | rfl
    · exact ⟨_, hz⟩
    · exact ⟨_, hTI⟩
    · exact ⟨_, hTO⟩
    · exact ⟨_, e1⟩
    · exact ⟨_, e2⟩
    · exact e3
    · exact e4
  sub := fun a ha => by
    simp only [List.mem_cons, List.not_mem_nil, or_false] at ha ⊢
    rcases ha with rfl | rfl | rfl | rfl <;> simp
  noKeys := fun A s Q E hA ok h => getAttrOr_miss_zip ok.1 rfl rfl rfl zip_no_keys (by decide +kernel) hA h
  iter := by
    rintro A s d Q E hA ⟨hz, ⟨x0, y0, hTO⟩, q0⟩ hd hdf h
    simp only [List.mem_cons, List.not_mem_nil, or_false, not_or] at hdf
    obtain ⟨dz, dTI, dTO, di1, di2, dl, dm⟩ := hdf
    have hh : A.in1.handled = none := hA
    have lz : l ≠ z := fun e => S.zf1 (by rw [← e]; simp)
    have mz : m ≠ z := fun e => S.zf2 (by rw [← e]; simp)
    have lT : l ≠ TO := fun e => S.Tf1 (by rw [← e]; simp)
    have mT : m ≠ TO := fun e => S.Tf2 (by rw [← e]; simp)
    have l2 : l ≠ i2 := fun e => S.sep2_1 (by rw [← e]; simp)
    have m1 : m ≠ i1 := fun e => S.sep1_2 (by rw [← e]; simp)
    refine wpAny_pyIter_zip hz (h z [z, TO, i1, i2] (fun i h => ZipIs b c h z TI TO i1 i2 l m i xs ys ∧
      ((IsZip h z TI TO .none ∧ ∃ x y, IsTupOf2 h TO x y) ∨ ∃ T f oT, IsZipHeld h z TI TO T f ∧ h.get? T = some oT ∧ T ≠ z ∧ T ≠ i1 ∧ T ≠ i2 ∧ T ≠ d)) s.heap s.toks ?_ ⟨q0, .inl ⟨hz, x0, y0, hTO⟩⟩ (fun _ _ e => e) fun a ha => .inl ha)
    refine { off := fun hm => ?_, frame := ?_, item := ?_, done := ?_ }
    · simp only [List.mem_cons, List.not_mem_nil, or_false] at hm
      rcases hm with e | e | e | e
      · exact dz e
      · exact dTO e
      · exact di1 e
      · exact di2 e
    · rintro i ha hb ⟨q, hz⟩ k
      refine ⟨q.to fun a o ea e => k _ _ (fun e2 => ?_) e, ?_⟩
      · subst e2
        rcases ea with e | e | e | e | e
        · exact dTI e
        · exact di1 e
        · exact di2 e
        · exact dl e
        · exact dm e
      · rcases hz with ⟨hz, x, y, e⟩ | ⟨T, f, oT, hz, hT, r1, r2, r3, r4⟩
        · exact .inl ⟨k _ _ (Ne.symm dz) hz, x, y, k _ _ (Ne.symm dTO) e⟩
        · exact .inr ⟨T, f, oT, k _ _ (Ne.symm dz) hz, k _ _ r4 hT, r1, r2, r3, r4⟩
    · rintro i s1 Q1 E1 hi ⟨⟨hTI, h1, h2, p1, p2⟩, hz⟩ hds hQ
      have g1 : i < xs.size := by omega
      have g2 : i < ys.size := by omega
      have D1 := drawsB (b := b) (prog := prog) (w := w) hh i1 l n1 xs i
      have D2 := drawsB (b := c) (prog := prog) (w := w) hh i2 m n2 ys i
      obtain ⟨o1, e1, _⟩ := h1.ob
      obtain ⟨o2, e2, _⟩ := h2.ob
      rcases hz with ⟨hz, x, y, hTO⟩ | ⟨T, f, oT, hz, hT, r1, r2, r3, r4⟩
      · refine wpAny_pyNext_zipD2_item S D1 D2 hz hTI hTO ⟨h1, p1, fun _ => Nat.le_of_lt g1⟩ ⟨h2, p2, fun _ => Nat.le_of_lt g2⟩ (by omega) (by omega) fun u v h' tk pu pv z' t' s1' s2' hp hsz hk => ?_
        exact hQ s1.heap.objs.size _ _ h' tk ⟨pu, pv⟩ (.inl ⟨_, hp, rfl, _, rfl⟩) ⟨⟨hk _ _ S.TIz S.TITO S.TIi1 S.TIi2 hTI, s1'.1, s2'.1, s1'.2.1, s2'.2.1⟩, .inr ⟨s1.heap.objs.size, false, _, z', hp, Nat.ne_of_gt (Heap.lt_size hz), Nat.ne_of_gt (Heap.lt_size e1), Nat.ne_of_gt (Heap.lt_size e2), Nat.ne_of_gt hds⟩⟩
          fun a o ha e => hk a o (fun x => ha (by simp [x])) (fun x => ha (by simp [x])) (fun x => ha (by simp [x])) (fun x => ha (by simp [x])) e
      · refine zipH_item S D1 D2 hz hT hTI ⟨h1, p1, fun _ => Nat.le_of_lt g1⟩ ⟨h2, p2, fun _ => Nat.le_of_lt g2⟩ (by omega) (by omega) fun u v h' tk pu pv z' s1' s2' hp hk => ?_
        exact hQ s1.heap.objs.size _ _ h' tk ⟨pu, pv⟩ (.inl ⟨_, hp, rfl, _, rfl⟩) ⟨⟨hk _ _ S.TIz S.TIi1 S.TIi2 hTI, s1'.1, s2'.1, s1'.2.1, s2'.2.1⟩, .inr ⟨T, true, oT, z', hk _ _ r1 r2 r3 hT, r1, r2, r3, r4⟩⟩
          fun a o ha e => hk a o (fun x => ha (by simp [x])) (fun x => ha (by simp [x])) (fun x => ha (by simp [x])) e
    · rintro s1 Q1 E1 ⟨⟨hTI, h1, h2, p1, p2⟩, hz⟩ hQ
      have D1 := drawsB (b := b) (prog := prog) (w := w) hh i1 l n1 xs (min xs.size ys.size)
      have D2 := drawsB (b := c) (prog := prog) (w := w) hh i2 m n2 ys (min xs.size ys.size)
      rcases hz with ⟨hz, x, y, hTO⟩ | ⟨T, f, oT, hz, hT, r1, r2, r3, r4⟩
      · exact wpAny_pyNext_zipD2_end S D1 D2 hz hTI hTO ⟨h1, p1, fun _ => Nat.min_le_left ..⟩ ⟨h2, p2, fun _ => Nat.min_le_right ..⟩ (by omega) (by omega) (by omega) fun h' tk hk => hQ h' tk fun a o ha e => hk a o (fun x => ha (by simp [x])) (fun x => ha (by simp [x])) (fun x => ha (by simp [x])) (fun x => ha (by simp [x])) e
      · exact zipH_end S D1 D2 hz hT hTI ⟨h1, p1, fun _ => Nat.min_le_left ..⟩ ⟨h2, p2, fun _ => Nat.min_le_right ..⟩ (by omega) (by omega) fun h' tk hk => hQ h' tk fun a o ha e => hk a o (fun x => ha (by simp [x])) (fun x => ha (by simp [x])) (fun x => ha (by simp [x])) e
end
inductive ZK : List V → List V → List (Key × V) → Prop
  | nl {ys : List V} : ZK [] ys []
  | nr {x : V} {xs : List V} : ZK (x :: xs) [] []
  | cons {k : Key} {v : V} {xs ys : List V} {r : List (Key × V)} : ZK xs ys r → ZK (kV k :: xs) (v :: ys) ((k, v) :: r)
theorem ZK.len : ∀ {xs ys : List V} {r : List (Key × V)}, ZK xs ys r → r.length = min xs.length ys.length
  | _, _, _, .nl => by simp
  | _, _, _, .nr => by simp
  | _, _, _, .cons t => by
    have := t.len
    simp only [List.length_cons]
    omega
theorem ZK.vals {P : Program} {w : World} : ∀ {xs ys : List V} {r : List (Key × V)} {its jts : List Value}, ZK xs ys r → Vals xs its → Vals ys jts → ∃ prs : List (Key × Value), KV r prs ∧ prs.length = min its.length jts.length ∧
    ∀ (i : Nat) (key v : Value), its[i]? = some key → jts[i]? = some v → ∃ k, prs[i]? = some (k, v) ∧ (mixKind P w).is k key = true
  | _, _, _, _, _, .nl, r1, _ => by
    cases r1
    exact ⟨[], .nil, by simp, fun i key v e => by simp at e⟩
  | _, _, _, _, _, .nr, _, r2 => by
    cases r2
    exact ⟨[], .nil, by simp, fun i key v _ e => by simp at e⟩
  | _, _, _, _, _, .cons (k := k) t, r1, r2 => by
    cases r1 with
    | cons h1 t1 => cases r2 with
      | cons h2 t2 =>
        rename_i u us u2 us2
        obtain ⟨prs, rel, hl, hp⟩ := t.vals (P := P) (w := w) t1 t2
        refine ⟨(k, u2) :: prs, .cons ⟨rfl, h2⟩ rel, by simp only [List.length_cons]; omega, fun i key v e1 e2 => ?_⟩
        cases i with
        | zero =>
          obtain rfl : u = key := Option.some.inj e1
          obtain rfl : u2 = v := Option.some.inj e2
          exact ⟨k, rfl, kV_is (P := P) (w := w) h1⟩
        | succ i => exact hp i key v e1 e2
section
variable {X : Cx}
theorem pe_dzip {e e2 : Expr} {ta : TA} {p p2 pos pos2 : Pos} (hcalm : X.calm = true) (hg : Gl X "dict") (hm : X.mg "dict" = none) (hgz : Gl X "zip") (hmz : X.mg "zip" = none) (ha : PA X [e, e2] ta)
    (hs : starEach [e, e2] X.env = (false, eval e X.env) :: starEach [e2] X.env := by rfl) (hpl : (backTo pos2 (starEach [e2] X.env)).any (·.1) = false := by rfl)
    (hs2 : starEach [.Call (.Name "zip" p2) [e, e2] [] pos2] X.env = (false, eval (.Call (.Name "zip" p2) [e, e2] [] pos2) X.env) :: starEach [] X.env := by rfl) (hpl2 : (backTo pos (starEach [] X.env)).any (·.1) = false := by rfl) :
    PE X (.Call (.Name "dict" p) [.Call (.Name "zip" p2) [e, e2] [] pos2] [] pos) (fun σ H Q => ta σ H fun vs H1 => ∃ b c l m xs ys kvs, vs = [.ref l, .ref m] ∧ SqB b X.K H1 l xs ∧ SqB c X.K H1 m ys ∧ ZK xs ys kvs ∧ kvs.length ≤ 1000000 ∧ ∀ D, H1 D = none → Q (.ref D) (upd H1 D (.dK (mergeK [] kvs)))) := by
  have bd : bootBuiltins ("dict" : Str) = some (.type "dict") := by decide +kernel
  refine ⟨fun pins s σ H Q I h => wpAny_Call_Name_kw (ld_blt I hg hm bd (PyProof.Rows.callWith_type1 ?_ hs2 hpl2))⟩
  rw [hs2]
  show wpAny _ _ (spliced ((false, eval _ X.env) :: backTo pos (starEach [] X.env))) _ _ s
  refine Calls.spliced_cons (wpAny_Call_Name_kw (ld_blt I hgz hmz PyProof.Rows.boot_zip (PyProof.Rows.callWith_type1 (thn (ha.run pos2 pins s σ H _ I h) fun us s1 ⟨vs, H1, I1, r1, b, c, l, m, xs, ys, kvs, ex, hqx, hqy, hz, hlen, q⟩ => ?_) hs hpl)))
  subst ex
  cases r1 with
  | cons r rr => cases rr with
    | cons r' rr =>
      cases rr
      cases r
      cases r'
      obtain ⟨its, rv, p1⟩ := seqB I1 hqx
      obtain ⟨jts, rw', p2⟩ := seqB I1 hqy
      have l1 := p1.lt
      have l2 := p2.lt
      have D := zsep s1.heap.objs.size l m l1 l2
      refine zip_begins2 (beginsB b l its.toArray) (beginsB c m jts.toArray) p1 p2 fun h' hz' hTI hTO h1 h2 hsz hk => Calls.spliced_nil ?_
      have I2 : Inv X pins σ H1 { s1 with heap := h' } := I1.kept (t' := s1.toks) hk
      obtain ⟨prs, rel, hpl, hpr⟩ := hz.vals (P := X.prog) (w := X.w) rv rw'
      have hl1 := rel.length
      refine PySem.call_dict_pairs (knd := mixKind X.prog X.w) (kvs := prs) (pairZ (prog := X.prog) (w := X.w) b c D (Nat.ne_of_lt l1) (Nat.ne_of_lt (Nat.lt_succ_of_lt l2)) its.toArray jts.toArray) (I.ok.hd hcalm)
        ⟨hz', ⟨_, _, hTO⟩, hTI, .zero h1, .zero h2, p1.to fun o e => hk _ o e, p2.to fun o e => hk _ o e⟩ ⟨by simp only [List.size_toArray]; exact hpl, fun i key v ⟨e1, e2⟩ => hpr i key v (by simpa using e1) (by simpa using e2)⟩ (by rw [sizeLine_eq]; simp only [List.size_toArray]; omega) fun h2 tk dd k => ?_
      have hm2 : (h'.objs.size == sysModules) = false := beq_eq_false_iff_ne.mpr (Nat.ne_of_gt I2.big)
      have hlen2 : (mergeK [] kvs).length ≤ sizeLine := by
        have := length_mergeK kvs []
        rw [sizeLine_eq]
        simp only [List.length_nil] at this
        omega
      have keep : ∀ a o, s1.heap.get? a = some o → h2.get? a = some o := fun a o e => k a o (fun ha => by
        have : s1.heap.objs.size ≤ a := by
          simp only [List.mem_cons, List.not_mem_nil, or_false] at ha
          rcases ha with rfl | rfl | rfl | rfl
          · exact Nat.le_add_right _ _
          · exact Nat.le_add_right _ _
          · exact Nat.le_refl _
          · exact Nat.le_add_right _ _
        exact absurd (Heap.lt_size e) (Nat.not_lt.mpr this)) (hk a o e)
      have big : s1.heap.objs.size ≤ h'.objs.size := by rw [hsz]; exact Nat.le_add_right _ _
      exact ⟨.ref h'.objs.size, upd H1 h'.objs.size (.dK (mergeK [] kvs)), I1.laid (t' := tk) keep big (show ObjOk X.prog X.w _ _ _ (.dK (mergeK [] kvs)) from ⟨hlen2, hm2, merged [] prs, KV.merge rel .nil, dd⟩), rfl, q _ (I1.hok.fresh big)⟩
end
end EV

set_option Elab.async false
set_option linter.all false
set_option maxRecDepth 100000
set_option maxHeartbeats 4000000
/-! EvOp: dict(zip(..)) as data; sum(d.values()). -/
namespace EV
open PySem PySem.Spec PyProof.Rows L2
section
variable {G : Stat} {an : An} {w w' : Wd} {H H' : Hp} {S S' : Sto} {W : WX} {X : Cx}
def zkD : List Dt → List Dt → Option (List (Key × Dt))
  | d :: ds, e :: es => match keyD d, zkD ds es with
    | some k, some r => some ((k, e) :: r)
    | _, _ => none
  | _, _ => some []
theorem zkD_ok : ∀ {ds es : List Dt} {xs ys : List V} {z : List (Key × Dt)}, PerL G w H ds xs → PerL G w H es ys → zkD ds es = some z → ∃ kvs, ZK xs ys kvs ∧ kvs.map (·.1) = z.map (·.1) ∧ PerL G w H (z.map (·.2)) (kvs.map (·.2))
  | [], es, _, ys, z, .nil, k2, e => by
    have ez : z = [] := by unfold zkD at e; cases e; rfl
    subst ez
    exact ⟨[], .nl, rfl, .nil⟩
  | d :: ds, [], _, _, z, .cons h t, .nil, e => by
    have ez : z = [] := by unfold zkD at e; cases e; rfl
    subst ez
    exact ⟨[], .nr, rfl, .nil⟩
  | d :: ds, e' :: es, _, _, z, .cons h t, .cons h2 t2, e => by
    unfold zkD at e
    cases e1 : keyD d with
    | none => rw [e1] at e; cases e
    | some k => cases e2 : zkD ds es with
      | none => rw [e1, e2] at e; cases e
      | some r =>
        rw [e1, e2] at e
        cases e
        obtain ⟨kvs, a1, a2, a3⟩ := zkD_ok t t2 e2
        have ev := keyD_ok (.per h) e1
        subst ev
        exact ⟨_, .cons (k := k) a1, by simp [a2], .cons h2 a3⟩
def mDz (m : Ma) : Mx := fun env S => (m env S).bind fun xs S1 => match xs with
  | [.p d, .p e] => (match dSq d, dSq e with
    | some ds, some es => (match zkD ds es with
      | some z => if decide (z.length ≤ 1000000) && decide (z.map (·.1)).Nodup then .ok (.p (.dct (z.map (·.1)) (z.map (·.2)))) S1 else .bad
      | none => .bad)
    | _, _ => .bad)
  | _ => .bad
theorem se_dzip {k : Nat} {e e2 : Expr} {m : Ma} {p p2 pos pos2 : Pos} (g : Gd G X W k) (hm : G.mg "dict" = none) (hmz : G.mg "zip" = none) (ha : SA G an W X [e, e2] m) (hg : Gl X "dict" := by rfl) (hgz : Gl X "zip" := by rfl)
    (hs : starEach [e, e2] X.env = (false, eval e X.env) :: starEach [e2] X.env := by rfl) (hpl : (backTo pos2 (starEach [e2] X.env)).any (·.1) = false := by rfl)
    (hs2 : starEach [.Call (.Name "zip" p2) [e, e2] [] pos2] X.env = (false, eval (.Call (.Name "zip" p2) [e, e2] [] pos2) X.env) :: starEach [] X.env := by rfl) (hpl2 : (backTo pos (starEach [] X.env)).any (·.1) = false := by rfl) :
    SE G an W X (.Call (.Name "dict" p) [.Call (.Name "zip" p2) [e, e2] [] pos2] [] pos) (mDz m) := by
  refine PE.imp (pe_frz (pe_dzip g.calm hg (by rw [g.mg]; exact hm) hgz (by rw [g.mg]; exact hmz) ha hs hpl hs2 hpl2)) fun σ H Q ⟨env, w, S, hE, hS, q⟩ => ⟨env, w, S, hE, hS, (Pst.bind q).imp (fun xs S1 w1 H1 r1 g1 s1 q1 vs rvs => ?_) fun _ _ _ z => z⟩
  split at q1
  · rename_i d e
    cases rvs with
    | cons r1 rr => cases rr with
      | cons r2 rn =>
        cases rn
        cases r1 with
        | p r1 => cases r2 with
          | p r2 =>
            cases e1 : dSq d with
            | none => simp only [e1] at q1; exact q1.elim
            | some ds => cases e2 : dSq e with
              | none => simp only [e1, e2] at q1; exact q1.elim
              | some es => cases e3 : zkD ds es with
                | none => simp only [e1, e2, e3] at q1; exact q1.elim
                | some z =>
                  simp only [e1, e2, e3] at q1
                  split at q1
                  · rename_i hc
                    obtain ⟨c1, c2⟩ := (Bool.and_eq_true _ _).mp hc
                    have c1 := of_decide_eq_true c1
                    have c2 := of_decide_eq_true c2
                    obtain ⟨b, a, xs, rfl, k, sq⟩ := sq_of r1 e1
                    obtain ⟨c, a2, ys, rfl, k2, sq2⟩ := sq_of r2 e2
                    obtain ⟨kvs, hz, f1, f2⟩ := zkD_ok k k2 e3
                    have hl1 : kvs.length = z.length := by have := congrArg List.length f1; simpa using this
                    have mm : mergeK [] kvs = kvs := mergeK_app kvs [] (by rw [List.nil_append, f1]; exact c2)
                    refine ⟨b, c, a, a2, xs, ys, kvs, rfl, by rw [g.K]; exact sq _ _ Grow.refl.x, by rw [g.K]; exact sq2 _ _ Grow.refl.x, hz, by omega, fun D hD => ⟨D, _, rfl, upd_same, trivial, fun od => ?_⟩⟩
                    rw [upd_upd, mm]
                    have go := Grow.obj (o := .frz od (.dK kvs)) s1 hD
                    exact q1 _ _ go (s1.obj hD) _ (.p (.dct upd_same f1 (f2.mono go)))
                  · exact q1.elim
  · exact q1.elim
/-! ### sum(d.values()), max(xs, default=n) -/
def rSumV : List V → Hp → VK → Prop := fun xs H Q => ∃ (p d : Addr) (o : Obj) (kvs : List (List Key × V)) (ns : List Int), xs = [.ref p] ∧ H p = some (valsO p d) ∧ H d = some (.frz o (.dT kvs)) ∧ kvs.map (·.2) = ns.map V.int ∧ Q (.int ns.sum) H
theorem cr_sumV (hc : X.calm = true) : CallR X (.builtin "sum") rSumV := by
  intro pins s σ H xs us Q I rx h
  obtain ⟨p, d, o, kvs, ns, rfl, hp, hd, hn, q⟩ := h
  obtain rfl := Vals.ref1 rx
  obtain ⟨es, ep, raw, view, hsz, ent⟩ := vals_int I hp hd hn
  have dl : d < s.heap.objs.size := raw.lt_size
  refine call_sum_walkG (wpAny_pyIter_values_raw view raw ?_)
  refine ⟨s.heap.objs.size, [s.heap.objs.size, d], [s.heap.objs.size], es.size, _, _, fun i => ns.getD i 0, rfl, Walks.rawValues (show X.A.in1.handled = none from I.ok.hd hc) s.heap.objs.size d (Nat.ne_of_lt dl) es ep, ⟨⟨_, Heap.get?_push_size _ rfl, rfl, rfl⟩, raw.push _⟩, fun b hb => ?_, ent, fun h' tk t' k1 => ?_⟩
  · show b < (s.heap.push _).objs.size
    rw [size_push']
    rcases List.mem_cons.mp hb with e | e
    · rw [e]; exact Nat.lt_succ_self _
    · rw [List.mem_singleton.mp e]; exact Nat.lt_succ_of_lt dl
  · have keep : ∀ b ob, s.heap.get? b = some ob → h'.get? b = some ob := fun b ob e => k1 b ob (fun m => by rw [List.mem_singleton.mp m] at e; exact absurd (Heap.lt_size e) (Nat.lt_irrefl _)) (Heap.get?_push_of_some _ e)
    rw [preSum_getD, hsz, List.take_of_length_le (Nat.le_refl _)]
    exact ⟨.int _, H, I.kept (t' := tk) keep, ⟨t', rfl⟩, q⟩
def mSumV (m : Mx) : Mx := fun env S => (m env S).bind fun x S1 => match x with
  | .p (.dtt _ ds) => (match intsD ds with
    | some ns => .ok (.p (.int ns.sum)) S1
    | none => .bad)
  | _ => .bad
theorem se_sumV {k : Nat} {e : Expr} {m : Mx} {p apos cpos pos : Pos} (g : Gd G X W k) (hm : G.mg "sum" = none) (h : SE G an W X e m) (hbase : attributeBase e "values" X.env (eval e X.env) = eval e X.env := by rfl) (hline : (apos.endLine == cpos.line) = true := by rfl) (hg : Gl X "sum" := by rfl)
    (hs1 : starEach [.Call (.Attribute e "values" apos) [] [] cpos] X.env = (false, eval (.Call (.Attribute e "values" apos) [] [] cpos) X.env) :: starEach [] X.env := by rfl) (hpl : (backTo pos (starEach [] X.env)).any (·.1) = false := by rfl) :
    SE G an W X (.Call (.Name "sum" p) [.Call (.Attribute e "values" apos) [] [] cpos] [] pos) (mSumV m) := by
  refine PE.imp (pe_callB (cr_sumV g.calm) hg (by rw [g.mg]; exact hm) (by decide +kernel) (pa_cons (pe_dvals h hbase hline) pa_nil hs1) (by decide) (by decide) hs1 hpl) fun σ H Q ⟨env, w, S, hE, hS, q⟩ => ⟨env, w, S, hE, hS, (Pst.bind q).imp (fun x S1 w1 H1 r1 g1 s1 q1 v rv => ?_) fun _ _ _ z => z⟩
  split at q1
  · rename_i ks ds
    split at q1
    · rename_i ns en
      cases rv with
      | p pv =>
        cases pv with
        | dtt hd e1 kk =>
          rename_i a o kvs
          refine ⟨a, o, kvs, rfl, hd, fun pp hp => ?_⟩
          have gw := Grow.obj (o := valsO pp a) s1 hp
          exact ⟨pp, a, o, kvs, ns, rfl, upd_same, by rw [upd_ne (ne_of_none hd hp)]; exact hd, ints_ok kk en, q1 w1 _ gw (s1.obj hp) _ (.p (.int _))⟩
    · exact q1.elim
  · exact q1.elim
def rMaxL (K : PySem.W.Frag) : List V → List V → Hp → VK → Prop := fun xs zs H Q => ∃ (a : Addr) (ns : List Int) (z : Int), xs = [.ref a] ∧ zs = [.int z] ∧ SqL K H a (ns.map V.int) ∧ Q (.int (maxI z ns)) H
theorem cr_maxL (hc : X.calm = true) : CallRK X (.builtin "max") [("default" : Str)] (rMaxL X.K) := by
  intro pins s σ H xs zs us ws Q I rx rz h
  obtain ⟨a, ns, z, rfl, rfl, hq, q⟩ := h
  obtain rfl := Vals.ref1 rx
  obtain ⟨u, rfl, t0, rfl⟩ := vals1 rz
  obtain ⟨its, rv, pl, _⟩ := I.list hq
  have isl := pl.isList
  have al : a < s.heap.objs.size := pl.lt
  have hl : its.length = ns.length := by have := rv.length; rw [List.length_map] at this; omega
  have ent : ∀ (i : Nat) (v : Value), its.toArray[i]? = some v → ∃ t, v = Value.int (ns.getD i 0) t := fun i v e => by
    have e : its[i]? = some v := by simpa using e
    have hi : i < its.length := (List.getElem?_eq_some_iff.mp e).1
    have hi2 : i < ns.length := by omega
    have e2 : (ns.map V.int)[i]? = some (V.int ns[i]) := by rw [List.getElem?_map, List.getElem?_eq_getElem hi2]; rfl
    obtain ⟨u, hu, ru⟩ := rv.get e2
    obtain rfl : v = u := Option.some.inj (e.symm.trans hu)
    obtain ⟨t, et⟩ := ru
    refine ⟨t, ?_⟩
    rw [et, List.getD_eq_getElem?_getD, List.getElem?_eq_getElem hi2] <;> rfl
  show wpAny (model X.prog X.w) X.A (call (.builtin "max") [.ref a] [("default", .int z t0)]) _ _ s
  refine maxD_walk (wpAny_pyIter_list isl ?_)
  refine ⟨s.heap.objs.size, [s.heap.objs.size, a], [s.heap.objs.size], its.toArray.size, _, _, fun i j => decide (ns.getD i 0 > ns.getD j 0), rfl, Walks.list (show X.A.in1.handled = none from I.ok.hd hc) s.heap.objs.size a (Nat.ne_of_lt al) its.toArray, ⟨⟨_, Heap.get?_push_size _ rfl, rfl, rfl⟩, isl.at fun o e => Heap.get?_push_of_some _ e⟩, fun b hb => ?_, CmpOf.ints_gt (fun i => ns.getD i 0) ent, fun v h' tk p1 p2 k1 => ?_⟩
  · show b < (s.heap.push _).objs.size
    rw [size_push']
    rcases List.mem_cons.mp hb with e | e
    · rw [e]; exact Nat.lt_succ_self _
    · rw [List.mem_singleton.mp e]; exact Nat.lt_succ_of_lt al
  · have keep : ∀ b ob, s.heap.get? b = some ob → h'.get? b = some ob := fun b ob e => k1 b ob (fun m => by rw [List.mem_singleton.mp m] at e; exact absurd (Heap.lt_size e) (Nat.lt_irrefl _)) (Heap.get?_push_of_some _ e)
    have ev : ∃ t, v = .int (maxI z ns) t := by
      have hsz : its.toArray.size = ns.length := by rw [List.size_toArray, hl]
      rcases Nat.eq_zero_or_pos its.toArray.size with e0 | e0
      · refine ⟨t0, ?_⟩
        rw [p2 e0]
        have : ns = [] := List.eq_nil_of_length_eq_zero (by omega)
        rw [this]; rfl
      · obtain ⟨t, e⟩ := ent _ v (p1 e0)
        refine ⟨t, ?_⟩
        rw [e, hsz, best_max (d := z) (by omega)]
    exact ⟨.int _, H, I.kept (t' := tk) keep, ev, q⟩
def mMaxL (z : Int) (m : Mx) : Mx := fun env S => (m env S).bind fun x S1 => match x with
  | .p (.lst ds) => (match intsD ds with
    | some ns => .ok (.p (.int (maxI z ns))) S1
    | none => .bad)
  | _ => .bad
theorem se_maxL {k : Nat} {e : Expr} {m : Mx} {z : Int} {j : Nat} {p kpos zpos pos : Pos} (g : Gd G X W k) (hm : G.mg "max" = none) (h : SE G an W X e m) (hg : Gl X "max" := by rfl)
    (hs1 : starEach [e] X.env = (false, eval e X.env) :: starEach [] X.env := by rfl)
    (he : backTo pos (starEach [e] X.env) = (false, eval e X.env) :: backTo pos (starEach [] X.env) := by rfl)
    (hpl : (backTo pos (starEach [e] X.env)).any (·.1) = false := by rfl)
    (hall : (backToKw pos (keywordEach [⟨some "default", .Constant (.int z) j zpos, kpos⟩] X.env)).all (·.1.isSome) = true := by rfl) (hnone : (backToKw pos (keywordEach [⟨some "default", .Constant (.int z) j zpos, kpos⟩] X.env)).any (·.1.isNone) = false := by rfl)
    (hks : (backToKw pos (keywordEach [⟨some "default", .Constant (.int z) j zpos, kpos⟩] X.env)).filterMap (·.1) = [("default" : Str)] := by rfl) :
    SE G an W X (.Call (.Name "max" p) [e] [⟨some "default", .Constant (.int z) j zpos, kpos⟩] pos) (mMaxL z m) := by
  refine PE.imp (pe_callBK (cr_maxL g.calm) hg (by rw [g.mg]; exact hm) (by decide +kernel) (pa_cons h pa_nil hs1) (pk_cons pe_int pk_nil) (by decide) (by decide) he hpl hall hnone hks) fun σ H Q ⟨env, w, S, hE, hS, q⟩ => ⟨env, w, S, hE, hS, (Pst.bind q).imp (fun x S1 w1 H1 r1 g1 s1 q1 v rv => ?_) fun _ _ _ z => z⟩
  split at q1
  · rename_i ds
    split at q1
    · rename_i ns en
      cases rv with
      | p pv =>
        cases pv with
        | lst hd n1 n2 kk =>
          have ei := ints_ok kk en
          subst ei
          exact ⟨_, ns, z, rfl, rfl, by rw [g.K]; exact .inl (.inl hd), q1 w1 H1 Grow.refl s1 _ (.p (.int _))⟩
    · exact q1.elim
  · exact q1.elim
end
end EV

set_option Elab.async false
set_option linter.all false
set_option maxRecDepth 100000
/-! EvOq: a def of no argument that answers a list. -/
namespace EV
open PySem PySem.Spec PyProof.Rows L2
section
variable {G : Stat} {an : An} {w w' : Wd} {H H' : Hp} {S S' : Sto} {W : WX} {X : Cx}
theorem sf_call0 {k n : Nat} {x : Str} {a : Addr} {dd : List Dt} {f : Fl} {ma : Ma} {p pos : Pos} (g : Gd G X W k) (h : FnL G k x a n dd f) (ha : SA G an W X [] ma) (hm : ma = maNil := by rfl) (hg : Gl X x := by rfl)
    (hdb : (x == ("__debug__" : Str)) = false := by decide) :
    SF G an W X (.Call (.Name x p) [] [] pos) (mCallF f n dd ma) := by
  subst hm
  obtain ⟨fd, ps, ds, dvs, F, hb, hd, hdd⟩ := h.ex
  refine ⟨fun pins s σ H Q I ⟨env, w, S, hE, hS, q⟩ => ?_⟩
  refine wpAny_Call_Name_kw (ld_glob I hg (by rw [g.mg]; exact h.mg) ?_ hdb)
  have q1 : Pst G an w H (mCallF f n dd maNil env S) _ _ := q
  refine PySem.W.callWith_K0 I.kIn (by rw [g.K]; exact h.kp) (go_fn (us := []) (vs := []) g F hb hd I .nil ?_)
  unfold mCallF maNil at q1
  simp only [Rz.bind] at q1
  split at q1
  · rename_i hl
    exact ⟨_, w, S, RvL.nil.app (hdd w H).vals, hl, hS.to0, Pst.toF hS.anc q1⟩
  · exact q1.elim
end
end EV

set_option Elab.async false
set_option linter.all false
set_option maxRecDepth 100000
set_option maxHeartbeats 4000000
/-! EvOr: for x in xs, xs a list that is a cell: read anew at each turn. -/
namespace EV
open PySem PySem.Spec PyProof.Rows L2
section
variable {G : Stat} {an : An} {w w' : Wd} {H H' : Hp} {S S' : Sto} {W : WX} {X : Cx}
def sForC (g : Tg) (b : Sx) (n : Nat) : Nat → Nat → Sx
  | 0, _, _, _ => .bad
  | f + 1, i, env, S => match S[n]? with
    | some (.lst ds) => (match ds[i]? with
      | none => .nx env S
      | some d => (match bindT g d env with
        | none => .bad
        | some env1 => match b env1 S with
          | .nx env' S' => sForC g b n f (i + 1) env' S'
          | .ct env' S' => sForC g b n f (i + 1) env' S'
          | .bk env' S' => .nx env' S'
          | o => o))
    | _ => .bad
def sForX (m : Mx) (g : Tg) (b : Sx) : Sx := fun env S => liftE (m env S) env fun x S1 => match x with
  | .loc n => sForC g b n 4096 0 env S1
  | _ => .bad
theorem ss_forC {k : Nat} {tg e : Expr} {body : List Stmt} {m : Mx} {tgt : Tg} {mb : Sx} {pos : Pos} (g : Gd G X W k) (h : SE G an W X e m) (hg : PG X tg (tgOf X.K tgt)) (hb : SB G an W X body mb)
    (hs : ∀ x, foldedSetIterable e X.env x = pure x := by intro _; rfl) : SS G an W X (.For tg e body [] pos) (sForX m tgt mb) := by
  refine PS.imp (ps_for g.pass g.calm (pi_list h) hg hb hs) fun D σ H ⟨env, w, S, hE, hS, q⟩ => ⟨env, w, S, hE, hS, (q.lift hE).imp (fun x S1 w1 H1 r1 g1 s1 q1 v rv => ?_) fun _ _ _ z => z⟩
  cases x with
  | p d => exact q1.elim
  | loc n =>
    cases rv with
    | loc ha =>
      rename_i a
      have q1 : PsS G an w1 H1 (sForC tgt mb n 4096 0 env S1) D W := q1
      obtain ⟨d0, e0, c0⟩ := s1.at' n a ha
      have hl0 : ∃ xs, SqL X.K H1 a xs := by
        have q1' := q1
        unfold sForC at q1'
        rw [e0] at q1'
        cases c0 with
        | lst h k => exact ⟨_, .inl (.inl h)⟩
        | _ => exact q1'.elim
      refine ⟨a, rfl, hl0, ?_⟩
      refine ⟨fun i m σ H => ∃ env w S, i + m = 4096 ∧ w.rho[n]? = some a ∧ EnvR G w H env σ ∧ StoR G an w S H ∧ PsS G an w H (sForC tgt mb n m i env S) D W,
        ⟨4096, env, w1, S1, rfl, ha, hE.mono g1, s1, q1⟩, ?_⟩
      rintro i m σ H ⟨env, w, S, hi, hw, hE, hS, q⟩
      cases m with
      | zero => exact q.elim
      | succ f =>
        obtain ⟨d, e1, c1⟩ := hS.at' n a hw
        unfold sForC at q
        rw [e1] at q
        cases c1 with
        | lst hl kk =>
          rename_i xs ds
          have sq : SqL X.K H a xs := .inl (.inl hl)
          simp only at q
          cases ed : ds[i]? with
          | none =>
            rw [ed] at q
            refine .inl ⟨⟨xs, sq, ?_⟩, q w H σ Grow.refl hS hE⟩
            rw [← kk.length]
            exact List.getElem?_eq_none_iff.mp ed
          | some y =>
            rw [ed] at q
            obtain ⟨u, hu, pu⟩ := kk.get ed
            cases eb : bindT tgt y env with
            | none => simp only [eb] at q; exact q.elim
            | some env1 =>
              simp only [eb] at q
              refine .inr ⟨⟨xs, u, sq, hu⟩, fun σ' H' => ∃ env w S, w.rho[n]? = some a ∧ EnvR G w H' env σ' ∧ StoR G an w S H' ∧ PsS G an w H' (sForC tgt mb n f (i + 1) env S) D W, fun σ' H' ⟨env', w', S', a1, b, c, d⟩ => ⟨f, by omega, env', w', S', by omega, a1, b, c, d⟩, fun x H' y' => ?_⟩
              obtain ⟨rfl, yy⟩ := y'
              obtain rfl : x = u := Option.some.inj ((yy xs sq).symm.trans hu)
              refine bindT_ok g.K eb hE pu fun σ2 hE2 _ => ⟨env1, w, S, hE2, hS, ?_⟩
              have keep : ∀ {w' H2}, Grow w H' w' H2 → w'.rho[n]? = some a := fun {w' H2} g3 => by
                obtain ⟨t, et⟩ := g3.pre
                rw [et, List.getElem?_append_left (List.getElem?_eq_some_iff.mp hw).1]
                exact hw
              cases r : mb env1 S with
              | nx env' S' => rw [r] at q; exact fun w' H2 σ' g3 s e => ⟨env', w', S', keep g3, e, s, PsS.from q g3⟩
              | ct env' S' => rw [r] at q; exact fun w' H2 σ' g3 s e => ⟨env', w', S', keep g3, e, s, PsS.from q g3⟩
              | bk env' S' => rw [r] at q; exact q
              | rt x S' => rw [r] at q; exact q
              | exc c p env' S' => rw [r] at q; exact q
              | bad => rw [r] at q; exact q.elim
        | _ => exact q.elim
/-! ### list(d), d a dict with tuples as keys -/
def dListA : List Dt → Option (List Dt)
  | [.dtt ks _] => some (ks.map fun k => .tup (k.map dtK))
  | xs => dList xs
def rListA (K : PySem.W.Frag) : List V → Hp → VK → Prop := fun xs H Q => (∃ p ys, xs = [.ref p] ∧ (SqL K H p ys ∨ SqT K H p ys) ∧ ∀ l, H l = none → Q (.ref l) (upd H l (.lst ys))) ∨
  ∃ d kvs, xs = [V.ref d] ∧ Rd H d (.dT kvs) ∧ ∀ p bs, H p = none → IsKeys H kvs bs → Q (.ref p) (upd H p (.lst (bs.map V.ref)))
theorem cr_listA (hc : X.calm = true) : CallR X (.type "list") (rListA X.K) := by
  intro pins s σ H vs us Q I r h
  rcases h with h | h
  · exact call_list_of pins s σ H vs us Q I r h
  · exact call_list_dT hc pins s σ H vs us Q I r h
theorem keys_per : ∀ {kvs : List (List Key × V)} {bs : List Addr}, IsKeys H kvs bs → PerL G w H ((kvs.map (·.1)).map fun k => .tup (k.map dtK)) (bs.map V.ref)
  | _, _, .nil => .nil
  | _, _, .cons h t => .cons (per_tk h) (keys_per t)
theorem okF_listA : PrF G (rListA G.K) dListA := by
  intro an w S H ds xs z Q hS t e q
  by_cases c : ∃ ks vs, ds = [.dtt ks vs]
  · obtain ⟨ks, vs, rfl⟩ := c
    cases e
    obtain ⟨v, rfl, tv⟩ := TpL.one t
    obtain ⟨a, kvs, rfl, h1, h2, h3⟩ := tv.dtt'
    subst h2
    exact .inr ⟨a, kvs, rfl, h1, fun p bs hp hk => q w H p _ Grow.refl hS hp (keys_per hk)⟩
  · have e2 : dList ds = some z := by
      unfold dListA at e
      split at e
      · exact absurd ⟨_, _, rfl⟩ c
      · exact e
    exact .inl (okF_list an w S H ds xs z Q hS t e2 q)
end
end EV

set_option Elab.async false
set_option linter.all false
set_option maxRecDepth 100000
set_option maxHeartbeats 4000000
namespace K60
open PySem PySem.Spec PyProof.Rows L2 EV
def topS (i : Nat) : Stmt := PySem.Challenge.pw_crestjoin_k60_errors_of_tables_made_of_b.main.body.getD i (.Pass ⟨0, 0, 0, 0⟩)
abbrev s_law_met : Stmt := topS 82
theorem sc_law_met : FnScope ["call", "error"] ["call"] (defScope s_law_met) := ⟨rfl, rfl, rfl, by decide +kernel, rfl, by decide +kernel, by decide +kernel⟩
abbrev s_is_integer : Stmt := topS 13
theorem sc_is_integer : FnScope ["value"] ["value"] (defScope s_is_integer) := ⟨rfl, rfl, rfl, by decide +kernel, rfl, by decide +kernel, by decide +kernel⟩
abbrev s_is_lot : Stmt := topS 19
theorem sc_is_lot : FnScope ["value", "last", "letter"] ["value"] (defScope s_is_lot) := ⟨rfl, rfl, rfl, by decide +kernel, rfl, by decide +kernel, by decide +kernel⟩
abbrev s_gain : Stmt := topS 38
theorem sc_gain : FnScope ["more", "fewer", "total", "some"] ["more", "fewer"] (defScope s_gain) := ⟨rfl, rfl, rfl, by decide +kernel, rfl, by decide +kernel, by decide +kernel⟩
abbrev s_check_table : Stmt := topS 46
theorem sc_check_table : FnScope ["value"] ["value"] (defScope s_check_table) := ⟨rfl, rfl, rfl, by decide +kernel, rfl, by decide +kernel, by decide +kernel⟩
abbrev s_part_at : Stmt := topS 48
theorem sc_part_at : FnScope ["row", "places", "place"] ["row", "places"] (defScope s_part_at) := ⟨rfl, rfl, rfl, by decide +kernel, rfl, by decide +kernel, by decide +kernel⟩
abbrev s_are_tables : Stmt := topS 53
theorem sc_are_tables : FnScope ["value", "table"] ["value"] (defScope s_are_tables) := ⟨rfl, rfl, rfl, by decide +kernel, rfl, by decide +kernel, by decide +kernel⟩
abbrev s_rank_of : Stmt := topS 68
theorem sc_rank_of : FnScope ["vectors", "kept", "vector", "left", "other"] ["vectors"] (defScope s_rank_of) := ⟨rfl, rfl, rfl, by decide +kernel, rfl, by decide +kernel, by decide +kernel⟩
abbrev s_said_by : Stmt := topS 70
theorem sc_said_by : FnScope ["vectors", "source", "place", "vector"] ["vectors", "source"] (defScope s_said_by) := ⟨rfl, rfl, rfl, by decide +kernel, rfl, by decide +kernel, by decide +kernel⟩
abbrev s_sources_of : Stmt := topS 73
theorem sc_sources_of : FnScope ["vectors", "some", "vector"] ["vectors"] (defScope s_sources_of) := ⟨rfl, rfl, rfl, by decide +kernel, rfl, by decide +kernel, by decide +kernel⟩
abbrev s_law_jug : Stmt := topS 78
theorem sc_law_jug : FnScope ["script", "spot", "cell", "great", "seed"] ["script", "spot"] (defScope s_law_jug) := ⟨rfl, rfl, rfl, by decide +kernel, rfl, by decide +kernel, by decide +kernel⟩
abbrev s_law_poured : Stmt := topS 79
theorem sc_law_poured : FnScope ["jug", "total", "one", "two", "found"] ["jug", "total"] (defScope s_law_poured) := ⟨rfl, rfl, rfl, by decide +kernel, rfl, by decide +kernel, by decide +kernel⟩
abbrev s_law_bt_turned : Stmt := topS 80
theorem sc_law_bt_turned : FnScope ["items", "turn"] ["items", "turn"] (defScope s_law_bt_turned) := ⟨rfl, rfl, rfl, by decide +kernel, rfl, by decide +kernel, by decide +kernel⟩
abbrev s_law_bt_powers : Stmt := topS 81
theorem sc_law_bt_powers : FnScope [] [] (defScope s_law_bt_powers) := ⟨rfl, rfl, rfl, by decide +kernel, rfl, by decide +kernel, by decide +kernel⟩
abbrev s_is_between : Stmt := topS 14
theorem sc_is_between : FnScope ["value", "least", "most"] ["value", "least", "most"] (defScope s_is_between) := ⟨rfl, rfl, rfl, by decide +kernel, rfl, by decide +kernel, by decide +kernel⟩
abbrev s_are_lots : Stmt := topS 20
theorem sc_are_lots : FnScope ["value", "lot"] ["value"] (defScope s_are_lots) := ⟨rfl, rfl, rfl, by decide +kernel, rfl, by decide +kernel, by decide +kernel⟩
abbrev s_check_lot : Stmt := topS 21
theorem sc_check_lot : FnScope ["value"] ["value"] (defScope s_check_lot) := ⟨rfl, rfl, rfl, by decide +kernel, rfl, by decide +kernel, by decide +kernel⟩
abbrev s_check_rank_lot : Stmt := topS 33
theorem sc_check_rank_lot : FnScope ["value"] ["value"] (defScope s_check_rank_lot) := ⟨rfl, rfl, rfl, by decide +kernel, rfl, by decide +kernel, by decide +kernel⟩
abbrev s_parts_at : Stmt := topS 49
theorem sc_parts_at : FnScope ["rows", "letters", "wanted", "places", "letter", "row"] ["rows", "letters", "wanted"] (defScope s_parts_at) := ⟨rfl, rfl, rfl, by decide +kernel, rfl, by decide +kernel, by decide +kernel⟩
abbrev s_are_between : Stmt := topS 15
theorem sc_are_between : FnScope ["value", "least", "most", "number"] ["value", "least", "most"] (defScope s_are_between) := ⟨rfl, rfl, rfl, by decide +kernel, rfl, by decide +kernel, by decide +kernel⟩
abbrev s_check_number : Stmt := topS 16
theorem sc_check_number : FnScope ["value", "least", "most"] ["value", "least", "most"] (defScope s_check_number) := ⟨rfl, rfl, rfl, by decide +kernel, rfl, by decide +kernel, by decide +kernel⟩
abbrev s_joined_lot : Stmt := topS 22
theorem sc_joined_lot : FnScope ["one", "other"] ["one", "other"] (defScope s_joined_lot) := ⟨rfl, rfl, rfl, by decide +kernel, rfl, by decide +kernel, by decide +kernel⟩
abbrev s_rest_lot : Stmt := topS 23
theorem sc_rest_lot : FnScope ["one", "other", "letter"] ["one", "other"] (defScope s_rest_lot) := ⟨rfl, rfl, rfl, by decide +kernel, rfl, by decide +kernel, by decide +kernel⟩
abbrev s_lots_within : Stmt := topS 25
theorem sc_lots_within : FnScope ["lot", "found", "letter", "lesser"] ["lot"] (defScope s_lots_within) := ⟨rfl, rfl, rfl, by decide +kernel, rfl, by decide +kernel, by decide +kernel⟩
abbrev s_lots_on : Stmt := topS 26
theorem sc_lots_on : FnScope ["lots", "lot", "letter"] ["lots"] (defScope s_lots_on) := ⟨rfl, rfl, rfl, by decide +kernel, rfl, by decide +kernel, by decide +kernel⟩
abbrev s_is_within : Stmt := topS 24
theorem sc_is_within : FnScope ["one", "other"] ["one", "other"] (defScope s_is_within) := ⟨rfl, rfl, rfl, by decide +kernel, rfl, by decide +kernel, by decide +kernel⟩
abbrev s_has_form : Stmt := topS 36
theorem sc_has_form : FnScope ["lot", "value", "number", "some"] ["lot", "value"] (defScope s_has_form) := ⟨rfl, rfl, rfl, by decide +kernel, rfl, by decide +kernel, by decide +kernel⟩
abbrev s_basic_gains : Stmt := topS 37
theorem sc_basic_gains : FnScope ["lot", "gains", "i", "j", "some", "one", "other"] ["lot"] (defScope s_basic_gains) := ⟨rfl, rfl, rfl, by decide +kernel, rfl, by decide +kernel, by decide +kernel⟩
abbrev s_step_times : Stmt := topS 39
theorem sc_step_times : FnScope ["lot", "rank", "some", "total", "lesser", "added"] ["lot", "rank", "some"] (defScope s_step_times) := ⟨rfl, rfl, rfl, by decide +kernel, rfl, by decide +kernel, by decide +kernel⟩
abbrev s_is_row : Stmt := topS 42
theorem sc_is_row : FnScope ["lot", "value"] ["lot", "value"] (defScope s_is_row) := ⟨rfl, rfl, rfl, by decide +kernel, rfl, by decide +kernel, by decide +kernel⟩
abbrev s_check_p_and_d : Stmt := topS 61
theorem sc_check_p_and_d : FnScope ["p", "D"] ["p", "D"] (defScope s_check_p_and_d) := ⟨rfl, rfl, rfl, by decide +kernel, rfl, by decide +kernel, by decide +kernel⟩
abbrev s_are_vectors : Stmt := topS 65
theorem sc_are_vectors : FnScope ["lot", "value", "some"] ["lot", "value"] (defScope s_are_vectors) := ⟨rfl, rfl, rfl, by decide +kernel, rfl, by decide +kernel, by decide +kernel⟩
abbrev s_Question_init : Stmt := inClass (topS 54) 0
theorem sc_Question_init : FnScope ["self", "lot", "parts", "part"] ["self", "lot", "parts"] (defScope s_Question_init) := ⟨rfl, rfl, rfl, by decide +kernel, rfl, by decide +kernel, by decide +kernel⟩
abbrev s_is_lot_within : Stmt := topS 28
theorem sc_is_lot_within : FnScope ["lot", "value"] ["lot", "value"] (defScope s_is_lot_within) := ⟨rfl, rfl, rfl, by decide +kernel, rfl, by decide +kernel, by decide +kernel⟩
abbrev s_is_step_up : Stmt := topS 29
theorem sc_is_step_up : FnScope ["low", "high"] ["low", "high"] (defScope s_is_step_up) := ⟨rfl, rfl, rfl, by decide +kernel, rfl, by decide +kernel, by decide +kernel⟩
abbrev s_rank_fault : Stmt := topS 35
theorem sc_rank_fault : FnScope ["lot", "value", "place", "gain", "some", "times"] ["lot", "value"] (defScope s_rank_fault) := ⟨rfl, rfl, rfl, by decide +kernel, rfl, by decide +kernel, by decide +kernel⟩
abbrev s_check_lots_of : Stmt := topS 47
theorem sc_check_lots_of : FnScope ["table", "lots", "lot", "lesser", "greater"] ["table", "lots"] (defScope s_check_lots_of) := ⟨rfl, rfl, rfl, by decide +kernel, rfl, by decide +kernel, by decide +kernel⟩
abbrev s_check_vectors : Stmt := topS 66
theorem sc_check_vectors : FnScope ["lot", "value"] ["lot", "value"] (defScope s_check_vectors) := ⟨rfl, rfl, rfl, by decide +kernel, rfl, by decide +kernel, by decide +kernel⟩
abbrev s_Table_init : Stmt := inClass (topS 44) 0
theorem sc_Table_init : FnScope ["self", "lot", "rows", "row"] ["self", "lot", "rows"] (defScope s_Table_init) := ⟨rfl, rfl, rfl, by decide +kernel, rfl, by decide +kernel, by decide +kernel⟩
abbrev s_check_rank : Stmt := topS 34
theorem sc_check_rank : FnScope ["lot", "value"] ["lot", "value"] (defScope s_check_rank) := ⟨rfl, rfl, rfl, by decide +kernel, rfl, by decide +kernel, by decide +kernel⟩
abbrev s_is_told_degree : Stmt := topS 59
theorem sc_is_told_degree : FnScope ["lot", "value", "low", "high"] ["lot", "value"] (defScope s_is_told_degree) := ⟨rfl, rfl, rfl, by decide +kernel, rfl, by decide +kernel, by decide +kernel⟩
abbrev s_vector_rank : Stmt := topS 67
theorem sc_vector_rank : FnScope ["lot", "vectors", "at", "some", "letter", "vector"] ["lot", "vectors"] (defScope s_vector_rank) := ⟨rfl, rfl, rfl, by decide +kernel, rfl, by decide +kernel, by decide +kernel⟩
abbrev s_step_vectors : Stmt := topS 71
theorem sc_step_vectors : FnScope ["lot", "counts", "owners", "some", "_", "letter", "many", "source"] ["lot", "counts"] (defScope s_step_vectors) := ⟨rfl, rfl, rfl, by decide +kernel, rfl, by decide +kernel, by decide +kernel⟩
abbrev s_beside : Stmt := topS 72
theorem sc_beside : FnScope ["lot", "one", "other", "needed", "both", "first", "second", "some", "vector"] ["lot", "one", "other"] (defScope s_beside) := ⟨rfl, rfl, rfl, by decide +kernel, rfl, by decide +kernel, by decide +kernel⟩
abbrev s_table_of : Stmt := topS 45
theorem sc_table_of : FnScope ["lot", "rows", "table", "known", "row"] ["lot", "rows"] (defScope s_table_of) := ⟨rfl, rfl, rfl, by decide +kernel, rfl, by decide +kernel, by decide +kernel⟩
abbrev s_is_told : Stmt := topS 58
theorem sc_is_told : FnScope ["lot", "value", "one"] ["lot", "value"] (defScope s_is_told) := ⟨rfl, rfl, rfl, by decide +kernel, rfl, by decide +kernel, by decide +kernel⟩
abbrev s_step_counts : Stmt := topS 74
theorem sc_step_counts : FnScope ["lot", "rank", "some"] ["lot", "rank"] (defScope s_step_counts) := ⟨rfl, rfl, rfl, by decide +kernel, rfl, by decide +kernel, by decide +kernel⟩
abbrev s_project : Stmt := topS 50
theorem sc_project : FnScope ["table", "lot"] ["table", "lot"] (defScope s_project) := ⟨rfl, rfl, rfl, by decide +kernel, rfl, by decide +kernel, by decide +kernel⟩
abbrev s_check_told : Stmt := topS 60
theorem sc_check_told : FnScope ["lot", "value"] ["lot", "value"] (defScope s_check_told) := ⟨rfl, rfl, rfl, by decide +kernel, rfl, by decide +kernel, by decide +kernel⟩
abbrev s_made_table : Stmt := topS 69
theorem sc_made_table : FnScope ["lot", "vectors", "rank", "rows", "source", "turned", "row", "some", "vector", "number", "bits"] ["lot", "vectors"] (defScope s_made_table) := ⟨rfl, rfl, rfl, by decide +kernel, rfl, by decide +kernel, by decide +kernel⟩
abbrev s_reaching : Stmt := topS 75
theorem sc_reaching : FnScope ["lot", "lots", "vectors", "table", "some"] ["lot", "lots", "vectors"] (defScope s_reaching) := ⟨rfl, rfl, rfl, by decide +kernel, rfl, by decide +kernel, by decide +kernel⟩
abbrev s_is_reached : Stmt := topS 76
theorem sc_is_reached : FnScope ["lot", "told", "vectors", "p", "D", "rank", "low", "high", "k"] ["lot", "told", "vectors", "p", "D"] (defScope s_is_reached) := ⟨rfl, rfl, rfl, by decide +kernel, rfl, by decide +kernel, by decide +kernel⟩
abbrev s_law_right : Stmt := topS 83
theorem sc_law_right : FnScope ["turn", "none", "bad", "wrong", "counts", "ranks", "rank", "lots", "told", "told_words", "due", "call", "lot", "good", "p", "D"] ["turn"] (defScope s_law_right) := ⟨rfl, rfl, rfl, by decide +kernel, rfl, by decide +kernel, by decide +kernel⟩
abbrev s_law : Stmt := topS 84
theorem sc_law : FnScope ["script", "spot", "told", "shift", "turn", "lot", "powers"] ["script"] (defScope s_law) := ⟨rfl, rfl, rfl, by decide +kernel, rfl, by decide +kernel, by decide +kernel⟩
def sub0 : Sub
  | 1, 1 => some true
  | 1, 2 => some false
  | 1, 3 => some false
  | 1, 4 => some false
  | 1, 5 => some false
  | 1, 6 => some false
  | 1, 7 => some false
  | 1, 8 => some false
  | 2, 1 => some false
  | 2, 2 => some true
  | 2, 3 => some false
  | 2, 4 => some false
  | 2, 5 => some false
  | 2, 6 => some false
  | 2, 7 => some false
  | 2, 8 => some false
  | 3, 1 => some false
  | 3, 2 => some false
  | 3, 3 => some true
  | 3, 4 => some false
  | 3, 5 => some false
  | 3, 6 => some false
  | 3, 7 => some false
  | 3, 8 => some false
  | 4, 1 => some false
  | 4, 2 => some false
  | 4, 3 => some false
  | 4, 4 => some true
  | 4, 5 => some false
  | 4, 6 => some false
  | 4, 7 => some false
  | 4, 8 => some false
  | 5, 1 => some false
  | 5, 2 => some false
  | 5, 3 => some false
  | 5, 4 => some false
  | 5, 5 => some true
  | 5, 6 => some false
  | 5, 7 => some false
  | 5, 8 => some false
  | 6, 1 => some false
  | 6, 2 => some false
  | 6, 3 => some false
  | 6, 4 => some false
  | 6, 5 => some false
  | 6, 6 => some true
  | 6, 7 => some false
  | 6, 8 => some false
  | 7, 1 => some false
  | 7, 2 => some false
  | 7, 3 => some false
  | 7, 4 => some false
  | 7, 5 => some false
  | 7, 6 => some false
  | 7, 7 => some true
  | 7, 8 => some false
  | 8, 1 => some false
  | 8, 2 => some false
  | 8, 3 => some false
  | 8, 4 => some false
  | 8, 5 => some false
  | 8, 6 => some false
  | 8, 7 => some false
  | 8, 8 => some true
  | _, _ => none
def fine_law_met : Dt := (.str "fine")
def cat_law_met : Cat := catB sub0 [(1, none, (fun _ _ => some (.str "lot"))), (4, none, (fun _ _ => some (.str "rank"))), (5, none, (fun _ _ => some (.str "told"))), (6, none, (fun _ _ => some (.str "operation"))), (7, some 1, (hvAdd (fun _ _ => some (.str "number ")) (hvRepr (hvGiven 7)))), (8, some 1, (hvAdd (fun _ _ => some (.str "many ")) (hvRepr (hvGiven 8))))]
def at_Uknown : Nat → Option Nat
  | 9 => some 1
  | _ => none
def at_lot : Nat → Option Nat
  | 9 => some 0
  | 10 => some 0
  | _ => none
def at_rows : Nat → Option Nat
  | 9 => some 2
  | _ => none
def tcN : Nat → Option Bool
  | 9 => some false
  | 10 => some false
  | _ => none
def tc_Table : Nat → Option Bool
  | 9 => some true
  | 10 => some false
  | _ => none
def ms_Table : Msk := mkOwn tc_Table
def ms_bool : Msk := mkBool tcN
def ms_dict : Msk := mkDict tcN
def ms_int : Msk := mkInt tcN
def ms_tuple : Msk := mkTuple tcN
def m_is_integer : Sx := (sRt (mAndV (mOp1 (dIsM ms_int) (mLoc 0)) (mNotV (mOp1 (dIsM ms_bool) (mLoc 0)))))
def q_is_integer : Pf := toP (fnSem 1 m_is_integer)
def f_is_integer : Fs := pur q_is_integer
def m_is_lot : Sx := (sSeq (sIf (mbNot (mbV (mOp1 (dIsM ms_tuple) (mLoc 0)))) (sRt (mLit (.bl false))) sNx) (sSeq (sSet 1 (mOp1 dNeg (mLit (.int 1)))) (sSeq (sFor (miSeq (mLoc 0)) (.n 2) (sSeq (sIf (mbOr (mbNot (mbV (mOp1 (dIsM ms_int) (mLoc 2)))) (mbOr (mbV (mOp1 (dIsM ms_bool) (mLoc 2))) (mbNot (mbV (mChain dLt dLe (mLoc 1) (mLoc 2) (mLit (.int 5))))))) (sRt (mLit (.bl false))) sNx) (sSet 1 (mLoc 2)))) (sRt (mLit (.bl true))))))
def q_is_lot : Pf := toP (fnSem 3 m_is_lot)
def f_is_lot : Fs := pur q_is_lot
def m_gain : Sx := (sSeq (sSet 2 (mOwnD (mdDc (miSeq (mLoc 0)) (.n 3) [3] mbYes (mLoc 3) (mLit (.int 1))))) (sSeq (sFor (miSeq (mLoc 1)) (.n 3) (sSetD (mLoc 2) (mLoc 3) (mOp1 dNeg (mLit (.int 1))))) (sRt (mFzD (mdDc (miSeq (mFz (mPr dSrtA (maCons (mLoc 2) maNil)))) (.n 3) [3] (mbV (mOp2 dNe (mLoc 3) (mPure dTup maNil))) (mLoc 3) (mOp2 dGetD (mLoc 2) (mLoc 3)))))))
def q_gain : Pf := toP (fnSem 4 m_gain)
def f_gain : Fs := pur q_gain
def m_check_table : Sx := (sIf (mbNot (mbV (mOp1 (dIsM ms_Table) (mLoc 0)))) (fun env S => .exc 2 .non env S) sNx)
def q_check_table : Pf := toP (fnSem 1 m_check_table)
def f_check_table : Fs := pur q_check_table
def m_part_at : Sx := (sRt (mPrV dTuple (maCons (mFz (miLc (miSeq (mLoc 1)) (.n 2) [2] mbYes (mOp2 dIx (mLoc 0) (mLoc 2)))) maNil)))
def q_part_at : Pf := toP (fnSem 3 m_part_at)
def f_part_at : Fs := pur q_part_at
def m_are_tables : Sx := (sSeq (sIf (mbOr (mbNot (mbV (mOp1 (dIsM ms_tuple) (mLoc 0)))) (mbV (mOp2 dGt (mPrV dLen (maCons (mLoc 0) maNil)) (mLit (.int 12))))) (sRt (mLit (.bl false))) sNx) (sRt (mPrV dAll (maCons (mFz (miLc (miSeq (mLoc 0)) (.n 1) [1] mbYes (mOp1 (dIsM ms_Table) (mLoc 1)))) maNil))))
def q_are_tables : Pf := toP (fnSem 2 m_are_tables)
def f_are_tables : Fs := pur q_are_tables
def m_rank_of : Sx := (sSeq (sSet 1 (mOwn (mPure dLst maNil))) (sSeq (sFor (miSeq (mLoc 0)) (.n 2) (sSeq (sSet 3 (mLoc 2)) (sSeq (sForX (mLoc 1) (.n 4) (sSet 3 (mPrV (dI2 fMin) (maCons (mLoc 3) (maCons (mOp2 dXor (mLoc 3) (mLoc 4)) maNil))))) (sIf (mbV (mOp2 dGt (mLoc 3) (mLit (.int 0)))) (sEx (mApp (mLoc 1) (maCons (mLoc 3) maNil))) sNx)))) (sRt (mPrV dLen (maCons (mLoc 1) maNil)))))
def q_rank_of : Pf := toP (fnSem 5 m_rank_of)
def f_rank_of : Fs := pur q_rank_of
def m_said_by : Sx := (sRt (mPrV dSum (maCons (mFz (miLc (miEn (maCons (mLoc 0) maNil)) (.t [2, 3]) [2, 3] mbYes (mOp2 dShl (mOp2 dOdd (mOp2 dShr (mLoc 3) (mLoc 1)) (mLit (.int 1))) (mLoc 2)))) maNil)))
def q_said_by : Pf := toP (fnSem 4 m_said_by)
def f_said_by : Fs := pur q_said_by
def m_sources_of : Sx := (sRt (mMaxL 0 (mFz (miLc2 (miSeq (mLoc 0)) (.n 1) [1, 2] mbYes (miSeq (mLoc 1)) (.n 2) [2] mbYes (mOp1 dBits (mLoc 2))))))
def q_sources_of : Pf := toP (fnSem 3 m_sources_of)
def f_sources_of : Fs := pur q_sources_of
def m_law_jug : Sx := (sSeq (sSet 2 (mIf (mbV (mOp2 dLt (mLoc 1) (mPrV dLen (maCons (mLoc 0) maNil)))) (mPrV dInt (maCons (mOp2 dIx (mLoc 0) (mLoc 1)) maNil)) (mOp2 dAdd (mOp2 dMul (mLit (.int 271)) (mLoc 1)) (mLit (.int 59))))) (sSeq (sSet 3 (mOp2 dMod (mPrV dInt (maCons (mPrV (dI1 fAbs) (maCons (mLoc 2) maNil)) maNil)) (mOp2 dPow (mOp2 dPow (mLit (.int 10)) (mLit (.int 51))) (mLit (.int 7))))) (sSeq (sSet 4 (mPrV dInt (maCons (mOp2 dAdd (mOp2 dAdd (mOp2 dAdd (mOp2 dMul (mOp2 dMod (mLoc 3) (mLit (.int 2305843009213693907))) (mLit (.int 71))) (mOp2 dMul (mLit (.int 4099)) (mLoc 1))) (mOp2 dMul (mLit (.int 37)) (mPrV dInt (maCons (mOp2 dLt (mLoc 2) (mLit (.int 0))) maNil)))) (mLit (.int 67))) maNil))) (sRt (mOwn (mPure dLst (maCons (mPrV (dI2 fMax) (maCons (mLit (.int 0)) (maCons (mOp2 dSub (mLoc 3) (mOp2 dPow (mLit (.int 10)) (mLit (.int 16)))) maNil))) (maCons (mOp2 dMod (mLoc 4) (mLit (.int 2305843009213693951))) (maCons (mLit (.int 0)) maNil)))))))))
def q_law_jug : Pl := toPL (fnSemF 5 m_law_jug)
def f_law_jug : Fl := purL q_law_jug
def m_law_poured : Sx := (sSeq (sIf (mbV (mOp2 dGt (mOp2 dIx (mLoc 0) (mLit (.int 0))) (mLit (.int 0)))) (sSeq (sSet 4 (mOp2 dMod (mPrV dInt (maCons (mOp2 dIx (mLoc 0) (mLit (.int 0))) maNil)) (mLoc 1))) (sSeq (sSetI (mLoc 0) (mLit (.int 0)) (mOp2 dFdiv (mOp2 dIx (mLoc 0) (mLit (.int 0))) (mLoc 1))) (sRt (mLoc 4)))) sNx) (sSeq (sSetI (mLoc 0) (mLit (.int 2)) (mOp2 dAdd (mOp2 dIx (mLoc 0) (mLit (.int 2))) (mLit (.int 1)))) (sSeq (sSet 2 (mOp2 dMod (mPrV dInt (maCons (mOp2 dAdd (mOp2 dIx (mLoc 0) (mLit (.int 1))) (mOp2 dMul (mLit (.int 32452843)) (mOp2 dIx (mLoc 0) (mLit (.int 2))))) maNil)) (mLit (.int 2305843009213693951)))) (sSeq (sSet 3 (mOp2 dAdd (mOp2 dAdd (mOp2 dMul (mOp2 dMod (mPrV dInt (maCons (mOp2 dAdd (mOp2 dMul (mLoc 2) (mLoc 2)) (mLit (.int 49979687))) maNil)) (mLit (.int 2305843009213693921))) (mLit (.int 67867967))) (mLoc 2)) (mOp2 dMul (mLit (.int 23)) (mOp2 dIx (mLoc 0) (mLit (.int 2)))))) (sRt (mOp2 dMod (mPrV dInt (maCons (mOp2 dFdiv (mLoc 3) (mLit (.int 65539))) maNil)) (mLoc 1)))))))
def f_law_poured : Fs := fnSem 5 m_law_poured
def m_law_bt_turned : Sx := (sRt (mOp2 dIx (mLoc 0) (mOp2 dMod (mPrV dInt (maCons (mLoc 1) maNil)) (mPrV dLen (maCons (mLoc 0) maNil)))))
def q_law_bt_turned : Pf := toP (fnSem 2 m_law_bt_turned)
def f_law_bt_turned : Fs := pur q_law_bt_turned
def m_law_bt_powers : Sx := (sRt (mOwn (mPure dLst (maCons (mLit (.int 1)) (maCons (mLit (.int 2)) (maCons (mLit (.int 4)) (maCons (mLit (.int 8)) (maCons (mLit (.int 16)) (maCons (mLit (.int 32)) (maCons (mLit (.int 64)) (maCons (mLit (.int 128)) (maCons (mLit (.int 256)) (maCons (mLit (.int 512)) (maCons (mLit (.int 1024)) (maCons (mLit (.int 2048)) maNil)))))))))))))))
def q_law_bt_powers : Pl := toPL (fnSemF 0 m_law_bt_powers)
def f_law_bt_powers : Fl := purL q_law_bt_powers
def m_is_between : Sx := (sRt (mAndV (mCall f_is_integer 1 [] (maCons (mLoc 0) maNil)) (mChain dLe dLe (mLoc 1) (mLoc 0) (mLoc 2))))
def q_is_between : Pf := toP (fnSem 3 m_is_between)
def f_is_between : Fs := pur q_is_between
def m_are_lots : Sx := (sRt (mAndV (mOp1 (dIsM ms_tuple) (mLoc 0)) (mPrV dAll (maCons (mFz (miLc (miSeq (mLoc 0)) (.n 1) [1] mbYes (mCall f_is_lot 1 [] (maCons (mLoc 1) maNil)))) maNil))))
def q_are_lots : Pf := toP (fnSem 2 m_are_lots)
def f_are_lots : Fs := pur q_are_lots
def m_check_lot : Sx := (sIf (mbNot (mbV (mCall f_is_lot 1 [] (maCons (mLoc 0) maNil)))) (fun env S => .exc 1 .non env S) sNx)
def q_check_lot : Pf := toP (fnSem 1 m_check_lot)
def f_check_lot : Fs := pur q_check_lot
def m_check_rank_lot : Sx := (sIf (mbOr (mbNot (mbV (mCall f_is_lot 1 [] (maCons (mLoc 0) maNil)))) (mbV (mOp2 dGt (mPrV dLen (maCons (mLoc 0) maNil)) (mLit (.int 5))))) (fun env S => .exc 1 .non env S) sNx)
def q_check_rank_lot : Pf := toP (fnSem 1 m_check_rank_lot)
def f_check_rank_lot : Fs := pur q_check_rank_lot
def m_parts_at : Sx := (sSeq (sSet 3 (mFz (miLc (miSeq (mLoc 2)) (.n 4) [4] mbYes (mIdx (mLoc 1) (mLoc 4))))) (sSeq (sIf (mbV (mOp2 dEq (mLoc 3) (mFz (miLR (mPrV dLen (maCons (mLoc 1) maNil)))))) (sRt (mFz (mPr dListA (maCons (mLoc 0) maNil)))) sNx) (sRt (mFz (miLc (miSeq (mLoc 0)) (.n 5) [5] mbYes (mCall f_part_at 2 [] (maCons (mLoc 5) (maCons (mLoc 3) maNil))))))))
def q_parts_at : Pf := toP (fnSem 6 m_parts_at)
def f_parts_at : Fs := pur q_parts_at
def m_are_between : Sx := (sRt (mAndV (mOp1 (dIsM ms_tuple) (mLoc 0)) (mPrV dAll (maCons (mFz (miLc (miSeq (mLoc 0)) (.n 3) [3] mbYes (mCall f_is_between 3 [] (maCons (mLoc 3) (maCons (mLoc 1) (maCons (mLoc 2) maNil)))))) maNil))))
def q_are_between : Pf := toP (fnSem 4 m_are_between)
def f_are_between : Fs := pur q_are_between
def m_check_number : Sx := (sIf (mbNot (mbV (mCall f_is_between 3 [] (maCons (mLoc 0) (maCons (mLoc 1) (maCons (mLoc 2) maNil)))))) (sRaiseI 7 (mLoc 0)) sNx)
def q_check_number : Pf := toP (fnSem 3 m_check_number)
def f_check_number : Fs := pur q_check_number
def m_joined_lot : Sx := (sSeq (sEx (mCall f_check_lot 1 [] (maCons (mLoc 0) maNil))) (sSeq (sEx (mCall f_check_lot 1 [] (maCons (mLoc 1) maNil))) (sRt (mPrV dTuple (maCons (mFz (mPr dSS (maCons (mOp2 dAdd (mLoc 0) (mLoc 1)) maNil))) maNil)))))
def q_joined_lot : Pf := toP (fnSem 2 m_joined_lot)
def f_joined_lot : Fs := pur q_joined_lot
def m_rest_lot : Sx := (sSeq (sEx (mCall f_check_lot 1 [] (maCons (mLoc 0) maNil))) (sSeq (sEx (mCall f_check_lot 1 [] (maCons (mLoc 1) maNil))) (sRt (mPrV dTuple (maCons (mFz (miLc (miSeq (mLoc 0)) (.n 2) [2] (mbV (mOp2 (dIn true) (mLoc 2) (mLoc 1))) (mLoc 2))) maNil)))))
def q_rest_lot : Pf := toP (fnSem 3 m_rest_lot)
def f_rest_lot : Fs := pur q_rest_lot
def m_lots_within : Sx := (sSeq (sEx (mCall f_check_lot 1 [] (maCons (mLoc 0) maNil))) (sSeq (sSet 1 (mFz (mPure dLst (maCons (mPure dTup maNil) maNil)))) (sSeq (sFor (miSeq (mLoc 0)) (.n 2) (sSet 1 (mOp2 dAdd (mLoc 1) (mFz (miLc (miSeq (mLoc 1)) (.n 3) [3] mbYes (mOp2 dAdd (mLoc 3) (mPure dTup (maCons (mLoc 2) maNil)))))))) (sRt (mPrV dTuple (maCons (mFz (mPr dSrtA (maCons (mLoc 1) maNil))) maNil))))))
def q_lots_within : Pf := toP (fnSem 4 m_lots_within)
def f_lots_within : Fs := pur q_lots_within
def m_lots_on : Sx := (sSeq (sIf (mbNot (mbV (mCall f_are_lots 1 [] (maCons (mLoc 0) maNil)))) (fun env S => .exc 6 .non env S) sNx) (sRt (mPrV dTuple (maCons (mFz (mPr dSS (maCons (mFz (miLc2 (miSeq (mLoc 0)) (.n 1) [1, 2] mbYes (miSeq (mLoc 1)) (.n 2) [2] mbYes (mLoc 2))) maNil))) maNil))))
def q_lots_on : Pf := toP (fnSem 3 m_lots_on)
def f_lots_on : Fs := pur q_lots_on
def m_is_within : Sx := (sRt (mOp2 dEq (mCall f_rest_lot 2 [] (maCons (mLoc 0) (maCons (mLoc 1) maNil))) (mPure dTup maNil)))
def q_is_within : Pf := toP (fnSem 2 m_is_within)
def f_is_within : Fs := pur q_is_within
def m_has_form : Sx := (sSeq (sIf (mbOr (mbNot (mbV (mOp1 (dIsM ms_dict) (mLoc 1)))) (mbNot (mbV (mPrV dAll (maCons (mFz (miLc (miKeysG (mLoc 1)) (.n 3) [3] mbYes (mCall f_is_lot 1 [] (maCons (mLoc 3) maNil)))) maNil))))) (sRt (mLit (.bl false))) sNx) (sRt (mAndV (mOp2 dEq (mPrV dTuple (maCons (mFz (mPr dSrtA (maCons (mLoc 1) maNil))) maNil)) (mCall f_lots_within 1 [] (maCons (mLoc 0) maNil))) (mPrV dAll (maCons (mFz (miLc (miValsD (mLoc 1)) (.n 2) [2] mbYes (mCall f_is_integer 1 [] (maCons (mLoc 2) maNil)))) maNil)))))
def q_has_form : Pf := toP (fnSem 4 m_has_form)
def f_has_form : Fs := pur q_has_form
def m_basic_gains : Sx := (sSeq (sSet 1 (mOwn (miLc (miSeq (mLoc 0)) (.n 2) [2] mbYes (mPure dTup (maCons (mPure dTup (maCons (mLit (.str "rise")) (maCons (mLoc 2) maNil))) (maCons (mCall f_gain 2 [] (maCons (mFz (mPure dLst (maCons (mLoc 0) maNil))) (maCons (mFz (mPure dLst (maCons (mCall f_rest_lot 2 [] (maCons (mLoc 0) (maCons (mPure dTup (maCons (mLoc 2) maNil)) maNil))) maNil))) maNil))) maNil)))))) (sSeq (sFor (miSeq (mLoc 0)) (.n 2) (sFor (miSeq (mCall f_rest_lot 2 [] (maCons (mLoc 0) (maCons (mTupR (mOp2 dAdd (mLoc 2) (mLit (.int 1)))) maNil)))) (.n 3) (sFor (miSeq (mCall f_lots_within 1 [] (maCons (mCall f_rest_lot 2 [] (maCons (mLoc 0) (maCons (mPure dTup (maCons (mLoc 2) (maCons (mLoc 3) maNil))) maNil))) maNil))) (.n 4) (sSeq (sPar2 5 6 (maCons (mCall f_joined_lot 2 [] (maCons (mLoc 4) (maCons (mPure dTup (maCons (mLoc 2) maNil)) maNil))) (maCons (mCall f_joined_lot 2 [] (maCons (mLoc 4) (maCons (mPure dTup (maCons (mLoc 3) maNil)) maNil))) maNil))) (sEx (mApp (mLoc 1) (maCons (mPure dTup (maCons (mPure dTup (maCons (mLit (.str "cross")) (maCons (mLoc 2) (maCons (mLoc 3) (maCons (mLoc 4) maNil))))) (maCons (mCall f_gain 2 [] (maCons (mFz (mPure dLst (maCons (mLoc 5) (maCons (mLoc 6) maNil)))) (maCons (mFz (mPure dLst (maCons (mLoc 4) (maCons (mCall f_joined_lot 2 [] (maCons (mLoc 5) (maCons (mLoc 6) maNil))) maNil)))) maNil))) maNil))) maNil))))))) (sRt (mLoc 1))))
def q_basic_gains : Pl := toPL (fnSemF 7 m_basic_gains)
def f_basic_gains : Fl := purL q_basic_gains
def m_step_times : Sx := (sSeq (sSet 3 (mLit (.int 0))) (sSeq (sFor (miSeq (mCall f_lots_within 1 [] (maCons (mLoc 2) maNil))) (.n 4) (sSeq (sSet 5 (mOp2 dSub (mOp2 dGetD (mLoc 1) (mLoc 0)) (mOp2 dGetD (mLoc 1) (mCall f_rest_lot 2 [] (maCons (mLoc 0) (maCons (mLoc 4) maNil)))))) (sSet 3 (mOp2 dAdd (mLoc 3) (mIf (mbV (mOp2 dEq (mOp2 dOdd (mOp2 dSub (mPrV dLen (maCons (mLoc 2) maNil)) (mPrV dLen (maCons (mLoc 4) maNil))) (mLit (.int 1))) (mLit (.int 0)))) (mLoc 5) (mOp1 dNeg (mLoc 5))))))) (sRt (mLoc 3))))
def q_step_times : Pf := toP (fnSem 6 m_step_times)
def f_step_times : Fs := pur q_step_times
def m_is_row : Sx := (sSeq (sEx (mCall f_check_lot 1 [] (maCons (mLoc 0) maNil))) (sRt (mAndV (mCall f_are_between 3 [] (maCons (mLoc 1) (maCons (mOp1 dNeg (mLit (.int 999999999))) (maCons (mLit (.int 999999999)) maNil)))) (mOp2 dEq (mPrV dLen (maCons (mLoc 1) maNil)) (mPrV dLen (maCons (mLoc 0) maNil))))))
def q_is_row : Pf := toP (fnSem 2 m_is_row)
def f_is_row : Fs := pur q_is_row
def m_check_p_and_d : Sx := (sSeq (sEx (mCall f_check_number 3 [.int 999999999] (maCons (mLoc 0) (maCons (mLit (.int 0)) maNil)))) (sEx (mCall f_check_number 3 [.int 999999999] (maCons (mLoc 1) (maCons (mLit (.int 1)) maNil)))))
def q_check_p_and_d : Pf := toP (fnSem 2 m_check_p_and_d)
def f_check_p_and_d : Fs := pur q_check_p_and_d
def m_are_vectors : Sx := (sSeq (sEx (mCall f_check_rank_lot 1 [] (maCons (mLoc 0) maNil))) (sSeq (sIf (mbOr (mbNot (mbV (mOp1 (dIsM ms_tuple) (mLoc 1)))) (mbV (mOp2 dNe (mPrV dLen (maCons (mLoc 1) maNil)) (mPrV dLen (maCons (mLoc 0) maNil))))) (sRt (mLit (.bl false))) sNx) (sRt (mPrV dAll (maCons (mFz (miLc (miSeq (mLoc 1)) (.n 2) [2] mbYes (mAndV (mCall f_are_between 3 [] (maCons (mLoc 2) (maCons (mLit (.int 0)) (maCons (mOp2 dSub (mOp2 dShl (mLit (.int 1)) (mLit (.int 12))) (mLit (.int 1))) maNil)))) (mOp2 dLe (mPrV dLen (maCons (mLoc 2) maNil)) (mLit (.int 12)))))) maNil)))))
def q_are_vectors : Pf := toP (fnSem 3 m_are_vectors)
def f_are_vectors : Fs := pur q_are_vectors
def m_Question_init : Sx := (sSeq (sEx (mCall f_check_lot 1 [] (maCons (mLoc 1) maNil))) (sSeq (sIf (mbOr (mbNot (mbV (mCall f_are_tables 1 [] (maCons (mLoc 2) maNil)))) (mbV (mOp2 dNe (mCall f_lots_on 1 [] (maCons (mPrV dTuple (maCons (mFz (miLc (miSeq (mLoc 2)) (.n 3) [3] mbYes (mOp1 (dAtt at_lot) (mLoc 3)))) maNil)) maNil)) (mLoc 1)))) (fun env S => .exc 3 .non env S) sNx) (sSeq (sSetF 10 0 (mLoc 0) (mLoc 1)) (sSeq (sSetF 10 1 (mLoc 0) (mLoc 2)) (sSeq (sSetF 10 2 (mLoc 0) (mPrV dTuple (maCons (mFz (miLc (miSeq (mLoc 2)) (.n 3) [3] mbYes (mOp1 (dAtt at_lot) (mLoc 3)))) maNil))) (sSetF 10 3 (mLoc 0) (mPrV dTuple (maCons (mFz (miLc (miSeq (mLoc 2)) (.n 3) [3] mbYes (mPrV dLen (maCons (mLoc 3) maNil)))) maNil))))))))
def f_Question_init : Fs := fnSem 4 m_Question_init
def m_is_lot_within : Sx := (sRt (mAndV (mCall f_is_lot 1 [] (maCons (mLoc 1) maNil)) (mCall f_is_within 2 [] (maCons (mLoc 1) (maCons (mLoc 0) maNil)))))
def q_is_lot_within : Pf := toP (fnSem 2 m_is_lot_within)
def f_is_lot_within : Fs := pur q_is_lot_within
def m_is_step_up : Sx := (sRt (mAndV (mOp2 dNe (mLoc 0) (mLoc 1)) (mCall f_is_within 2 [] (maCons (mLoc 0) (maCons (mLoc 1) maNil)))))
def q_is_step_up : Pf := toP (fnSem 2 m_is_step_up)
def f_is_step_up : Fs := pur q_is_step_up
def m_rank_fault : Sx := (sSeq (sEx (mCall f_check_rank_lot 1 [] (maCons (mLoc 0) maNil))) (sSeq (sIf (mbNot (mbV (mCall f_has_form 2 [] (maCons (mLoc 0) (maCons (mLoc 1) maNil))))) (sRt (mPure dTup (maCons (mLit (.str "form")) maNil))) sNx) (sSeq (sIf (mbV (mOp2 dNe (mOp2 dGetD (mLoc 1) (mPure dTup maNil)) (mLit (.int 0)))) (sRt (mPure dTup (maCons (mLit (.str "empty")) maNil))) sNx) (sSeq (sFor (miSeq (mFz (mCallF f_basic_gains 1 [] (maCons (mLoc 0) maNil)))) (.t [2, 3]) (sIf (mbV (mOp2 dLt (mPrV dSum (maCons (mFz (miLc (miItemsD (mLoc 3)) (.t [4, 5]) [4, 5] mbYes (mOp2 dMul (mOp2 dGetD (mLoc 1) (mLoc 4)) (mLoc 5)))) maNil)) (mLit (.int 0)))) (sRt (mLoc 2)) sNx)) (sRt (mLit .non))))))
def q_rank_fault : Pf := toP (fnSem 6 m_rank_fault)
def f_rank_fault : Fs := pur q_rank_fault
def m_check_lots_of : Sx := (sSeq (sEx (mCall f_check_table 1 [] (maCons (mLoc 0) maNil))) (sSeq (sFor (miSeq (mLoc 1)) (.n 2) (sEx (mCall f_check_lot 1 [] (maCons (mLoc 2) maNil)))) (sFor (miZp (maCons (mLoc 1) (maCons (mOp2 dAdd (mSlT (mLoc 1) (moSome (mLit (.int 1))) moNo) (mPure dTup (maCons (mOp1 (dAtt at_lot) (mLoc 0)) maNil))) maNil))) (.t [3, 4]) (sIf (mbNot (mbV (mCall f_is_within 2 [] (maCons (mLoc 3) (maCons (mLoc 4) maNil))))) (fun env S => .exc 6 .non env S) sNx))))
def q_check_lots_of : Pf := toP (fnSem 5 m_check_lots_of)
def f_check_lots_of : Fs := pur q_check_lots_of
def m_check_vectors : Sx := (sIf (mbNot (mbV (mCall f_are_vectors 2 [] (maCons (mLoc 0) (maCons (mLoc 1) maNil))))) (fun env S => .exc 6 .non env S) sNx)
def q_check_vectors : Pf := toP (fnSem 2 m_check_vectors)
def f_check_vectors : Fs := pur q_check_vectors
def m_Table_init : Sx := (sSeq (sEx (mCall f_check_lot 1 [] (maCons (mLoc 1) maNil))) (sSeq (sIf (mbOr (mbNot (mbV (mOp1 (dIsM ms_tuple) (mLoc 2)))) (mbOr (mbV (mOp2 dGt (mPrV dLen (maCons (mLoc 2) maNil)) (mLit (.int 1000)))) (mbNot (mbV (mPrV dAll (maCons (mFz (miLc (miSeq (mLoc 2)) (.n 3) [3] mbYes (mCall f_is_row 2 [] (maCons (mLoc 1) (maCons (mLoc 3) maNil))))) maNil)))))) (fun env S => .exc 2 .non env S) sNx) (sSeq (sSetF 9 0 (mLoc 0) (mLoc 1)) (sSeq (sSetF 9 1 (mLoc 0) (mFzD (mdDc (miSeq (mLoc 2)) (.n 3) [3] mbYes (mLoc 3) (mLit (.bl true))))) (sSetF 9 2 (mLoc 0) (mPrV dTuple (maCons (mFz (mPr dSrtA (maCons (mOp1 (dAtt at_Uknown) (mLoc 0)) maNil))) maNil)))))))
def f_Table_init : Fs := fnSem 4 m_Table_init
def m_check_rank : Sx := (sIf (mbV (mOp1 (dIsN true) (mCall f_rank_fault 2 [] (maCons (mLoc 0) (maCons (mLoc 1) maNil))))) (fun env S => .exc 4 .non env S) sNx)
def q_check_rank : Pf := toP (fnSem 2 m_check_rank)
def f_check_rank : Fs := pur q_check_rank
def m_is_told_degree : Sx := (sSeq (sIf (mbOr (mbNot (mbV (mOp1 (dIsM ms_tuple) (mLoc 1)))) (mbOr (mbV (mOp2 dNe (mPrV dLen (maCons (mLoc 1) maNil)) (mLit (.int 3)))) (mbNot (mbV (mCall f_is_between 3 [] (maCons (mOp2 dIx (mLoc 1) (mLit (.int 2))) (maCons (mLit (.int 0)) (maCons (mLit (.int 20)) maNil)))))))) (sRt (mLit (.bl false))) sNx) (sSeq (sSetT [2, 3] (mSlT (mLoc 1) moNo (moSome (mLit (.int 2))))) (sRt (mAndV (mCall f_is_lot_within 2 [] (maCons (mLoc 0) (maCons (mLoc 2) maNil))) (mAndV (mCall f_is_lot_within 2 [] (maCons (mLoc 0) (maCons (mLoc 3) maNil))) (mCall f_is_step_up 2 [] (maCons (mLoc 2) (maCons (mLoc 3) maNil))))))))
def q_is_told_degree : Pf := toP (fnSem 4 m_is_told_degree)
def f_is_told_degree : Fs := pur q_is_told_degree
def m_vector_rank : Sx := (sSeq (sEx (mCall f_check_vectors 2 [] (maCons (mLoc 0) (maCons (mLoc 1) maNil)))) (sSeq (sSet 2 (mDz (maCons (mLoc 0) (maCons (mLoc 1) maNil)))) (sRt (mFzD (mdDc (miSeq (mCall f_lots_within 1 [] (maCons (mLoc 0) maNil))) (.n 3) [3] mbYes (mLoc 3) (mCall f_rank_of 1 [] (maCons (mFz (miLc2 (miSeq (mLoc 3)) (.n 4) [4, 5] mbYes (miSeq (mOp2 dGetD (mLoc 2) (mLoc 4))) (.n 5) [5] mbYes (mLoc 5))) maNil)))))))
def q_vector_rank : Pf := toP (fnSem 6 m_vector_rank)
def f_vector_rank : Fs := pur q_vector_rank
def m_step_vectors : Sx := (sSeq (sEx (mCall f_check_rank_lot 1 [] (maCons (mLoc 0) maNil))) (sSeq (sIf (mbOr (mbNot (mbV (mOp1 (dIsM ms_dict) (mLoc 1)))) (mbNot (mbV (mPrV dAll (maCons (mFz (miLc (miKeysG (mLoc 1)) (.n 3) [3] mbYes (mAndV (mCall f_is_lot_within 2 [] (maCons (mLoc 0) (maCons (mLoc 3) maNil))) (mOp2 dNe (mLoc 3) (mPure dTup maNil))))) maNil))))) (fun env S => .exc 6 .non env S) sNx) (sSeq (sIf (mbNot (mbV (mPrV dAll (maCons (mFz (miLc (miValsD (mLoc 1)) (.n 6) [6] mbYes (mCall f_is_between 3 [] (maCons (mLoc 6) (maCons (mLit (.int 0)) (maCons (mLit (.int 999999999)) maNil)))))) maNil)))) (fun env S => .exc 6 .non env S) sNx) (sSeq (sIf (mbV (mOp2 dGt (mSumV (mLoc 1)) (mLit (.int 12)))) (sRaiseI 8 (mLit (.int 12))) sNx) (sSeq (sSet 2 (mFz (miLc2 (miSeq (mFz (mPr dSrtA (maCons (mLoc 1) maNil)))) (.n 3) [3, 4] mbYes (miR1 (maCons (mOp2 dGetD (mLoc 1) (mLoc 3)) maNil)) (.n 4) [4] mbYes (mLoc 3)))) (sRt (mPrV dTuple (maCons (mFz (miLc (miSeq (mLoc 0)) (.n 5) [5] mbYes (mPrV dTuple (maCons (mFz (miLc (miEn (maCons (mLoc 2) maNil)) (.t [7, 3]) [7, 3] (mbV (mOp2 (dIn false) (mLoc 5) (mLoc 3))) (mOp2 dShl (mLit (.int 1)) (mLoc 7)))) maNil)))) maNil))))))))
def q_step_vectors : Pf := toP (fnSem 8 m_step_vectors)
def f_step_vectors : Fs := pur q_step_vectors
def m_beside : Sx := (sSeq (sEx (mCall f_check_vectors 2 [] (maCons (mLoc 0) (maCons (mLoc 1) maNil)))) (sSeq (sEx (mCall f_check_vectors 2 [] (maCons (mLoc 0) (maCons (mLoc 2) maNil)))) (sSeq (sSet 3 (mCall f_sources_of 1 [] (maCons (mLoc 1) maNil))) (sSeq (sIf (mbV (mOp2 dGt (mOp2 dAdd (mLoc 3) (mCall f_sources_of 1 [] (maCons (mLoc 2) maNil))) (mLit (.int 12)))) (sRaiseI 8 (mLit (.int 12))) sNx) (sSeq (sSet 4 (mPrV dTuple (maCons (mFz (miLc (miZp (maCons (mLoc 1) (maCons (mLoc 2) maNil))) (.t [5, 6]) [5, 6] mbYes (mOp2 dAdd (mLoc 5) (mPrV dTuple (maCons (mFz (miLc (miSeq (mLoc 6)) (.n 8) [8] mbYes (mOp2 dShl (mLoc 8) (mLoc 3)))) maNil))))) maNil))) (sSeq (sIf (mbNot (mbV (mPrV dAll (maCons (mFz (miLc (miSeq (mLoc 4)) (.n 7) [7] mbYes (mOp2 dLe (mPrV dLen (maCons (mLoc 7) maNil)) (mLit (.int 12))))) maNil)))) (sRaiseI 8 (mLit (.int 12))) sNx) (sRt (mLoc 4))))))))
def q_beside : Pf := toP (fnSem 9 m_beside)
def f_beside : Fs := pur q_beside
def m_table_of : Sx := (sSeq (sSet 2 (mMkO 9 3 f_Table_init 2 (maCons (mLoc 0) (maCons (mPure dTup maNil) maNil)))) (sSeq (sSet 3 (mFzD (mdDc (miSeq (mLoc 1)) (.n 4) [4] mbYes (mLoc 4) (mLit (.bl true))))) (sSeq (sSetF 9 1 (mLoc 2) (mLoc 3)) (sSeq (sSetF 9 2 (mLoc 2) (mPrV dTuple (maCons (mFz (mPr dSrtA (maCons (mLoc 3) maNil))) maNil))) (sRt (mLoc 2))))))
def q_table_of : Pf := toP (fnSem 5 m_table_of)
def f_table_of : Fs := pur q_table_of
def m_is_told : Sx := (sSeq (sEx (mCall f_check_lot 1 [] (maCons (mLoc 0) maNil))) (sSeq (sIf (mbOr (mbNot (mbV (mOp1 (dIsM ms_tuple) (mLoc 1)))) (mbV (mOp2 dGt (mPrV dLen (maCons (mLoc 1) maNil)) (mLit (.int 20))))) (sRt (mLit (.bl false))) sNx) (sRt (mPrV dAll (maCons (mFz (miLc (miSeq (mLoc 1)) (.n 2) [2] mbYes (mCall f_is_told_degree 2 [] (maCons (mLoc 0) (maCons (mLoc 2) maNil))))) maNil)))))
def q_is_told : Pf := toP (fnSem 3 m_is_told)
def f_is_told : Fs := pur q_is_told
def m_step_counts : Sx := (sSeq (sEx (mCall f_check_rank 2 [] (maCons (mLoc 0) (maCons (mLoc 1) maNil)))) (sRt (mFzD (mdDc (miSeq (mCall f_lots_within 1 [] (maCons (mLoc 0) maNil))) (.n 2) [2] (mbV (mOp2 dNe (mLoc 2) (mPure dTup maNil))) (mLoc 2) (mCall f_step_times 3 [] (maCons (mLoc 0) (maCons (mLoc 1) (maCons (mLoc 2) maNil))))))))
def q_step_counts : Pf := toP (fnSem 3 m_step_counts)
def f_step_counts : Fs := pur q_step_counts
def m_project : Sx := (sSeq (sEx (mCall f_check_lots_of 2 [] (maCons (mLoc 0) (maCons (mPure dTup (maCons (mLoc 1) maNil)) maNil)))) (sRt (mCall f_table_of 2 [] (maCons (mLoc 1) (maCons (mCall f_parts_at 3 [] (maCons (mOp1 (dAtt at_rows) (mLoc 0)) (maCons (mOp1 (dAtt at_lot) (mLoc 0)) (maCons (mLoc 1) maNil)))) maNil)))))
def q_project : Pf := toP (fnSem 2 m_project)
def f_project : Fs := pur q_project
def m_check_told : Sx := (sIf (mbNot (mbV (mCall f_is_told 2 [] (maCons (mLoc 0) (maCons (mLoc 1) maNil))))) (fun env S => .exc 5 .non env S) sNx)
def q_check_told : Pf := toP (fnSem 2 m_check_told)
def f_check_told : Fs := pur q_check_told
def m_made_table : Sx := (sSeq (sEx (mCall f_check_vectors 2 [] (maCons (mLoc 0) (maCons (mLoc 1) maNil)))) (sSeq (sSet 2 (mCall f_rank_of 1 [] (maCons (mFz (miLc2 (miSeq (mLoc 1)) (.n 7) [7, 8] mbYes (miSeq (mLoc 7)) (.n 8) [8] mbYes (mLoc 8))) maNil))) (sSeq (sIf (mbV (mOp2 dGt (mOp2 dShl (mLit (.int 1)) (mLoc 2)) (mLit (.int 1000)))) (sRaiseI 8 (mLit (.int 1000))) sNx) (sSeq (sSet 3 (mOwnD (mdDisp [((mOp2 dMul (mPure dTup (maCons (mLit (.int 0)) maNil)) (mPrV dLen (maCons (mLoc 0) maNil))), (mLit (.bl true)))]))) (sSeq (sFor (miR1 (maCons (mLit (.int 12)) maNil)) (.n 4) (sSeq (sSet 5 (mFz (miLc (miSeq (mLoc 1)) (.n 7) [7] mbYes (mCall f_said_by 2 [] (maCons (mLoc 7) (maCons (mLoc 4) maNil)))))) (sFor (miSeq (mFz (mPr dListA (maCons (mLoc 3) maNil)))) (.n 6) (sSetD (mLoc 3) (mPrV dTuple (maCons (mFz (miLc (miZp (maCons (mLoc 6) (maCons (mLoc 5) maNil))) (.t [9, 10]) [9, 10] mbYes (mOp2 dXor (mLoc 9) (mLoc 10)))) maNil)) (mLit (.bl true)))))) (sRt (mCall f_table_of 2 [] (maCons (mLoc 0) (maCons (mFz (mPr dListA (maCons (mLoc 3) maNil))) maNil)))))))))
def q_made_table : Pf := toP (fnSem 11 m_made_table)
def f_made_table : Fs := pur q_made_table
def m_reaching : Sx := (sSeq (sEx (mCall f_check_rank_lot 1 [] (maCons (mLoc 0) maNil))) (sSeq (sIf (mbOr (mbNot (mbV (mCall f_are_lots 1 [] (maCons (mLoc 1) maNil)))) (mbNot (mbV (mChain dLe dLe (mLit (.int 1)) (mPrV dLen (maCons (mLoc 1) maNil)) (mLit (.int 12)))))) (fun env S => .exc 1 .non env S) sNx) (sSeq (sEx (mCall f_check_vectors 2 [] (maCons (mLoc 0) (maCons (mLoc 2) maNil)))) (sSeq (sIf (mbV (mOp2 dNe (mCall f_lots_on 1 [] (maCons (mLoc 1) maNil)) (mLoc 0))) (fun env S => .exc 6 .non env S) sNx) (sSeq (sSet 3 (mCall f_made_table 2 [] (maCons (mLoc 0) (maCons (mLoc 2) maNil)))) (sRt (mMk 10 4 f_Question_init 2 (maCons (mLoc 0) (maCons (mPrV dTuple (maCons (mFz (miLc (miSeq (mLoc 1)) (.n 4) [4] mbYes (mCall f_project 2 [] (maCons (mLoc 3) (maCons (mLoc 4) maNil))))) maNil)) maNil)))))))))
def q_reaching : Pf := toP (fnSem 5 m_reaching)
def f_reaching : Fs := pur q_reaching
def m_is_reached : Sx := (sSeq (sEx (mCall f_check_rank_lot 1 [] (maCons (mLoc 0) maNil))) (sSeq (sEx (mCall f_check_told 2 [] (maCons (mLoc 0) (maCons (mLoc 1) maNil)))) (sSeq (sEx (mCall f_check_vectors 2 [] (maCons (mLoc 0) (maCons (mLoc 2) maNil)))) (sSeq (sEx (mCall f_check_p_and_d 2 [] (maCons (mLoc 3) (maCons (mLoc 4) maNil)))) (sSeq (sSet 5 (mCall f_vector_rank 2 [] (maCons (mLoc 0) (maCons (mLoc 2) maNil)))) (sRt (mAndV (mOp2 dEq (mOp2 dMul (mLoc 4) (mOp2 dGetD (mLoc 5) (mLoc 0))) (mLoc 3)) (mPrV dAll (maCons (mFz (miLc (miSeq (mLoc 1)) (.t [6, 7, 8]) [6, 7, 8] mbYes (mOp2 dLe (mOp2 dSub (mOp2 dGetD (mLoc 5) (mLoc 7)) (mOp2 dGetD (mLoc 5) (mLoc 6))) (mLoc 8)))) maNil)))))))))
def q_is_reached : Pf := toP (fnSem 9 m_is_reached)
def f_is_reached : Fs := pur q_is_reached
def tbl2 : Nat → Option (Nat × Fs)
  | 0 => some (2, f_made_table)
  | 1 => some (2, f_vector_rank)
  | _ => none
def m_law_right : Sx := (sSeq (sSetT [12, 13] (mPure dTup (maCons (mPure dTup (maCons (mLit (.int 0)) (maCons (mLit (.int 2)) maNil))) (maCons (mPure dTup (maCons (mPure dTup (maCons (mLit (.int 1)) maNil)) (maCons (mPure dTup (maCons (mLit (.int 3)) maNil)) maNil))) maNil)))) (sSeq (sSet 1 (mCall f_law_bt_turned 2 [] (maCons (mFz (mPure dLst (maCons (mLit .non) (maCons (mLit (.int 0)) (maCons (mFz (mPure dLst (maCons (mLit (.int 0)) maNil))) (maCons (mPure dTup (maCons (mLit (.int 2)) (maCons (mLit (.int 0)) maNil))) (maCons (mPure dTup (maCons (mLit (.int 0)) (maCons (mLit (.int 0)) maNil))) (maCons (mPure dTup (maCons (mLit (.int 6)) maNil)) (maCons (mPure dTup (maCons (mOp1 dNeg (mLit (.int 1))) maNil)) (maCons (mPure dTup (maCons (mLit (.bl true)) maNil)) (maCons (mPure dTup (maCons (mLit (.str "0")) maNil)) (maCons (mFzD mdNil) (maCons (mPure dTup (maCons (mLit (.int 0)) (maCons (mLit (.int 1)) (maCons (mLit (.int 2)) (maCons (mLit (.int 3)) (maCons (mLit (.int 4)) (maCons (mLit (.int 5)) maNil))))))) maNil))))))))))))) (maCons (mLoc 0) maNil)))) (sSeq (sSet 2 (mCall f_law_bt_turned 2 [] (maCons (mFz (mPure dLst (maCons (mLit .non) (maCons (mPure dTup maNil) (maCons (mPure dTup (maCons (mPure dTup (maCons (mLit (.int 1)) maNil)) maNil)) (maCons (mFz (mPure dLst (maCons (mPure dTup (maCons (mLit (.int 1)) maNil)) (maCons (mPure dTup (maCons (mLit (.int 3)) maNil)) maNil)))) (maCons (mPure dTup (maCons (mPure dTup (maCons (mLit (.int 1)) maNil)) (maCons (mLit (.int 3)) maNil))) (maCons (mPure dTup (maCons (mPure dTup (maCons (mLit (.int 1)) maNil)) (maCons (mPure dTup (maCons (mLit (.int 4096)) maNil)) maNil))) (maCons (mPure dTup (maCons (mPure dTup (maCons (mOp1 dNeg (mLit (.int 1))) maNil)) (maCons (mPure dTup maNil) maNil))) (maCons (mPure dTup (maCons (mPure dTup (maCons (mLit (.bl true)) maNil)) (maCons (mPure dTup maNil) maNil))) (maCons (mFzD mdNil) (maCons (mLit (.str "v")) maNil)))))))))))) (maCons (mLoc 0) maNil)))) (sSeq (sSet 3 (mFz (mPure dLst (maCons (mLit .non) (maCons (mFz (mPure dLst maNil)) (maCons (mFzD (mdDisp [((mPure dTup maNil), (mLit (.int 1)))])) (maCons (mFzD (mdDisp [((mPure dTup (maCons (mLit (.int 1)) maNil)), (mLit (.int 1)))])) (maCons (mFzD (mdDisp [((mPure dTup (maCons (mLit (.int 0)) maNil)), (mOp1 dNeg (mLit (.int 1))))])) (maCons (mFzD (mdDisp [((mPure dTup (maCons (mLit (.int 0)) maNil)), (mLit (.bl true)))])) (maCons (mFzD (mdDisp [((mPure dTup (maCons (mLit (.int 0)) maNil)), (mLit (.str "1")))])) (maCons (mFzD (mdDisp [((mPure dTup (maCons (mLit (.int 2)) (maCons (mLit (.int 0)) maNil))), (mLit (.int 1)))])) (maCons (mDctK [((mLit (.int 0)), (mLit (.int 1)))]) (maCons (mFzD (mdDisp [((mPure dTup (maCons (mLit (.int 0)) maNil)), (mOp2 dPow (mLit (.int 10)) (mLit (.int 9))))])) maNil))))))))))))) (sSeq (sSet 4 (mCall f_law_bt_turned 2 [] (maCons (mLoc 3) (maCons (mLoc 0) maNil)))) (sSeq (sSet 5 (mFz (mPure dLst (maCons (mLit .non) (maCons (mFzD mdNil) (maCons (mFzD (mdDisp [((mPure dTup maNil), (mLit (.int 0)))])) (maCons (mFzD (mdDisp [((mPure dTup maNil), (mLit (.int 1))), ((mPure dTup (maCons (mLit (.int 0)) maNil)), (mLit (.int 1))), ((mPure dTup (maCons (mLit (.int 0)) (maCons (mLit (.int 2)) maNil))), (mLit (.int 2))), ((mPure dTup (maCons (mLit (.int 2)) maNil)), (mLit (.int 2)))])) (maCons (mFzD (mdDisp [((mPure dTup maNil), (mLit (.int 0))), ((mPure dTup (maCons (mLit (.int 0)) maNil)), (mLit (.int 2))), ((mPure dTup (maCons (mLit (.int 0)) (maCons (mLit (.int 2)) maNil))), (mLit (.int 1))), ((mPure dTup (maCons (mLit (.int 2)) maNil)), (mLit (.int 1)))])) (maCons (mPure dTup maNil) maNil))))))))) (sSeq (sSet 6 (mCall f_law_bt_turned 2 [] (maCons (mOp2 dAdd (mLoc 5) (mFz (mPure dLst (maCons (mFzD (mdDisp [((mPure dTup maNil), (mLit (.int 0))), ((mPure dTup (maCons (mLit (.int 0)) maNil)), (mLit (.int 1))), ((mPure dTup (maCons (mLit (.int 0)) (maCons (mLit (.int 2)) maNil))), (mLit (.int 3))), ((mPure dTup (maCons (mLit (.int 2)) maNil)), (mLit (.int 1)))])) (maCons (mFzD (mdDisp [((mPure dTup maNil), (mLit (.int 0))), ((mPure dTup (maCons (mLit (.int 0)) maNil)), (mLit (.int 1))), ((mPure dTup (maCons (mLit (.int 0)) (maCons (mLit (.int 1)) maNil))), (mLit (.int 1))), ((mPure dTup (maCons (mLit (.int 1)) maNil)), (mLit (.int 1)))])) maNil))))) (maCons (mLoc 0) maNil)))) (sSeq (sSet 7 (mCall f_law_bt_turned 2 [] (maCons (mFz (mPure dLst (maCons (mLit .non) (maCons (mPure dTup maNil) (maCons (mFz (mPure dLst (maCons (mPure dTup (maCons (mLit (.int 0)) (maCons (mLit (.int 2)) maNil))) maNil))) (maCons (mPure dTup (maCons (mPure dTup (maCons (mLit (.int 0)) (maCons (mLit (.int 2)) maNil))) (maCons (mPure dTup (maCons (mLit (.int 2)) (maCons (mLit (.int 0)) maNil))) maNil))) (maCons (mPure dTup (maCons (mLit (.int 0)) (maCons (mLit (.int 2)) maNil))) (maCons (mOp2 dMul (mPure dTup (maCons (mPure dTup (maCons (mLit (.int 0)) maNil)) maNil)) (mLit (.int 13))) (maCons (mPure dTup (maCons (mPure dTup (maCons (mLit (.int 0)) (maCons (mLit (.int 7)) maNil))) maNil)) (maCons (mFzD mdNil) maNil)))))))))) (maCons (mLoc 0) maNil)))) (sSeq (sSet 8 (mCall f_law_bt_turned 2 [] (maCons (mFz (mPure dLst (maCons (mLit .non) (maCons (mFz (mPure dLst maNil)) (maCons (mPure dTup (maCons (mPure dTup (maCons (mPure dTup maNil) (maCons (mPure dTup (maCons (mLit (.int 0)) maNil)) (maCons (mLit (.int 21)) maNil)))) maNil)) (maCons (mPure dTup (maCons (mPure dTup (maCons (mPure dTup maNil) (maCons (mPure dTup (maCons (mLit (.int 0)) maNil)) (maCons (mOp1 dNeg (mLit (.int 1))) maNil)))) maNil)) (maCons (mPure dTup (maCons (mPure dTup (maCons (mPure dTup (maCons (mLit (.int 0)) maNil)) (maCons (mPure dTup (maCons (mLit (.int 0)) maNil)) (maCons (mLit (.int 1)) maNil)))) maNil)) (maCons (mPure dTup (maCons (mPure dTup (maCons (mPure dTup maNil) (maCons (mPure dTup (maCons (mLit (.int 1)) maNil)) (maCons (mLit (.int 1)) maNil)))) maNil)) (maCons (mPure dTup (maCons (mPure dTup (maCons (mPure dTup maNil) (maCons (mPure dTup (maCons (mLit (.int 0)) maNil)) maNil))) maNil)) (maCons (mFzD mdNil) maNil)))))))))) (maCons (mLoc 0) maNil)))) (sSeq (sSetT [14, 15] (mPure dTup (maCons (mCall f_law_bt_turned 2 [] (maCons (mFz (mPure dLst (maCons (mLit .non) (maCons (mOp1 dNeg (mLit (.int 1))) (maCons (mLit (.bl true)) (maCons (mLit (.str "1")) (maCons (mPure dTup (maCons (mLit (.int 1)) maNil)) (maCons (mOp2 dPow (mLit (.int 10)) (mLit (.int 9))) maNil)))))))) (maCons (mLoc 0) maNil))) (maCons (mCall f_law_bt_turned 2 [] (maCons (mFz (mPure dLst (maCons (mLit .non) (maCons (mLit (.int 0)) (maCons (mOp1 dNeg (mLit (.int 1))) (maCons (mLit (.bl true)) (maCons (mLit (.str "1")) (maCons (mOp2 dPow (mLit (.int 10)) (mLit (.int 9))) maNil)))))))) (maCons (mLoc 0) maNil))) maNil)))) (sSeq (sSet 9 (mOwn (mPure dLst (maCons (mCat (mCall f_are_vectors 2 [] (maCons (mLoc 1) (maCons (mLoc 2) maNil))) fine_law_met cat_law_met) maNil)))) (sSeq (sSet 10 (mFz (mPure dLst (maCons (mLit (.str "lot")) maNil)))) (sSeq (sFor (miSeq (mPure dTup (maCons (mLit (.fn 1)) (maCons (mLit (.fn 0)) maNil)))) (.n 11) (sSeq (sEx (mApp (mLoc 9) (maCons (mCat (mCallL 11 tbl2 (maCons (mLoc 1) (maCons (mLoc 2) maNil))) fine_law_met cat_law_met) maNil))) (sSeq (sEx (mApp (mLoc 9) (maCons (mCat (mCallL 11 tbl2 (maCons (mLoc 12) (maCons (mLoc 2) maNil))) fine_law_met cat_law_met) maNil))) (sSeq (sEx (mApp (mLoc 9) (maCons (mCat (mCallL 11 tbl2 (maCons (mLoc 12) (maCons (mLoc 13) maNil))) fine_law_met cat_law_met) maNil))) (sSet 10 (mOp2 dAdd (mLoc 10) (mFz (mPure dLst (maCons (mLit (.str "lot")) (maCons (mLit (.str "operation")) (maCons (mLit (.str "fine")) maNil))))))))))) (sSeq (sEx (mApp (mLoc 9) (maCons (mCat (mCall f_step_vectors 2 [] (maCons (mLoc 1) (maCons (mLoc 4) maNil))) fine_law_met cat_law_met) maNil))) (sSeq (sEx (mApp (mLoc 9) (maCons (mCat (mCall f_step_vectors 2 [] (maCons (mLoc 12) (maCons (mLoc 4) maNil))) fine_law_met cat_law_met) maNil))) (sSeq (sEx (mApp (mLoc 9) (maCons (mCat (mCall f_step_counts 2 [] (maCons (mLoc 1) (maCons (mLoc 6) maNil))) fine_law_met cat_law_met) maNil))) (sSeq (sEx (mApp (mLoc 9) (maCons (mCat (mCall f_step_counts 2 [] (maCons (mLoc 12) (maCons (mLoc 6) maNil))) fine_law_met cat_law_met) maNil))) (sSeq (sEx (mApp (mLoc 9) (maCons (mCat (mCall f_beside 3 [] (maCons (mLoc 1) (maCons (mLoc 2) (maCons (mLoc 2) maNil)))) fine_law_met cat_law_met) maNil))) (sSeq (sEx (mApp (mLoc 9) (maCons (mCat (mCall f_beside 3 [] (maCons (mLoc 12) (maCons (mLoc 2) (maCons (mLoc 13) maNil)))) fine_law_met cat_law_met) maNil))) (sSeq (sEx (mApp (mLoc 9) (maCons (mCat (mCall f_beside 3 [] (maCons (mLoc 12) (maCons (mLoc 13) (maCons (mLoc 2) maNil)))) fine_law_met cat_law_met) maNil))) (sSeq (sSet 10 (mOp2 dAdd (mLoc 10) (mFz (mPure dLst (maCons (mLit (.str "lot")) (maCons (mLit (.str "operation")) (maCons (mLit (.str "lot")) (maCons (mLit (.str "rank")) (maCons (mLit (.str "lot")) (maCons (mLit (.str "operation")) (maCons (mLit (.str "operation")) maNil))))))))))) (sSeq (sEx (mApp (mLoc 9) (maCons (mCat (mCall f_reaching 3 [] (maCons (mLoc 1) (maCons (mLoc 7) (maCons (mLoc 2) maNil)))) fine_law_met cat_law_met) maNil))) (sSeq (sEx (mApp (mLoc 9) (maCons (mCat (mCall f_reaching 3 [] (maCons (mLoc 12) (maCons (mLoc 7) (maCons (mLoc 2) maNil)))) fine_law_met cat_law_met) maNil))) (sSeq (sEx (mApp (mLoc 9) (maCons (mCat (mCall f_reaching 3 [] (maCons (mLoc 12) (maCons (mPure dTup (maCons (mPure dTup (maCons (mLit (.int 0)) (maCons (mLit (.int 2)) maNil))) maNil)) (maCons (mLoc 2) maNil)))) fine_law_met cat_law_met) maNil))) (sSeq (sEx (mApp (mLoc 9) (maCons (mCat (mCall f_reaching 3 [] (maCons (mLoc 12) (maCons (mPure dTup (maCons (mPure dTup (maCons (mLit (.int 0)) maNil)) (maCons (mPure dTup maNil) maNil))) (maCons (mLoc 13) maNil)))) fine_law_met cat_law_met) maNil))) (sSeq (sEx (mApp (mLoc 9) (maCons (mCat (mCall f_reaching 3 [] (maCons (mLoc 12) (maCons (mPure dTup (maCons (mPure dTup (maCons (mLit (.int 0)) (maCons (mLit (.int 2)) maNil))) (maCons (mPure dTup (maCons (mLit (.int 1)) maNil)) maNil))) (maCons (mLoc 13) maNil)))) fine_law_met cat_law_met) maNil))) (sSeq (sSet 10 (mOp2 dAdd (mLoc 10) (mFz (mPure dLst (maCons (mLit (.str "lot")) (maCons (mLit (.str "lot")) (maCons (mLit (.str "operation")) (maCons (mLit (.str "operation")) (maCons (mLit (.str "operation")) maNil))))))))) (sSeq (sEx (mApp (mLoc 9) (maCons (mCat (mCall f_is_reached 5 [] (maCons (mLoc 1) (maCons (mLoc 8) (maCons (mLoc 2) (maCons (mLoc 14) (maCons (mLoc 15) maNil)))))) fine_law_met cat_law_met) maNil))) (sSeq (sEx (mApp (mLoc 9) (maCons (mCat (mCall f_is_reached 5 [] (maCons (mLoc 12) (maCons (mLoc 8) (maCons (mLoc 2) (maCons (mLoc 14) (maCons (mLoc 15) maNil)))))) fine_law_met cat_law_met) maNil))) (sSeq (sEx (mApp (mLoc 9) (maCons (mCat (mCall f_is_reached 5 [] (maCons (mLoc 12) (maCons (mPure dTup maNil) (maCons (mLoc 2) (maCons (mLoc 14) (maCons (mLoc 15) maNil)))))) fine_law_met cat_law_met) maNil))) (sSeq (sEx (mApp (mLoc 9) (maCons (mCat (mCall f_is_reached 5 [] (maCons (mLoc 12) (maCons (mPure dTup maNil) (maCons (mLoc 13) (maCons (mLoc 14) (maCons (mLoc 15) maNil)))))) fine_law_met cat_law_met) maNil))) (sSeq (sEx (mApp (mLoc 9) (maCons (mCat (mCall f_is_reached 5 [] (maCons (mLoc 12) (maCons (mPure dTup maNil) (maCons (mLoc 13) (maCons (mLit (.int 2)) (maCons (mLoc 15) maNil)))))) fine_law_met cat_law_met) maNil))) (sSeq (sSet 10 (mOp2 dAdd (mLoc 10) (mFz (mPure dLst (maCons (mLit (.str "lot")) (maCons (mLit (.str "told")) (maCons (mLit (.str "operation")) (maCons (mOp2 dAdd (mLit (.str "number ")) (mPrV dReprL (maCons (mLoc 14) maNil))) (maCons (mOp2 dAdd (mLit (.str "number ")) (mPrV dReprL (maCons (mLoc 15) maNil))) maNil))))))))) (sRt (mAndV (mOp2 dEq (mLoc 9) (mLoc 10)) (mNotV (mCall f_are_vectors 2 [] (maCons (mLoc 12) (maCons (mLoc 2) maNil)))))))))))))))))))))))))))))))))))))))
def q_law_right : Pf := toP (fnSem 16 m_law_right)
def f_law_right : Fs := pur q_law_right
def m_law : Sx := (sSeq (sFor (miR1 (maCons (mPrV (dI2 fMax) (maCons (mLit (.int 1)) (maCons (mPrV (dI2 fMin) (maCons (mLit (.int 2)) (maCons (mPrV dLen (maCons (mLoc 0) maNil)) maNil))) maNil))) maNil)) (.n 1) (sSeq (sSet 3 (mCall f_law_poured 2 [] (maCons (mOwn (mCallF f_law_jug 2 [] (maCons (mLoc 0) (maCons (mLoc 1) maNil)))) (maCons (mLit (.int 1000)) maNil)))) (sFor (miR1 (maCons (mLit (.int 12)) maNil)) (.n 4) (sIf (mbNot (mbV (mCall f_law_right 1 [] (maCons (mOp2 dAdd (mLoc 3) (mLoc 4)) maNil)))) (sRt (mLit (.bl false))) sNx)))) (sSeq (sSetT [5, 6] (mPure dTup (maCons (mPure dTup (maCons (mLit (.int 0)) (maCons (mLit (.int 2)) maNil))) (maCons (mPrV dTuple (maCons (mFz (mCallF f_law_bt_powers 0 [] maNil)) maNil)) maNil)))) (sSeq (sSet 2 (mOwn (mPure dLst (maCons (mCat (mCall f_step_vectors 2 [] (maCons (mLoc 5) (maCons (mFzD (mdDisp [((mPure dTup (maCons (mLit (.int 0)) maNil)), (mLit (.int 12)))])) maNil))) fine_law_met cat_law_met) maNil)))) (sSeq (sEx (mApp (mLoc 2) (maCons (mCat (mCall f_step_vectors 2 [] (maCons (mLoc 5) (maCons (mFzD (mdDisp [((mPure dTup (maCons (mLit (.int 0)) maNil)), (mLit (.int 6))), ((mPure dTup (maCons (mLit (.int 0)) (maCons (mLit (.int 2)) maNil))), (mLit (.int 7)))])) maNil))) fine_law_met cat_law_met) maNil))) (sSeq (sEx (mApp (mLoc 2) (maCons (mCat (mCall f_beside 3 [] (maCons (mLoc 5) (maCons (mPure dTup (maCons (mSlT (mLoc 6) moNo (moSome (mLit (.int 6)))) (maCons (mPure dTup maNil) maNil))) (maCons (mPure dTup (maCons (mSlT (mLoc 6) moNo (moSome (mLit (.int 6)))) (maCons (mPure dTup maNil) maNil))) maNil)))) fine_law_met cat_law_met) maNil))) (sSeq (sEx (mApp (mLoc 2) (maCons (mCat (mCall f_beside 3 [] (maCons (mLoc 5) (maCons (mPure dTup (maCons (mSlT (mLoc 6) moNo (moSome (mLit (.int 6)))) (maCons (mPure dTup maNil) maNil))) (maCons (mPure dTup (maCons (mSlT (mLoc 6) moNo (moSome (mLit (.int 7)))) (maCons (mPure dTup maNil) maNil))) maNil)))) fine_law_met cat_law_met) maNil))) (sSeq (sEx (mApp (mLoc 2) (maCons (mCat (mCall f_beside 3 [] (maCons (mLoc 5) (maCons (mPure dTup (maCons (mOp2 dMul (mPure dTup (maCons (mLit (.int 1)) maNil)) (mLit (.int 7))) (maCons (mPure dTup maNil) maNil))) (maCons (mPure dTup (maCons (mOp2 dMul (mPure dTup (maCons (mLit (.int 1)) maNil)) (mLit (.int 6))) (maCons (mPure dTup maNil) maNil))) maNil)))) fine_law_met cat_law_met) maNil))) (sSeq (sEx (mApp (mLoc 2) (maCons (mCat (mCall f_beside 3 [] (maCons (mLoc 5) (maCons (mPure dTup (maCons (mOp2 dMul (mPure dTup (maCons (mLit (.int 1)) maNil)) (mLit (.int 6))) (maCons (mPure dTup maNil) maNil))) (maCons (mPure dTup (maCons (mOp2 dMul (mPure dTup (maCons (mLit (.int 0)) maNil)) (mLit (.int 6))) (maCons (mPure dTup (maCons (mLit (.int 2048)) maNil)) maNil))) maNil)))) fine_law_met cat_law_met) maNil))) (sSeq (sEx (mApp (mLoc 2) (maCons (mCat (mCall f_made_table 2 [] (maCons (mLoc 5) (maCons (mPure dTup (maCons (mSlT (mLoc 6) moNo (moSome (mLit (.int 5)))) (maCons (mSlT (mLoc 6) (moSome (mLit (.int 4))) (moSome (mLit (.int 10)))) maNil))) maNil))) fine_law_met cat_law_met) maNil))) (sSeq (sEx (mApp (mLoc 2) (maCons (mCat (mCall f_reaching 3 [] (maCons (mLoc 5) (maCons (mPure dTup (maCons (mPure dTup (maCons (mLit (.int 0)) maNil)) (maCons (mPure dTup (maCons (mLit (.int 2)) maNil)) maNil))) (maCons (mPure dTup (maCons (mSlT (mLoc 6) moNo (moSome (mLit (.int 5)))) (maCons (mSlT (mLoc 6) (moSome (mLit (.int 4))) (moSome (mLit (.int 10)))) maNil))) maNil)))) fine_law_met cat_law_met) maNil))) (sSeq (sEx (mApp (mLoc 2) (maCons (mCat (mCall f_made_table 2 [] (maCons (mLoc 5) (maCons (mPure dTup (maCons (mSlT (mLoc 6) moNo (moSome (mLit (.int 5)))) (maCons (mSlT (mLoc 6) (moSome (mLit (.int 4))) (moSome (mLit (.int 9)))) maNil))) maNil))) fine_law_met cat_law_met) maNil))) (sRt (mOp2 dEq (mLoc 2) (mFz (mPure dLst (maCons (mLit (.str "fine")) (maCons (mLit (.str "many 12")) (maCons (mLit (.str "fine")) (maCons (mLit (.str "many 12")) (maCons (mLit (.str "many 12")) (maCons (mLit (.str "many 12")) (maCons (mLit (.str "many 1000")) (maCons (mLit (.str "many 1000")) (maCons (mLit (.str "fine")) maNil))))))))))))))))))))))))
def f_law : Fs := fnSem 7 m_law
structure Bi (G : Stat) : Prop where
  b_abs : G.mg "abs" = none
  b_all : G.mg "all" = none
  b_bool : G.mg "bool" = none
  b_dict : G.mg "dict" = none
  b_enumerate : G.mg "enumerate" = none
  b_int : G.mg "int" = none
  b_isinstance : G.mg "isinstance" = none
  b_len : G.mg "len" = none
  b_list : G.mg "list" = none
  b_max : G.mg "max" = none
  b_min : G.mg "min" = none
  b_range : G.mg "range" = none
  b_repr : G.mg "repr" = none
  b_set : G.mg "set" = none
  b_sorted : G.mg "sorted" = none
  b_sum : G.mg "sum" = none
  b_tuple : G.mg "tuple" = none
  b_zip : G.mg "zip" = none
  c_GREATEST : ∃ t, G.mg "GREATEST" = some (.int 999999999 t)
  c_LAST_LETTER : ∃ t, G.mg "LAST_LETTER" = some (.int 5 t)
  c_MOST_K : ∃ t, G.mg "MOST_K" = some (.int 20 t)
  c_MOST_LETTERS : ∃ t, G.mg "MOST_LETTERS" = some (.int 5 t)
  c_MOST_PARTS : ∃ t, G.mg "MOST_PARTS" = some (.int 12 t)
  c_MOST_ROWS : ∃ t, G.mg "MOST_ROWS" = some (.int 1000 t)
  c_MOST_SOURCES : ∃ t, G.mg "MOST_SOURCES" = some (.int 12 t)
  c_MOST_TOLD : ∃ t, G.mg "MOST_TOLD" = some (.int 20 t)
  c_MOST_VECTORS : ∃ t, G.mg "MOST_VECTORS" = some (.int 12 t)
  n_made_table : G.mg "made_table" = some (.ref (G.fa 0))
  n_vector_rank : G.mg "vector_rank" = some (.ref (G.fa 1))
  x_InvalidLot : ExT G 1 "InvalidLot"
  x_InvalidTable : ExT G 2 "InvalidTable"
  x_InvalidQuestion : ExT G 3 "InvalidQuestion"
  x_InvalidRank : ExT G 4 "InvalidRank"
  x_InvalidTold : ExT G 5 "InvalidTold"
  x_InvalidOperation : ExT G 6 "InvalidOperation"
  x_InvalidNumber : ExI G 7 "InvalidNumber" "given"
  f_InvalidNumber : XfC G.K (G.ca 7) ∧ PySem.W.findIn G.K (.ref (G.ca 7)) "given" = some none
  x_TooMany : ExI G 8 "TooMany" "most"
  f_TooMany : XfC G.K (G.ca 8) ∧ PySem.W.findIn G.K (.ref (G.ca 8)) "most" = some none
  o_Table : ObT G 9 ["_lot", "_known", "_rows"]
  kp_Table : PySem.W.keepIn G.K (.ref (G.ca 9)) = true
  mc_Table : G.mg "Table" = some (.ref (G.ca 9))
  o_Question : ObT G 10 ["_lot", "_parts", "_lots", "_sizes"]
  kp_Question : PySem.W.keepIn G.K (.ref (G.ca 10)) = true
  mc_Question : G.mg "Question" = some (.ref (G.ca 10))
  a_Uknown : ∀ c i, at_Uknown c = some i → AttT G "_known" 1 c i
  a_lot : ∀ c i, at_lot c = some i → AttT G "lot" 1 c i
  a_rows : ∀ c i, at_rows c = some i → AttT G "rows" 1 c i
  is_Table : IsM G (.ref (G.ca 9)) ms_Table
  is_bool : IsM G (.type "bool") ms_bool
  is_dict : IsM G (.type "dict") ms_dict
  is_int : IsM G (.type "int") ms_int
  is_tuple : IsM G (.type "tuple") ms_tuple
  sub : ∀ c h b, sub0 c h = some b → PySem.W.exmOne G.K (.ref (G.ca c)) (.ref (G.ca h)) = some b
section
variable {G : Stat} (B : Bi G)
theorem gives_law_met {an : An} {W : WX} {X : Cx} {k : Nat} (g : Gd G X W k) (gu : Gu X) (B : Bi G) {gx : Addr} {cdg : Value} {q : Str} : LamX.GivesTo X ["call", "error"] "_law_met" (defScope s_law_met) gx cdg (defBody s_law_met) "call" q (TTc G an fine_law_met cat_law_met) :=
  cat_gives g.K B.sub (fun _ => rfl) (fun s H => (.cons ⟨rfl, by decide, .inl ((congrFun g.mg _).trans B.x_InvalidLot.mg)⟩ trivial (fun a ob cls d pn z f => he_str) (.cons ⟨rfl, by decide, .inl ((congrFun g.mg _).trans B.x_InvalidRank.mg)⟩ trivial (fun a ob cls d pn z f => he_str) (.cons ⟨rfl, by decide, .inl ((congrFun g.mg _).trans B.x_InvalidTold.mg)⟩ trivial (fun a ob cls d pn z f => he_str) (.cons ⟨rfl, by decide, .inl ((congrFun g.mg _).trans B.x_InvalidOperation.mg)⟩ trivial (fun a ob cls d pn z f => he_str) (.cons ⟨rfl, by decide, .inl ((congrFun g.mg _).trans B.x_InvalidNumber.mg)⟩ ⟨sc_law_met.nd, rfl, rfl⟩ (fun a ob cls d pn z f => (he_add g.K he_str (he_repr gu g.uc g.K g.mg B.b_repr (he_given g.K B.f_InvalidNumber.1 B.f_InvalidNumber.2 B.x_InvalidNumber.cf z f (pv 1))))) (.cons ⟨rfl, by decide, .inl ((congrFun g.mg _).trans B.x_TooMany.mg)⟩ ⟨sc_law_met.nd, rfl, rfl⟩ (fun a ob cls d pn z f => (he_add g.K he_str (he_repr gu g.uc g.K g.mg B.b_repr (he_given g.K B.f_TooMany.1 B.f_TooMany.2 B.x_TooMany.cf z f (pv 1))))) .nil))))))) (fun s H => fine_str)
include B in
theorem ok_is_integer {k : Nat} {f : Addr} {fd : FuncData} (F : Fun G.K "is_integer" "is_integer" s_is_integer f fd)  : FnOk G.P G.w G.K G.mg G.base (L2.CX G.P G.w) (k + 1) f fd ["value"] (spOf G 1 (fnSem 1 m_is_integer)) :=
  fn_ok F sc_is_integer rfl fun cdv A outer s H E g =>
  (sb_one (ss_ret (se_and (se_isMB g (se_loc (pv 0)) B.b_isinstance B.is_int B.b_int) (se_one (se_not (se_isMB g (se_loc (pv 0)) B.b_isinstance B.is_bool B.b_bool))))))
include B in
theorem ok_is_lot {k : Nat} {f : Addr} {fd : FuncData} (F : Fun G.K "is_lot" "is_lot" s_is_lot f fd)  : FnOk G.P G.w G.K G.mg G.base (L2.CX G.P G.w) (k + 1) f fd ["value"] (spOf G 1 (fnSem 3 m_is_lot)) :=
  fn_ok F sc_is_lot rfl fun cdv A outer s H E g =>
  (sb_cons (ss_if (st_not (st_val (se_isMB g (se_loc (pv 0)) B.b_isinstance B.is_tuple B.b_tuple))) (sb_one (ss_ret se_bl)) sb_nil) (sb_cons (ss_set (ps_set (i := 1) g.nd rfl (by first | exact .inl rfl | exact .inr rfl) (se_neg se_int))) (sb_cons (ss_for (tgt := (.n 2)) g (si_seq g (se_loc (pv 0))) (pg_name (i := 2) g.nd rfl (by first | exact .inl rfl | exact .inr rfl)) (sb_cons (ss_if (st_w (sw_or (st_not (st_val (se_isMB g (se_loc (pv 2)) B.b_isinstance B.is_int B.b_int))) (sw_or (st_val (se_isMB g (se_loc (pv 2)) B.b_isinstance B.is_bool B.b_bool)) (sw_or1 (st_not (st_ltle (se_loc (pv 1)) (se_loc (pv 2)) (se_gint g (B.c_LAST_LETTER).choose_spec))))))) (sb_one (ss_ret se_bl)) sb_nil) (sb_one (ss_set (ps_set (i := 1) g.nd rfl (by first | exact .inl rfl | exact .inr rfl) (se_loc (pv 2))))))) (sb_one (ss_ret se_bl)))))
include B in
theorem ok_gain {k : Nat} {f : Addr} {fd : FuncData} (F : Fun G.K "_gain" "_gain" s_gain f fd)  : FnOk G.P G.w G.K G.mg G.base (L2.CX G.P G.w) (k + 1) f fd ["more", "fewer"] (spOf G 2 (fnSem 4 m_gain)) :=
  fn_ok F sc_gain rfl fun cdv A outer s H E g =>
  (sb_cons (ss_set (ps_set (i := 2) g.nd rfl (by first | exact .inl rfl | exact .inr rfl) (se_ownD (sd_dc (own := [(("some" : PySem.Str), 3)]) (tgt := (.n 3)) g (si_seq g (se_loc (pv 0))) (blkOk_by (by show blkC ["more", "fewer", "total", "some"] (defScope s_gain) _ _ = true; decide +kernel)) (by decide) (fun _ _ _ _ _ => (pg_name (i := 3) (g.blk _ _ _ _ _).nd rfl (by first | exact .inl rfl | exact .inr rfl))) (fun _ _ _ _ _ => pts_yes) (fun _ _ _ _ _ => (se_loc (pv 3))) (fun _ _ _ _ _ => se_int))))) (sb_cons (ss_for (tgt := (.n 3)) g (si_seq g (se_loc (pv 1))) (pg_name (i := 3) g.nd rfl (by first | exact .inl rfl | exact .inr rfl)) (sb_one (ss_setd (hu1 g) (se_loc (pv 2)) (se_loc (pv 3)) (se_neg se_int) rfl))) (sb_one (ss_ret (se_fzD (sd_dc (own := [(("some" : PySem.Str), 3)]) (tgt := (.n 3)) g (si_seq g (se_fz (sf_callB g (cr_srtA g.calm g.u64) (by rw [g.K]; exact okF_srtA) B.b_sorted (by decide +kernel) (sa_cons (se_loc (pv 2)) sa_nil)))) (blkOk_by (by show blkC ["more", "fewer", "total", "some"] (defScope s_gain) _ _ = true; decide +kernel)) (by decide) (fun _ _ _ _ _ => (pg_name (i := 3) (g.blk _ _ _ _ _).nd rfl (by first | exact .inl rfl | exact .inr rfl))) (fun _ _ _ _ _ => (pts_if (st_ne (g.blk _ _ _ _ _) (se_loc (pv 3)) (se_tup sa_nil)))) (fun _ _ _ _ _ => (se_loc (pv 3))) (fun _ _ _ _ _ => (se_dget (hu1 (g.blk _ _ _ _ _)) (se_loc (pv 2)) (se_loc (pv 3)) (fun _ _ => rfl)))))))))
include B in
theorem ok_check_table {k : Nat} {f : Addr} {fd : FuncData} (F : Fun G.K "check_table" "check_table" s_check_table f fd)  : FnOk G.P G.w G.K G.mg G.base (L2.CX G.P G.w) (k + 1) f fd ["value"] (spOf G 1 (fnSem 1 m_check_table)) :=
  fn_ok F sc_check_table rfl fun cdv A outer s H E g =>
  (sb_one (ss_if (st_not (st_val (se_isMC g (se_loc (pv 0)) B.b_isinstance B.is_Table B.mc_Table))) (sb_one (ss_raise g B.x_InvalidTable)) sb_nil))
include B in
theorem ok_part_at {k : Nat} {f : Addr} {fd : FuncData} (F : Fun G.K "part_at" "part_at" s_part_at f fd)  : FnOk G.P G.w G.K G.mg G.base (L2.CX G.P G.w) (k + 1) f fd ["row", "places"] (spOf G 2 (fnSem 3 m_part_at)) :=
  fn_ok F sc_part_at rfl fun cdv A outer s H E g =>
  (sb_one (ss_ret (se_callTy g call_tuple_of ok_tuple B.b_tuple (by decide +kernel) (sa_cons (se_fz (sf_lc (own := [(("place" : PySem.Str), 2)]) (tgt := (.n 2)) g (si_seq g (se_loc (pv 1))) (blkOk_by (by show blkC ["row", "places", "place"] (defScope s_part_at) _ _ = true; decide +kernel)) (by decide) (fun _ _ _ _ _ => (pg_name (i := 2) (g.blk _ _ _ _ _).nd rfl (by first | exact .inl rfl | exact .inr rfl))) (fun _ _ _ _ _ => pts_yes) (fun _ _ _ _ _ => (se_sub_ix (g.blk _ _ _ _ _) (se_loc (pv 0)) (se_loc (pv 2)))))) sa_nil))))
include B in
theorem ok_are_tables {k : Nat} {f : Addr} {fd : FuncData} (F : Fun G.K "_are_tables" "_are_tables" s_are_tables f fd)  : FnOk G.P G.w G.K G.mg G.base (L2.CX G.P G.w) (k + 1) f fd ["value"] (spOf G 1 (fnSem 2 m_are_tables)) :=
  fn_ok F sc_are_tables rfl fun cdv A outer s H E g =>
  (sb_cons (ss_if (st_w (sw_or (st_not (st_val (se_isMB g (se_loc (pv 0)) B.b_isinstance B.is_tuple B.b_tuple))) (sw_or1 (st_gt (se_callB g call_len ok_len B.b_len (by decide +kernel) (sa_cons (se_loc (pv 0)) sa_nil)) (se_gint g (B.c_MOST_PARTS).choose_spec))))) (sb_one (ss_ret se_bl)) sb_nil) (sb_one (ss_ret (se_callB g (cr_all g.calm) ok_all B.b_all (by decide +kernel) (sa_cons (se_fz (sf_lc (own := [(("table" : PySem.Str), 1)]) (tgt := (.n 1)) g (si_seq g (se_loc (pv 0))) (blkOk_by (by show blkC ["value", "table"] (defScope s_are_tables) _ _ = true; decide +kernel)) (by decide) (fun _ _ _ _ _ => (pg_name (i := 1) (g.blk _ _ _ _ _).nd rfl (by first | exact .inl rfl | exact .inr rfl))) (fun _ _ _ _ _ => pts_yes) (fun _ _ _ _ _ => (se_isMC (g.blk _ _ _ _ _) (se_loc (pv 1)) B.b_isinstance B.is_Table B.mc_Table)))) sa_nil)))))
include B in
theorem ok_rank_of {k : Nat} {f : Addr} {fd : FuncData} (F : Fun G.K "_rank_of" "_rank_of" s_rank_of f fd)  : FnOk G.P G.w G.K G.mg G.base (L2.CX G.P G.w) (k + 1) f fd ["vectors"] (spOf G 1 (fnSem 5 m_rank_of)) :=
  fn_ok F sc_rank_of rfl fun cdv A outer s H E g =>
  (sb_cons (ss_set (ps_set (i := 1) g.nd rfl (by first | exact .inl rfl | exact .inr rfl) (se_own (sf_lst sa_nil)))) (sb_cons (ss_for (tgt := (.n 2)) g (si_seq g (se_loc (pv 0))) (pg_name (i := 2) g.nd rfl (by first | exact .inl rfl | exact .inr rfl)) (sb_cons (ss_set (ps_set (i := 3) g.nd rfl (by first | exact .inl rfl | exact .inr rfl) (se_loc (pv 2)))) (sb_cons (ss_forC (tgt := (.n 4)) g (se_loc (pv 1)) (pg_name (i := 4) g.nd rfl (by first | exact .inl rfl | exact .inr rfl)) (sb_one (ss_set (ps_set (i := 3) g.nd rfl (by first | exact .inl rfl | exact .inr rfl) (se_callB g (call_min2 g.calm) (ok_I2 (f := fMin)) B.b_min (by decide +kernel) (sa_cons (se_loc (pv 3)) (sa_cons (se_xor (se_loc (pv 3)) (se_loc (pv 4))) sa_nil))))))) (sb_one (ss_if (st_gt (se_loc (pv 3)) se_int) (sb_one (ss_expr (ps_expr (se_app g (pe_bm PySem.F.plainAttrs_list PySem.F.slot_list_append PySem.F.type_list_append mt_append (se_loc (pv 1)) (sa_cons (se_loc (pv 3)) sa_nil)))))) sb_nil))))) (sb_one (ss_ret (se_callB g call_len ok_len B.b_len (by decide +kernel) (sa_cons (se_loc (pv 1)) sa_nil))))))
include B in
theorem ok_said_by {k : Nat} {f : Addr} {fd : FuncData} (F : Fun G.K "_said_by" "_said_by" s_said_by f fd)  : FnOk G.P G.w G.K G.mg G.base (L2.CX G.P G.w) (k + 1) f fd ["vectors", "source"] (spOf G 2 (fnSem 4 m_said_by)) :=
  fn_ok F sc_said_by rfl fun cdv A outer s H E g =>
  (sb_one (ss_ret (se_callB g (cr_sum g.calm) ok_sum B.b_sum (by decide +kernel) (sa_cons (se_fz (sf_lc (own := [(("place" : PySem.Str), 2), (("vector" : PySem.Str), 3)]) (tgt := (.t [2, 3])) g (si_enum g B.b_enumerate (sa_cons (se_loc (pv 0)) sa_nil)) (blkOk_by (by show blkC ["vectors", "source", "place", "vector"] (defScope s_said_by) _ _ = true; decide +kernel)) (by decide) (fun _ _ _ _ _ => (pg_tup (g.blk _ _ _ _ _).calm (pgs_cons (pg_name (i := 2) (g.blk _ _ _ _ _).nd rfl (by first | exact .inl rfl | exact .inr rfl)) (pgs_cons (pg_name (i := 3) (g.blk _ _ _ _ _).nd rfl (by first | exact .inl rfl | exact .inr rfl)) pgs_nil)))) (fun _ _ _ _ _ => pts_yes) (fun _ _ _ _ _ => (se_shl (se_odd (se_shr (se_loc (pv 3)) (se_loc (pv 1))) se_int) (se_loc (pv 2)))))) sa_nil))))
include B in
theorem ok_sources_of {k : Nat} {f : Addr} {fd : FuncData} (F : Fun G.K "_sources_of" "_sources_of" s_sources_of f fd)  : FnOk G.P G.w G.K G.mg G.base (L2.CX G.P G.w) (k + 1) f fd ["vectors"] (spOf G 1 (fnSem 3 m_sources_of)) :=
  fn_ok F sc_sources_of rfl fun cdv A outer s H E g =>
  (sb_one (ss_ret (se_maxL g B.b_max (se_fz (sf_lc2 (own := [(("some" : PySem.Str), 1), (("vector" : PySem.Str), 2)]) (vs1 := [2]) (tgt := (.n 1)) (tgt1 := (.n 2)) g (si_seq g (se_loc (pv 0))) (blkOk_by (by show blkC ["vectors", "some", "vector"] (defScope s_sources_of) _ _ = true; decide +kernel)) (by decide) (by decide) (by decide) (fun _ _ _ _ _ => (pg_name (i := 1) (g.blk _ _ _ _ _).nd rfl (by first | exact .inl rfl | exact .inr rfl))) (fun _ _ _ _ _ => pts_yes) (fun _ _ _ _ _ => (si_seq (g.blk _ _ _ _ _) (se_loc (pv 1)))) (fun _ _ _ _ _ => (pg_name (i := 2) (g.blk _ _ _ _ _).nd rfl (by first | exact .inl rfl | exact .inr rfl))) (fun _ _ _ _ _ => pts_yes) (fun _ _ _ _ _ => (se_bits (se_loc (pv 2)))))))))
include B in
theorem ok_law_jug {k : Nat} {f : Addr} {fd : FuncData} (F : Fun G.K "_law_jug" "_law_jug" s_law_jug f fd)  : FnOk G.P G.w G.K G.mg G.base (L2.CX G.P G.w) (k + 1) f fd ["script", "spot"] (spOfF G 2 (fnSemF 5 m_law_jug)) :=
  fn_okF F sc_law_jug rfl fun cdv A outer s H E g =>
  (sb_cons (ss_set (ps_set (i := 2) g.nd rfl (by first | exact .inl rfl | exact .inr rfl) (se_if (st_lt (se_loc (pv 1)) (se_callB g call_len ok_len B.b_len (by decide +kernel) (sa_cons (se_loc (pv 0)) sa_nil))) (se_callTy g call_int1 ok_int B.b_int (by decide +kernel) (sa_cons (se_sub_ix g (se_loc (pv 0)) (se_loc (pv 1))) sa_nil)) (se_add g (se_mul g se_int (se_loc (pv 1))) se_int)))) (sb_cons (ss_set (ps_set (i := 3) g.nd rfl (by first | exact .inl rfl | exact .inr rfl) (se_mod (se_callTy g call_int1 ok_int B.b_int (by decide +kernel) (sa_cons (se_callB g call_abs (ok_I1 (f := fAbs)) B.b_abs (by decide +kernel) (sa_cons (se_loc (pv 2)) sa_nil)) sa_nil)) (se_pow (se_pow se_int se_int) se_int)))) (sb_cons (ss_set (ps_set (i := 4) g.nd rfl (by first | exact .inl rfl | exact .inr rfl) (se_callTy g call_int1 ok_int B.b_int (by decide +kernel) (sa_cons (se_add g (se_add g (se_add g (se_mul g (se_mod (se_loc (pv 3)) se_int) se_int) (se_mul g se_int (se_loc (pv 1)))) (se_mul g se_int (se_callTy g call_int1 ok_int B.b_int (by decide +kernel) (sa_cons (se_lt (se_loc (pv 2)) se_int) sa_nil)))) se_int) sa_nil)))) (sb_one (ss_ret (se_own (sf_lst (sa_cons (se_callB g (call_max2 g.calm) (ok_I2 (f := fMax)) B.b_max (by decide +kernel) (sa_cons se_int (sa_cons (se_sub (se_loc (pv 3)) (se_pow se_int se_int)) sa_nil))) (sa_cons (se_mod (se_loc (pv 4)) se_int) (sa_cons se_int sa_nil))))))))))
include B in
theorem ok_law_poured {k : Nat} {f : Addr} {fd : FuncData} (F : Fun G.K "_law_poured" "_law_poured" s_law_poured f fd)  : FnOk G.P G.w G.K G.mg G.base (L2.CX G.P G.w) (k + 1) f fd ["jug", "total"] (spOf G 2 (fnSem 5 m_law_poured)) :=
  fn_ok F sc_law_poured rfl fun cdv A outer s H E g =>
  (sb_cons (ss_if (st_gt (se_sub_ix g (se_loc (pv 0)) se_int) se_int) (sb_cons (ss_set (ps_set (i := 4) g.nd rfl (by first | exact .inl rfl | exact .inr rfl) (se_mod (se_callTy g call_int1 ok_int B.b_int (by decide +kernel) (sa_cons (se_sub_ix g (se_loc (pv 0)) se_int) sa_nil)) (se_loc (pv 1))))) (sb_cons (ss_seti (ps_asg (se_fdiv (se_sub_ix g (se_loc (pv 0)) se_int) (se_loc (pv 1))) (pg_sub (se_loc (pv 0)) se_int set_list))) (sb_one (ss_ret (se_loc (pv 4)))))) sb_nil) (sb_cons (ss_seti (ps_asg (se_add g (se_sub_ix g (se_loc (pv 0)) se_int) se_int) (pg_sub (se_loc (pv 0)) se_int set_list))) (sb_cons (ss_set (ps_set (i := 2) g.nd rfl (by first | exact .inl rfl | exact .inr rfl) (se_mod (se_callTy g call_int1 ok_int B.b_int (by decide +kernel) (sa_cons (se_add g (se_sub_ix g (se_loc (pv 0)) se_int) (se_mul g se_int (se_sub_ix g (se_loc (pv 0)) se_int))) sa_nil)) se_int))) (sb_cons (ss_set (ps_set (i := 3) g.nd rfl (by first | exact .inl rfl | exact .inr rfl) (se_add g (se_add g (se_mul g (se_mod (se_callTy g call_int1 ok_int B.b_int (by decide +kernel) (sa_cons (se_add g (se_mul g (se_loc (pv 2)) (se_loc (pv 2))) se_int) sa_nil)) se_int) se_int) (se_loc (pv 2))) (se_mul g se_int (se_sub_ix g (se_loc (pv 0)) se_int))))) (sb_one (ss_ret (se_mod (se_callTy g call_int1 ok_int B.b_int (by decide +kernel) (sa_cons (se_fdiv (se_loc (pv 3)) se_int) sa_nil)) (se_loc (pv 1)))))))))
include B in
theorem ok_law_bt_turned {k : Nat} {f : Addr} {fd : FuncData} (F : Fun G.K "_law_bt_turned" "_law_bt_turned" s_law_bt_turned f fd)  : FnOk G.P G.w G.K G.mg G.base (L2.CX G.P G.w) (k + 1) f fd ["items", "turn"] (spOf G 2 (fnSem 2 m_law_bt_turned)) :=
  fn_ok F sc_law_bt_turned rfl fun cdv A outer s H E g =>
  (sb_one (ss_ret (se_sub_ix g (se_loc (pv 0)) (se_mod (se_callTy g call_int1 ok_int B.b_int (by decide +kernel) (sa_cons (se_loc (pv 1)) sa_nil)) (se_callB g call_len ok_len B.b_len (by decide +kernel) (sa_cons (se_loc (pv 0)) sa_nil))))))
include B in
theorem ok_law_bt_powers {k : Nat} {f : Addr} {fd : FuncData} (F : Fun G.K "_law_bt_powers" "_law_bt_powers" s_law_bt_powers f fd)  : FnOk G.P G.w G.K G.mg G.base (L2.CX G.P G.w) (k + 1) f fd [] (spOfF G 0 (fnSemF 0 m_law_bt_powers)) :=
  fn_okF F sc_law_bt_powers rfl fun cdv A outer s H E g =>
  (sb_one (ss_ret (se_own (sf_lst (sa_cons se_int (sa_cons se_int (sa_cons se_int (sa_cons se_int (sa_cons se_int (sa_cons se_int (sa_cons se_int (sa_cons se_int (sa_cons se_int (sa_cons se_int (sa_cons se_int (sa_cons se_int sa_nil))))))))))))))))
include B in
theorem ok_is_between {k : Nat} {f : Addr} {fd : FuncData} (F : Fun G.K "is_between" "is_between" s_is_between f fd) {a_is_integer : Addr} (h_is_integer : FnF G k "is_integer" a_is_integer 1 [] f_is_integer) : FnOk G.P G.w G.K G.mg G.base (L2.CX G.P G.w) (k + 1) f fd ["value", "least", "most"] (spOf G 3 (fnSem 3 m_is_between)) :=
  fn_ok F sc_is_between rfl fun cdv A outer s H E g =>
  (sb_one (ss_ret (se_and (se_call g h_is_integer (sa_cons (se_loc (pv 0)) sa_nil)) (se_one (se_lele (se_loc (pv 1)) (se_loc (pv 0)) (se_loc (pv 2)))))))
include B in
theorem ok_are_lots {k : Nat} {f : Addr} {fd : FuncData} (F : Fun G.K "are_lots" "are_lots" s_are_lots f fd) {a_is_lot : Addr} (h_is_lot : FnF G k "is_lot" a_is_lot 1 [] f_is_lot) : FnOk G.P G.w G.K G.mg G.base (L2.CX G.P G.w) (k + 1) f fd ["value"] (spOf G 1 (fnSem 2 m_are_lots)) :=
  fn_ok F sc_are_lots rfl fun cdv A outer s H E g =>
  (sb_one (ss_ret (se_and (se_isMB g (se_loc (pv 0)) B.b_isinstance B.is_tuple B.b_tuple) (se_one (se_callB g (cr_all g.calm) ok_all B.b_all (by decide +kernel) (sa_cons (se_fz (sf_lc (own := [(("lot" : PySem.Str), 1)]) (tgt := (.n 1)) g (si_seq g (se_loc (pv 0))) (blkOk_by (by show blkC ["value", "lot"] (defScope s_are_lots) _ _ = true; decide +kernel)) (by decide) (fun _ _ _ _ _ => (pg_name (i := 1) (g.blk _ _ _ _ _).nd rfl (by first | exact .inl rfl | exact .inr rfl))) (fun _ _ _ _ _ => pts_yes) (fun _ _ _ _ _ => (se_call (g.blk _ _ _ _ _) h_is_lot (sa_cons (se_loc (pv 1)) sa_nil))))) sa_nil))))))
include B in
theorem ok_check_lot {k : Nat} {f : Addr} {fd : FuncData} (F : Fun G.K "check_lot" "check_lot" s_check_lot f fd) {a_is_lot : Addr} (h_is_lot : FnF G k "is_lot" a_is_lot 1 [] f_is_lot) : FnOk G.P G.w G.K G.mg G.base (L2.CX G.P G.w) (k + 1) f fd ["value"] (spOf G 1 (fnSem 1 m_check_lot)) :=
  fn_ok F sc_check_lot rfl fun cdv A outer s H E g =>
  (sb_one (ss_if (st_not (st_val (se_call g h_is_lot (sa_cons (se_loc (pv 0)) sa_nil)))) (sb_one (ss_raise g B.x_InvalidLot)) sb_nil))
include B in
theorem ok_check_rank_lot {k : Nat} {f : Addr} {fd : FuncData} (F : Fun G.K "check_rank_lot" "check_rank_lot" s_check_rank_lot f fd) {a_is_lot : Addr} (h_is_lot : FnF G k "is_lot" a_is_lot 1 [] f_is_lot) : FnOk G.P G.w G.K G.mg G.base (L2.CX G.P G.w) (k + 1) f fd ["value"] (spOf G 1 (fnSem 1 m_check_rank_lot)) :=
  fn_ok F sc_check_rank_lot rfl fun cdv A outer s H E g =>
  (sb_one (ss_if (st_w (sw_or (st_not (st_val (se_call g h_is_lot (sa_cons (se_loc (pv 0)) sa_nil)))) (sw_or1 (st_gt (se_callB g call_len ok_len B.b_len (by decide +kernel) (sa_cons (se_loc (pv 0)) sa_nil)) (se_gint g (B.c_MOST_LETTERS).choose_spec))))) (sb_one (ss_raise g B.x_InvalidLot)) sb_nil))
include B in
theorem ok_parts_at {k : Nat} {f : Addr} {fd : FuncData} (F : Fun G.K "parts_at" "parts_at" s_parts_at f fd) {a_part_at : Addr} (h_part_at : FnF G k "part_at" a_part_at 2 [] f_part_at) : FnOk G.P G.w G.K G.mg G.base (L2.CX G.P G.w) (k + 1) f fd ["rows", "letters", "wanted"] (spOf G 3 (fnSem 6 m_parts_at)) :=
  fn_ok F sc_parts_at rfl fun cdv A outer s H E g =>
  (sb_cons (ss_set (ps_set (i := 3) g.nd rfl (by first | exact .inl rfl | exact .inr rfl) (se_fz (sf_lc (own := [(("letter" : PySem.Str), 4)]) (tgt := (.n 4)) g (si_seq g (se_loc (pv 2))) (blkOk_by (by show blkC ["rows", "letters", "wanted", "places", "letter", "row"] (defScope s_parts_at) _ _ = true; decide +kernel)) (by decide) (fun _ _ _ _ _ => (pg_name (i := 4) (g.blk _ _ _ _ _).nd rfl (by first | exact .inl rfl | exact .inr rfl))) (fun _ _ _ _ _ => pts_yes) (fun _ _ _ _ _ => (se_idxd (g.blk _ _ _ _ _) (se_loc (pv 1)) (se_loc (pv 4)))))))) (sb_cons (ss_if (st_eq g (se_loc (pv 3)) (se_fz (sf_listR g B.b_range B.b_list (se_callB g call_len ok_len B.b_len (by decide +kernel) (sa_cons (se_loc (pv 1)) sa_nil))))) (sb_one (ss_ret (se_fz (sf_callTy g (cr_listA g.calm) (by rw [g.K]; exact okF_listA) B.b_list (by decide +kernel) (sa_cons (se_loc (pv 0)) sa_nil))))) sb_nil) (sb_one (ss_ret (se_fz (sf_lc (own := [(("row" : PySem.Str), 5)]) (tgt := (.n 5)) g (si_seq g (se_loc (pv 0))) (blkOk_by (by show blkC ["rows", "letters", "wanted", "places", "letter", "row"] (defScope s_parts_at) _ _ = true; decide +kernel)) (by decide) (fun _ _ _ _ _ => (pg_name (i := 5) (g.blk _ _ _ _ _).nd rfl (by first | exact .inl rfl | exact .inr rfl))) (fun _ _ _ _ _ => pts_yes) (fun _ _ _ _ _ => (se_call (g.blk _ _ _ _ _) h_part_at (sa_cons (se_loc (pv 5)) (sa_cons (se_loc (pv 3)) sa_nil))))))))))
include B in
theorem ok_are_between {k : Nat} {f : Addr} {fd : FuncData} (F : Fun G.K "are_between" "are_between" s_are_between f fd) {a_is_between : Addr} (h_is_between : FnF G k "is_between" a_is_between 3 [] f_is_between) : FnOk G.P G.w G.K G.mg G.base (L2.CX G.P G.w) (k + 1) f fd ["value", "least", "most"] (spOf G 3 (fnSem 4 m_are_between)) :=
  fn_ok F sc_are_between rfl fun cdv A outer s H E g =>
  (sb_one (ss_ret (se_and (se_isMB g (se_loc (pv 0)) B.b_isinstance B.is_tuple B.b_tuple) (se_one (se_callB g (cr_all g.calm) ok_all B.b_all (by decide +kernel) (sa_cons (se_fz (sf_lc (own := [(("number" : PySem.Str), 3)]) (tgt := (.n 3)) g (si_seq g (se_loc (pv 0))) (blkOk_by (by show blkC ["value", "least", "most", "number"] (defScope s_are_between) _ _ = true; decide +kernel)) (by decide) (fun _ _ _ _ _ => (pg_name (i := 3) (g.blk _ _ _ _ _).nd rfl (by first | exact .inl rfl | exact .inr rfl))) (fun _ _ _ _ _ => pts_yes) (fun _ _ _ _ _ => (se_call (g.blk _ _ _ _ _) h_is_between (sa_cons (se_loc (pv 3)) (sa_cons (se_loc (pv 1)) (sa_cons (se_loc (pv 2)) sa_nil))))))) sa_nil))))))
include B in
theorem ok_joined_lot {k : Nat} {f : Addr} {fd : FuncData} (F : Fun G.K "joined_lot" "joined_lot" s_joined_lot f fd) {a_check_lot : Addr} (h_check_lot : FnF G k "check_lot" a_check_lot 1 [] f_check_lot) : FnOk G.P G.w G.K G.mg G.base (L2.CX G.P G.w) (k + 1) f fd ["one", "other"] (spOf G 2 (fnSem 2 m_joined_lot)) :=
  fn_ok F sc_joined_lot rfl fun cdv A outer s H E g =>
  (sb_cons (ss_expr (ps_expr (se_call g h_check_lot (sa_cons (se_loc (pv 0)) sa_nil)))) (sb_cons (ss_expr (ps_expr (se_call g h_check_lot (sa_cons (se_loc (pv 1)) sa_nil)))) (sb_one (ss_ret (se_callTy g call_tuple_of ok_tuple B.b_tuple (by decide +kernel) (sa_cons (se_fz (sf_ss g B.b_sorted B.b_set (sa_cons (se_add g (se_loc (pv 0)) (se_loc (pv 1))) sa_nil))) sa_nil))))))
include B in
theorem ok_rest_lot {k : Nat} {f : Addr} {fd : FuncData} (F : Fun G.K "rest_lot" "rest_lot" s_rest_lot f fd) {a_check_lot : Addr} (h_check_lot : FnF G k "check_lot" a_check_lot 1 [] f_check_lot) : FnOk G.P G.w G.K G.mg G.base (L2.CX G.P G.w) (k + 1) f fd ["one", "other"] (spOf G 2 (fnSem 3 m_rest_lot)) :=
  fn_ok F sc_rest_lot rfl fun cdv A outer s H E g =>
  (sb_cons (ss_expr (ps_expr (se_call g h_check_lot (sa_cons (se_loc (pv 0)) sa_nil)))) (sb_cons (ss_expr (ps_expr (se_call g h_check_lot (sa_cons (se_loc (pv 1)) sa_nil)))) (sb_one (ss_ret (se_callTy g call_tuple_of ok_tuple B.b_tuple (by decide +kernel) (sa_cons (se_fz (sf_lc (own := [(("letter" : PySem.Str), 2)]) (tgt := (.n 2)) g (si_seq g (se_loc (pv 0))) (blkOk_by (by show blkC ["one", "other", "letter"] (defScope s_rest_lot) _ _ = true; decide +kernel)) (by decide) (fun _ _ _ _ _ => (pg_name (i := 2) (g.blk _ _ _ _ _).nd rfl (by first | exact .inl rfl | exact .inr rfl))) (fun _ _ _ _ _ => (pts_if (st_nin (g.blk _ _ _ _ _) (se_loc (pv 2)) (se_loc (pv 1))))) (fun _ _ _ _ _ => (se_loc (pv 2))))) sa_nil))))))
include B in
theorem ok_lots_within {k : Nat} {f : Addr} {fd : FuncData} (F : Fun G.K "lots_within" "lots_within" s_lots_within f fd) {a_check_lot : Addr} (h_check_lot : FnF G k "check_lot" a_check_lot 1 [] f_check_lot) : FnOk G.P G.w G.K G.mg G.base (L2.CX G.P G.w) (k + 1) f fd ["lot"] (spOf G 1 (fnSem 4 m_lots_within)) :=
  fn_ok F sc_lots_within rfl fun cdv A outer s H E g =>
  (sb_cons (ss_expr (ps_expr (se_call g h_check_lot (sa_cons (se_loc (pv 0)) sa_nil)))) (sb_cons (ss_set (ps_set (i := 1) g.nd rfl (by first | exact .inl rfl | exact .inr rfl) (se_fz (sf_lst (sa_cons (se_tup sa_nil) sa_nil))))) (sb_cons (ss_for (tgt := (.n 2)) g (si_seq g (se_loc (pv 0))) (pg_name (i := 2) g.nd rfl (by first | exact .inl rfl | exact .inr rfl)) (sb_one (ss_set (ps_set (i := 1) g.nd rfl (by first | exact .inl rfl | exact .inr rfl) (se_add g (se_loc (pv 1)) (se_fz (sf_lc (own := [(("lesser" : PySem.Str), 3)]) (tgt := (.n 3)) g (si_seq g (se_loc (pv 1))) (blkOk_by (by show blkC ["lot", "found", "letter", "lesser"] (defScope s_lots_within) _ _ = true; decide +kernel)) (by decide) (fun _ _ _ _ _ => (pg_name (i := 3) (g.blk _ _ _ _ _).nd rfl (by first | exact .inl rfl | exact .inr rfl))) (fun _ _ _ _ _ => pts_yes) (fun _ _ _ _ _ => (se_add (g.blk _ _ _ _ _) (se_loc (pv 3)) (se_tup (sa_cons (se_loc (pv 2)) sa_nil))))))))))) (sb_one (ss_ret (se_callTy g call_tuple_of ok_tuple B.b_tuple (by decide +kernel) (sa_cons (se_fz (sf_callB g (cr_srtA g.calm g.u64) (by rw [g.K]; exact okF_srtA) B.b_sorted (by decide +kernel) (sa_cons (se_loc (pv 1)) sa_nil))) sa_nil)))))))
include B in
theorem ok_lots_on {k : Nat} {f : Addr} {fd : FuncData} (F : Fun G.K "lots_on" "lots_on" s_lots_on f fd) {a_are_lots : Addr} (h_are_lots : FnF G k "are_lots" a_are_lots 1 [] f_are_lots) : FnOk G.P G.w G.K G.mg G.base (L2.CX G.P G.w) (k + 1) f fd ["lots"] (spOf G 1 (fnSem 3 m_lots_on)) :=
  fn_ok F sc_lots_on rfl fun cdv A outer s H E g =>
  (sb_cons (ss_if (st_not (st_val (se_call g h_are_lots (sa_cons (se_loc (pv 0)) sa_nil)))) (sb_one (ss_raise g B.x_InvalidOperation)) sb_nil) (sb_one (ss_ret (se_callTy g call_tuple_of ok_tuple B.b_tuple (by decide +kernel) (sa_cons (se_fz (sf_ss g B.b_sorted B.b_set (sa_cons (se_fz (sf_lc2 (own := [(("lot" : PySem.Str), 1), (("letter" : PySem.Str), 2)]) (vs1 := [2]) (tgt := (.n 1)) (tgt1 := (.n 2)) g (si_seq g (se_loc (pv 0))) (blkOk_by (by show blkC ["lots", "lot", "letter"] (defScope s_lots_on) _ _ = true; decide +kernel)) (by decide) (by decide) (by decide) (fun _ _ _ _ _ => (pg_name (i := 1) (g.blk _ _ _ _ _).nd rfl (by first | exact .inl rfl | exact .inr rfl))) (fun _ _ _ _ _ => pts_yes) (fun _ _ _ _ _ => (si_seq (g.blk _ _ _ _ _) (se_loc (pv 1)))) (fun _ _ _ _ _ => (pg_name (i := 2) (g.blk _ _ _ _ _).nd rfl (by first | exact .inl rfl | exact .inr rfl))) (fun _ _ _ _ _ => pts_yes) (fun _ _ _ _ _ => (se_loc (pv 2))))) sa_nil))) sa_nil)))))
include B in
theorem ok_is_within {k : Nat} {f : Addr} {fd : FuncData} (F : Fun G.K "is_within" "is_within" s_is_within f fd) {a_rest_lot : Addr} (h_rest_lot : FnF G k "rest_lot" a_rest_lot 2 [] f_rest_lot) : FnOk G.P G.w G.K G.mg G.base (L2.CX G.P G.w) (k + 1) f fd ["one", "other"] (spOf G 2 (fnSem 2 m_is_within)) :=
  fn_ok F sc_is_within rfl fun cdv A outer s H E g =>
  (sb_one (ss_ret (se_eq g (se_call g h_rest_lot (sa_cons (se_loc (pv 0)) (sa_cons (se_loc (pv 1)) sa_nil))) (se_tup sa_nil))))
include B in
theorem ok_has_form {k : Nat} {f : Addr} {fd : FuncData} (F : Fun G.K "_has_form" "_has_form" s_has_form f fd) {a_is_integer : Addr} (h_is_integer : FnF G k "is_integer" a_is_integer 1 [] f_is_integer) {a_is_lot : Addr} (h_is_lot : FnF G k "is_lot" a_is_lot 1 [] f_is_lot) {a_lots_within : Addr} (h_lots_within : FnF G k "lots_within" a_lots_within 1 [] f_lots_within) : FnOk G.P G.w G.K G.mg G.base (L2.CX G.P G.w) (k + 1) f fd ["lot", "value"] (spOf G 2 (fnSem 4 m_has_form)) :=
  fn_ok F sc_has_form rfl fun cdv A outer s H E g =>
  (sb_cons (ss_if (st_w (sw_or (st_not (st_val (se_isMB g (se_loc (pv 1)) B.b_isinstance B.is_dict B.b_dict))) (sw_or1 (st_not (st_val (se_callB g (cr_all g.calm) ok_all B.b_all (by decide +kernel) (sa_cons (se_fz (sf_lc (own := [(("some" : PySem.Str), 3)]) (tgt := (.n 3)) g (si_keysG g (se_loc (pv 1))) (blkOk_by (by show blkC ["lot", "value", "number", "some"] (defScope s_has_form) _ _ = true; decide +kernel)) (by decide) (fun _ _ _ _ _ => (pg_name (i := 3) (g.blk _ _ _ _ _).nd rfl (by first | exact .inl rfl | exact .inr rfl))) (fun _ _ _ _ _ => pts_yes) (fun _ _ _ _ _ => (se_call (g.blk _ _ _ _ _) h_is_lot (sa_cons (se_loc (pv 3)) sa_nil))))) sa_nil))))))) (sb_one (ss_ret se_bl)) sb_nil) (sb_one (ss_ret (se_and (se_eq g (se_callTy g call_tuple_of ok_tuple B.b_tuple (by decide +kernel) (sa_cons (se_fz (sf_callB g (cr_srtA g.calm g.u64) (by rw [g.K]; exact okF_srtA) B.b_sorted (by decide +kernel) (sa_cons (se_loc (pv 1)) sa_nil))) sa_nil)) (se_call g h_lots_within (sa_cons (se_loc (pv 0)) sa_nil))) (se_one (se_callB g (cr_all g.calm) ok_all B.b_all (by decide +kernel) (sa_cons (se_fz (sf_lc (own := [(("number" : PySem.Str), 2)]) (tgt := (.n 2)) g (si_valsD g (se_loc (pv 1))) (blkOk_by (by show blkC ["lot", "value", "number", "some"] (defScope s_has_form) _ _ = true; decide +kernel)) (by decide) (fun _ _ _ _ _ => (pg_name (i := 2) (g.blk _ _ _ _ _).nd rfl (by first | exact .inl rfl | exact .inr rfl))) (fun _ _ _ _ _ => pts_yes) (fun _ _ _ _ _ => (se_call (g.blk _ _ _ _ _) h_is_integer (sa_cons (se_loc (pv 2)) sa_nil))))) sa_nil)))))))
include B in
theorem ok_basic_gains {k : Nat} {f : Addr} {fd : FuncData} (F : Fun G.K "_basic_gains" "_basic_gains" s_basic_gains f fd) {a_gain : Addr} (h_gain : FnF G k "_gain" a_gain 2 [] f_gain) {a_joined_lot : Addr} (h_joined_lot : FnF G k "joined_lot" a_joined_lot 2 [] f_joined_lot) {a_lots_within : Addr} (h_lots_within : FnF G k "lots_within" a_lots_within 1 [] f_lots_within) {a_rest_lot : Addr} (h_rest_lot : FnF G k "rest_lot" a_rest_lot 2 [] f_rest_lot) : FnOk G.P G.w G.K G.mg G.base (L2.CX G.P G.w) (k + 1) f fd ["lot"] (spOfF G 1 (fnSemF 7 m_basic_gains)) :=
  fn_okF F sc_basic_gains rfl fun cdv A outer s H E g =>
  (sb_cons (ss_setLc (i := 1) (own := [(("i" : PySem.Str), 2)]) (tgt := (.n 2)) g (fun _ _ _ h => own_read h) rfl rfl rfl rfl (by first | rfl | decide) (si_seq g (se_loc (pv 0))) (blkOk_by (by show blkC ["lot", "gains", "i", "j", "some", "one", "other"] (defScope s_basic_gains) _ _ = true; decide +kernel)) (by decide) (fun _ _ _ _ _ => (pg_name (i := 2) (g.blk _ _ _ _ _).nd rfl (by first | exact .inl rfl | exact .inr rfl))) (fun _ _ _ _ _ => pts_yes) (fun _ _ _ _ _ => (se_tup (sa_cons (se_tup (sa_cons se_str (sa_cons (se_loc (pv 2)) sa_nil))) (sa_cons (se_call (g.blk _ _ _ _ _) h_gain (sa_cons (se_fz (sf_lst (sa_cons (se_loc (pv 0)) sa_nil))) (sa_cons (se_fz (sf_lst (sa_cons (se_call (g.blk _ _ _ _ _) h_rest_lot (sa_cons (se_loc (pv 0)) (sa_cons (se_tup (sa_cons (se_loc (pv 2)) sa_nil)) sa_nil))) sa_nil))) sa_nil))) sa_nil))))) (sb_cons (ss_for (tgt := (.n 2)) g (si_seq g (se_loc (pv 0))) (pg_name (i := 2) g.nd rfl (by first | exact .inl rfl | exact .inr rfl)) (sb_one (ss_for (tgt := (.n 3)) g (si_seq g (se_call g h_rest_lot (sa_cons (se_loc (pv 0)) (sa_cons (se_tupR g B.b_range B.b_tuple (se_add g (se_loc (pv 2)) se_int)) sa_nil)))) (pg_name (i := 3) g.nd rfl (by first | exact .inl rfl | exact .inr rfl)) (sb_one (ss_for (tgt := (.n 4)) g (si_seq g (se_call g h_lots_within (sa_cons (se_call g h_rest_lot (sa_cons (se_loc (pv 0)) (sa_cons (se_tup (sa_cons (se_loc (pv 2)) (sa_cons (se_loc (pv 3)) sa_nil))) sa_nil))) sa_nil))) (pg_name (i := 4) g.nd rfl (by first | exact .inl rfl | exact .inr rfl)) (sb_cons (ss_par2 (ps_par (i := 5) (j := 6) g.calm g.nd rfl rfl (by decide) rfl rfl (sa_cons (se_call g h_joined_lot (sa_cons (se_loc (pv 4)) (sa_cons (se_tup (sa_cons (se_loc (pv 2)) sa_nil)) sa_nil))) (sa_cons (se_call g h_joined_lot (sa_cons (se_loc (pv 4)) (sa_cons (se_tup (sa_cons (se_loc (pv 3)) sa_nil)) sa_nil))) sa_nil)) rfl)) (sb_one (ss_expr (ps_expr (se_app g (pe_bm PySem.F.plainAttrs_list PySem.F.slot_list_append PySem.F.type_list_append mt_append (se_loc (pv 1)) (sa_cons (se_tup (sa_cons (se_tup (sa_cons se_str (sa_cons (se_loc (pv 2)) (sa_cons (se_loc (pv 3)) (sa_cons (se_loc (pv 4)) sa_nil))))) (sa_cons (se_call g h_gain (sa_cons (se_fz (sf_lst (sa_cons (se_loc (pv 5)) (sa_cons (se_loc (pv 6)) sa_nil)))) (sa_cons (se_fz (sf_lst (sa_cons (se_loc (pv 4)) (sa_cons (se_call g h_joined_lot (sa_cons (se_loc (pv 5)) (sa_cons (se_loc (pv 6)) sa_nil))) sa_nil)))) sa_nil))) sa_nil))) sa_nil)))))))))))) (sb_one (ss_ret (se_loc (pv 1))))))
include B in
theorem ok_step_times {k : Nat} {f : Addr} {fd : FuncData} (F : Fun G.K "step_times" "step_times" s_step_times f fd) {a_lots_within : Addr} (h_lots_within : FnF G k "lots_within" a_lots_within 1 [] f_lots_within) {a_rest_lot : Addr} (h_rest_lot : FnF G k "rest_lot" a_rest_lot 2 [] f_rest_lot) : FnOk G.P G.w G.K G.mg G.base (L2.CX G.P G.w) (k + 1) f fd ["lot", "rank", "some"] (spOf G 3 (fnSem 6 m_step_times)) :=
  fn_ok F sc_step_times rfl fun cdv A outer s H E g =>
  (sb_cons (ss_set (ps_set (i := 3) g.nd rfl (by first | exact .inl rfl | exact .inr rfl) se_int)) (sb_cons (ss_for (tgt := (.n 4)) g (si_seq g (se_call g h_lots_within (sa_cons (se_loc (pv 2)) sa_nil))) (pg_name (i := 4) g.nd rfl (by first | exact .inl rfl | exact .inr rfl)) (sb_cons (ss_set (ps_set (i := 5) g.nd rfl (by first | exact .inl rfl | exact .inr rfl) (se_sub (se_dget (hu1 g) (se_loc (pv 1)) (se_loc (pv 0)) (fun _ _ => rfl)) (se_dget (hu1 g) (se_loc (pv 1)) (se_call g h_rest_lot (sa_cons (se_loc (pv 0)) (sa_cons (se_loc (pv 4)) sa_nil))) (fun _ _ => rfl))))) (sb_one (ss_set (ps_set (i := 3) g.nd rfl (by first | exact .inl rfl | exact .inr rfl) (se_add g (se_loc (pv 3)) (se_if (st_eq g (se_odd (se_sub (se_callB g call_len ok_len B.b_len (by decide +kernel) (sa_cons (se_loc (pv 2)) sa_nil)) (se_callB g call_len ok_len B.b_len (by decide +kernel) (sa_cons (se_loc (pv 4)) sa_nil))) se_int) se_int) (se_loc (pv 5)) (se_neg (se_loc (pv 5)))))))))) (sb_one (ss_ret (se_loc (pv 3))))))
include B in
theorem ok_is_row {k : Nat} {f : Addr} {fd : FuncData} (F : Fun G.K "is_row" "is_row" s_is_row f fd) {a_are_between : Addr} (h_are_between : FnF G k "are_between" a_are_between 3 [] f_are_between) {a_check_lot : Addr} (h_check_lot : FnF G k "check_lot" a_check_lot 1 [] f_check_lot) : FnOk G.P G.w G.K G.mg G.base (L2.CX G.P G.w) (k + 1) f fd ["lot", "value"] (spOf G 2 (fnSem 2 m_is_row)) :=
  fn_ok F sc_is_row rfl fun cdv A outer s H E g =>
  (sb_cons (ss_expr (ps_expr (se_call g h_check_lot (sa_cons (se_loc (pv 0)) sa_nil)))) (sb_one (ss_ret (se_and (se_call g h_are_between (sa_cons (se_loc (pv 1)) (sa_cons (se_neg (se_gint g (B.c_GREATEST).choose_spec)) (sa_cons (se_gint g (B.c_GREATEST).choose_spec) sa_nil)))) (se_one (se_eq g (se_callB g call_len ok_len B.b_len (by decide +kernel) (sa_cons (se_loc (pv 1)) sa_nil)) (se_callB g call_len ok_len B.b_len (by decide +kernel) (sa_cons (se_loc (pv 0)) sa_nil))))))))
include B in
theorem ok_check_p_and_d {k : Nat} {f : Addr} {fd : FuncData} (F : Fun G.K "check_p_and_d" "check_p_and_d" s_check_p_and_d f fd) {a_check_number : Addr} (h_check_number : FnF G k "check_number" a_check_number 3 [.int 999999999] f_check_number) : FnOk G.P G.w G.K G.mg G.base (L2.CX G.P G.w) (k + 1) f fd ["p", "D"] (spOf G 2 (fnSem 2 m_check_p_and_d)) :=
  fn_ok F sc_check_p_and_d rfl fun cdv A outer s H E g =>
  (sb_cons (ss_expr (ps_expr (se_call g h_check_number (sa_cons (se_loc (pv 0)) (sa_cons se_int sa_nil))))) (sb_one (ss_expr (ps_expr (se_call g h_check_number (sa_cons (se_loc (pv 1)) (sa_cons se_int sa_nil)))))))
include B in
theorem ok_are_vectors {k : Nat} {f : Addr} {fd : FuncData} (F : Fun G.K "are_vectors" "are_vectors" s_are_vectors f fd) {a_are_between : Addr} (h_are_between : FnF G k "are_between" a_are_between 3 [] f_are_between) {a_check_rank_lot : Addr} (h_check_rank_lot : FnF G k "check_rank_lot" a_check_rank_lot 1 [] f_check_rank_lot) : FnOk G.P G.w G.K G.mg G.base (L2.CX G.P G.w) (k + 1) f fd ["lot", "value"] (spOf G 2 (fnSem 3 m_are_vectors)) :=
  fn_ok F sc_are_vectors rfl fun cdv A outer s H E g =>
  (sb_cons (ss_expr (ps_expr (se_call g h_check_rank_lot (sa_cons (se_loc (pv 0)) sa_nil)))) (sb_cons (ss_if (st_w (sw_or (st_not (st_val (se_isMB g (se_loc (pv 1)) B.b_isinstance B.is_tuple B.b_tuple))) (sw_or1 (st_ne g (se_callB g call_len ok_len B.b_len (by decide +kernel) (sa_cons (se_loc (pv 1)) sa_nil)) (se_callB g call_len ok_len B.b_len (by decide +kernel) (sa_cons (se_loc (pv 0)) sa_nil)))))) (sb_one (ss_ret se_bl)) sb_nil) (sb_one (ss_ret (se_callB g (cr_all g.calm) ok_all B.b_all (by decide +kernel) (sa_cons (se_fz (sf_lc (own := [(("some" : PySem.Str), 2)]) (tgt := (.n 2)) g (si_seq g (se_loc (pv 1))) (blkOk_by (by show blkC ["lot", "value", "some"] (defScope s_are_vectors) _ _ = true; decide +kernel)) (by decide) (fun _ _ _ _ _ => (pg_name (i := 2) (g.blk _ _ _ _ _).nd rfl (by first | exact .inl rfl | exact .inr rfl))) (fun _ _ _ _ _ => pts_yes) (fun _ _ _ _ _ => (se_and (se_call (g.blk _ _ _ _ _) h_are_between (sa_cons (se_loc (pv 2)) (sa_cons se_int (sa_cons (se_sub (se_shl se_int (se_gint (g.blk _ _ _ _ _) (B.c_MOST_SOURCES).choose_spec)) se_int) sa_nil)))) (se_one (se_le (se_callB (g.blk _ _ _ _ _) call_len ok_len B.b_len (by decide +kernel) (sa_cons (se_loc (pv 2)) sa_nil)) (se_gint (g.blk _ _ _ _ _) (B.c_MOST_VECTORS).choose_spec))))))) sa_nil))))))
include B in
theorem ok_Question_init {k : Nat} {f : Addr} {fd : FuncData} (F : Fun G.K "__init__" "Question.__init__" s_Question_init f fd) {a_are_tables : Addr} (h_are_tables : FnF G k "_are_tables" a_are_tables 1 [] f_are_tables) {a_check_lot : Addr} (h_check_lot : FnF G k "check_lot" a_check_lot 1 [] f_check_lot) {a_lots_on : Addr} (h_lots_on : FnF G k "lots_on" a_lots_on 1 [] f_lots_on) (hk : 2 ≤ k) : FnOk G.P G.w G.K G.mg G.base (L2.CX G.P G.w) (k + 1) f fd ["self", "lot", "parts"] (spOf G 3 (fnSem 4 m_Question_init)) :=
  fn_ok F sc_Question_init rfl fun cdv A outer s H E g =>
  (sb_cons (ss_expr (ps_expr (se_call g h_check_lot (sa_cons (se_loc (pv 1)) sa_nil)))) (sb_cons (ss_if (st_w (sw_or (st_not (st_val (se_call g h_are_tables (sa_cons (se_loc (pv 2)) sa_nil)))) (sw_or1 (st_ne g (se_call g h_lots_on (sa_cons (se_callTy g call_tuple_of ok_tuple B.b_tuple (by decide +kernel) (sa_cons (se_fz (sf_lc (own := [(("part" : PySem.Str), 3)]) (tgt := (.n 3)) g (si_seq g (se_loc (pv 2))) (blkOk_by (by show blkC ["self", "lot", "parts", "part"] (defScope s_Question_init) _ _ = true; decide +kernel)) (by decide) (fun _ _ _ _ _ => (pg_name (i := 3) (g.blk _ _ _ _ _).nd rfl (by first | exact .inl rfl | exact .inr rfl))) (fun _ _ _ _ _ => pts_yes) (fun _ _ _ _ _ => (se_attk (g.blk _ _ _ _ _) hk B.a_lot (se_loc (pv 3)))))) sa_nil)) sa_nil)) (se_loc (pv 1)))))) (sb_one (ss_raise g B.x_InvalidQuestion)) sb_nil) (sb_cons (ss_setf g B.o_Question (by decide) (se_loc (pv 0)) (se_loc (pv 1))) (sb_cons (ss_setf g B.o_Question (by decide) (se_loc (pv 0)) (se_loc (pv 2))) (sb_cons (ss_setf g B.o_Question (by decide) (se_loc (pv 0)) (se_callTy g call_tuple_of ok_tuple B.b_tuple (by decide +kernel) (sa_cons (se_fz (sf_lc (own := [(("part" : PySem.Str), 3)]) (tgt := (.n 3)) g (si_seq g (se_loc (pv 2))) (blkOk_by (by show blkC ["self", "lot", "parts", "part"] (defScope s_Question_init) _ _ = true; decide +kernel)) (by decide) (fun _ _ _ _ _ => (pg_name (i := 3) (g.blk _ _ _ _ _).nd rfl (by first | exact .inl rfl | exact .inr rfl))) (fun _ _ _ _ _ => pts_yes) (fun _ _ _ _ _ => (se_attk (g.blk _ _ _ _ _) hk B.a_lot (se_loc (pv 3)))))) sa_nil))) (sb_one (ss_setf g B.o_Question (by decide) (se_loc (pv 0)) (se_callTy g call_tuple_of ok_tuple B.b_tuple (by decide +kernel) (sa_cons (se_fz (sf_lc (own := [(("part" : PySem.Str), 3)]) (tgt := (.n 3)) g (si_seq g (se_loc (pv 2))) (blkOk_by (by show blkC ["self", "lot", "parts", "part"] (defScope s_Question_init) _ _ = true; decide +kernel)) (by decide) (fun _ _ _ _ _ => (pg_name (i := 3) (g.blk _ _ _ _ _).nd rfl (by first | exact .inl rfl | exact .inr rfl))) (fun _ _ _ _ _ => pts_yes) (fun _ _ _ _ _ => (se_callB (g.blk _ _ _ _ _) call_len ok_len B.b_len (by decide +kernel) (sa_cons (se_loc (pv 3)) sa_nil))))) sa_nil)))))))))
include B in
theorem ok_is_lot_within {k : Nat} {f : Addr} {fd : FuncData} (F : Fun G.K "is_lot_within" "is_lot_within" s_is_lot_within f fd) {a_is_lot : Addr} (h_is_lot : FnF G k "is_lot" a_is_lot 1 [] f_is_lot) {a_is_within : Addr} (h_is_within : FnF G k "is_within" a_is_within 2 [] f_is_within) : FnOk G.P G.w G.K G.mg G.base (L2.CX G.P G.w) (k + 1) f fd ["lot", "value"] (spOf G 2 (fnSem 2 m_is_lot_within)) :=
  fn_ok F sc_is_lot_within rfl fun cdv A outer s H E g =>
  (sb_one (ss_ret (se_and (se_call g h_is_lot (sa_cons (se_loc (pv 1)) sa_nil)) (se_one (se_call g h_is_within (sa_cons (se_loc (pv 1)) (sa_cons (se_loc (pv 0)) sa_nil)))))))
include B in
theorem ok_is_step_up {k : Nat} {f : Addr} {fd : FuncData} (F : Fun G.K "is_step_up" "is_step_up" s_is_step_up f fd) {a_is_within : Addr} (h_is_within : FnF G k "is_within" a_is_within 2 [] f_is_within) : FnOk G.P G.w G.K G.mg G.base (L2.CX G.P G.w) (k + 1) f fd ["low", "high"] (spOf G 2 (fnSem 2 m_is_step_up)) :=
  fn_ok F sc_is_step_up rfl fun cdv A outer s H E g =>
  (sb_one (ss_ret (se_and (se_ne g (se_loc (pv 0)) (se_loc (pv 1))) (se_one (se_call g h_is_within (sa_cons (se_loc (pv 0)) (sa_cons (se_loc (pv 1)) sa_nil)))))))
include B in
theorem ok_rank_fault {k : Nat} {f : Addr} {fd : FuncData} (F : Fun G.K "rank_fault" "rank_fault" s_rank_fault f fd) {a_basic_gains : Addr} (h_basic_gains : FnL G k "_basic_gains" a_basic_gains 1 [] f_basic_gains) {a_has_form : Addr} (h_has_form : FnF G k "_has_form" a_has_form 2 [] f_has_form) {a_check_rank_lot : Addr} (h_check_rank_lot : FnF G k "check_rank_lot" a_check_rank_lot 1 [] f_check_rank_lot) : FnOk G.P G.w G.K G.mg G.base (L2.CX G.P G.w) (k + 1) f fd ["lot", "value"] (spOf G 2 (fnSem 6 m_rank_fault)) :=
  fn_ok F sc_rank_fault rfl fun cdv A outer s H E g =>
  (sb_cons (ss_expr (ps_expr (se_call g h_check_rank_lot (sa_cons (se_loc (pv 0)) sa_nil)))) (sb_cons (ss_if (st_not (st_val (se_call g h_has_form (sa_cons (se_loc (pv 0)) (sa_cons (se_loc (pv 1)) sa_nil))))) (sb_one (ss_ret (se_tup (sa_cons se_str sa_nil)))) sb_nil) (sb_cons (ss_if (st_ne g (se_dget (hu1 g) (se_loc (pv 1)) (se_tup sa_nil) (fun _ _ => rfl)) se_int) (sb_one (ss_ret (se_tup (sa_cons se_str sa_nil)))) sb_nil) (sb_cons (ss_for (tgt := (.t [2, 3])) g (si_seq g (se_fz (sf_call g h_basic_gains (sa_cons (se_loc (pv 0)) sa_nil)))) (pg_tup g.calm (pgs_cons (pg_name (i := 2) g.nd rfl (by first | exact .inl rfl | exact .inr rfl)) (pgs_cons (pg_name (i := 3) g.nd rfl (by first | exact .inl rfl | exact .inr rfl)) pgs_nil))) (sb_one (ss_if (st_lt (se_callB g (cr_sum g.calm) ok_sum B.b_sum (by decide +kernel) (sa_cons (se_fz (sf_lc (own := [(("some" : PySem.Str), 4), (("times" : PySem.Str), 5)]) (tgt := (.t [4, 5])) g (si_itemsD g (se_loc (pv 3))) (blkOk_by (by show blkC ["lot", "value", "place", "gain", "some", "times"] (defScope s_rank_fault) _ _ = true; decide +kernel)) (by decide) (fun _ _ _ _ _ => (pg_tup (g.blk _ _ _ _ _).calm (pgs_cons (pg_name (i := 4) (g.blk _ _ _ _ _).nd rfl (by first | exact .inl rfl | exact .inr rfl)) (pgs_cons (pg_name (i := 5) (g.blk _ _ _ _ _).nd rfl (by first | exact .inl rfl | exact .inr rfl)) pgs_nil)))) (fun _ _ _ _ _ => pts_yes) (fun _ _ _ _ _ => (se_mul (g.blk _ _ _ _ _) (se_dget (hu1 (g.blk _ _ _ _ _)) (se_loc (pv 1)) (se_loc (pv 4)) (fun _ _ => rfl)) (se_loc (pv 5)))))) sa_nil)) se_int) (sb_one (ss_ret (se_loc (pv 2)))) sb_nil))) (sb_one (ss_ret se_non))))))
include B in
theorem ok_check_lots_of {k : Nat} {f : Addr} {fd : FuncData} (F : Fun G.K "check_lots_of" "check_lots_of" s_check_lots_of f fd) {a_check_lot : Addr} (h_check_lot : FnF G k "check_lot" a_check_lot 1 [] f_check_lot) {a_check_table : Addr} (h_check_table : FnF G k "check_table" a_check_table 1 [] f_check_table) {a_is_within : Addr} (h_is_within : FnF G k "is_within" a_is_within 2 [] f_is_within) (hk : 2 ≤ k) : FnOk G.P G.w G.K G.mg G.base (L2.CX G.P G.w) (k + 1) f fd ["table", "lots"] (spOf G 2 (fnSem 5 m_check_lots_of)) :=
  fn_ok F sc_check_lots_of rfl fun cdv A outer s H E g =>
  (sb_cons (ss_expr (ps_expr (se_call g h_check_table (sa_cons (se_loc (pv 0)) sa_nil)))) (sb_cons (ss_for (tgt := (.n 2)) g (si_seq g (se_loc (pv 1))) (pg_name (i := 2) g.nd rfl (by first | exact .inl rfl | exact .inr rfl)) (sb_one (ss_expr (ps_expr (se_call g h_check_lot (sa_cons (se_loc (pv 2)) sa_nil)))))) (sb_one (ss_for (tgt := (.t [3, 4])) g (si_zipB g B.b_zip (sa_cons (se_loc (pv 1)) (sa_cons (se_add g (se_slT g (se_loc (pv 1)) (so_some se_int) so_no) (se_tup (sa_cons (se_attk g hk B.a_lot (se_loc (pv 0))) sa_nil))) sa_nil))) (pg_tup g.calm (pgs_cons (pg_name (i := 3) g.nd rfl (by first | exact .inl rfl | exact .inr rfl)) (pgs_cons (pg_name (i := 4) g.nd rfl (by first | exact .inl rfl | exact .inr rfl)) pgs_nil))) (sb_one (ss_if (st_not (st_val (se_call g h_is_within (sa_cons (se_loc (pv 3)) (sa_cons (se_loc (pv 4)) sa_nil))))) (sb_one (ss_raise g B.x_InvalidOperation)) sb_nil))))))
include B in
theorem ok_check_vectors {k : Nat} {f : Addr} {fd : FuncData} (F : Fun G.K "_check_vectors" "_check_vectors" s_check_vectors f fd) {a_are_vectors : Addr} (h_are_vectors : FnF G k "are_vectors" a_are_vectors 2 [] f_are_vectors) : FnOk G.P G.w G.K G.mg G.base (L2.CX G.P G.w) (k + 1) f fd ["lot", "value"] (spOf G 2 (fnSem 2 m_check_vectors)) :=
  fn_ok F sc_check_vectors rfl fun cdv A outer s H E g =>
  (sb_one (ss_if (st_not (st_val (se_call g h_are_vectors (sa_cons (se_loc (pv 0)) (sa_cons (se_loc (pv 1)) sa_nil))))) (sb_one (ss_raise g B.x_InvalidOperation)) sb_nil))
include B in
theorem ok_Table_init {k : Nat} {f : Addr} {fd : FuncData} (F : Fun G.K "__init__" "Table.__init__" s_Table_init f fd) {a_check_lot : Addr} (h_check_lot : FnF G k "check_lot" a_check_lot 1 [] f_check_lot) {a_is_row : Addr} (h_is_row : FnF G k "is_row" a_is_row 2 [] f_is_row) (hk : 2 ≤ k) : FnOk G.P G.w G.K G.mg G.base (L2.CX G.P G.w) (k + 1) f fd ["self", "lot", "rows"] (spOf G 3 (fnSem 4 m_Table_init)) :=
  fn_ok F sc_Table_init rfl fun cdv A outer s H E g =>
  (sb_cons (ss_expr (ps_expr (se_call g h_check_lot (sa_cons (se_loc (pv 1)) sa_nil)))) (sb_cons (ss_if (st_w (sw_or (st_not (st_val (se_isMB g (se_loc (pv 2)) B.b_isinstance B.is_tuple B.b_tuple))) (sw_or (st_gt (se_callB g call_len ok_len B.b_len (by decide +kernel) (sa_cons (se_loc (pv 2)) sa_nil)) (se_gint g (B.c_MOST_ROWS).choose_spec)) (sw_or1 (st_not (st_val (se_callB g (cr_all g.calm) ok_all B.b_all (by decide +kernel) (sa_cons (se_fz (sf_lc (own := [(("row" : PySem.Str), 3)]) (tgt := (.n 3)) g (si_seq g (se_loc (pv 2))) (blkOk_by (by show blkC ["self", "lot", "rows", "row"] (defScope s_Table_init) _ _ = true; decide +kernel)) (by decide) (fun _ _ _ _ _ => (pg_name (i := 3) (g.blk _ _ _ _ _).nd rfl (by first | exact .inl rfl | exact .inr rfl))) (fun _ _ _ _ _ => pts_yes) (fun _ _ _ _ _ => (se_call (g.blk _ _ _ _ _) h_is_row (sa_cons (se_loc (pv 1)) (sa_cons (se_loc (pv 3)) sa_nil)))))) sa_nil)))))))) (sb_one (ss_raise g B.x_InvalidTable)) sb_nil) (sb_cons (ss_setf g B.o_Table (by decide) (se_loc (pv 0)) (se_loc (pv 1))) (sb_cons (ss_setf g B.o_Table (by decide) (se_loc (pv 0)) (se_fzD (sd_dc (own := [(("row" : PySem.Str), 3)]) (tgt := (.n 3)) g (si_seq g (se_loc (pv 2))) (blkOk_by (by show blkC ["self", "lot", "rows", "row"] (defScope s_Table_init) _ _ = true; decide +kernel)) (by decide) (fun _ _ _ _ _ => (pg_name (i := 3) (g.blk _ _ _ _ _).nd rfl (by first | exact .inl rfl | exact .inr rfl))) (fun _ _ _ _ _ => pts_yes) (fun _ _ _ _ _ => (se_loc (pv 3))) (fun _ _ _ _ _ => se_bl)))) (sb_one (ss_setf g B.o_Table (by decide) (se_loc (pv 0)) (se_callTy g call_tuple_of ok_tuple B.b_tuple (by decide +kernel) (sa_cons (se_fz (sf_callB g (cr_srtA g.calm g.u64) (by rw [g.K]; exact okF_srtA) B.b_sorted (by decide +kernel) (sa_cons (se_attk g hk B.a_Uknown (se_loc (pv 0))) sa_nil))) sa_nil))))))))
include B in
theorem ok_check_rank {k : Nat} {f : Addr} {fd : FuncData} (F : Fun G.K "check_rank" "check_rank" s_check_rank f fd) {a_rank_fault : Addr} (h_rank_fault : FnF G k "rank_fault" a_rank_fault 2 [] f_rank_fault) : FnOk G.P G.w G.K G.mg G.base (L2.CX G.P G.w) (k + 1) f fd ["lot", "value"] (spOf G 2 (fnSem 2 m_check_rank)) :=
  fn_ok F sc_check_rank rfl fun cdv A outer s H E g =>
  (sb_one (ss_if (st_notN (se_call g h_rank_fault (sa_cons (se_loc (pv 0)) (sa_cons (se_loc (pv 1)) sa_nil)))) (sb_one (ss_raise g B.x_InvalidRank)) sb_nil))
include B in
theorem ok_is_told_degree {k : Nat} {f : Addr} {fd : FuncData} (F : Fun G.K "_is_told_degree" "_is_told_degree" s_is_told_degree f fd) {a_is_between : Addr} (h_is_between : FnF G k "is_between" a_is_between 3 [] f_is_between) {a_is_lot_within : Addr} (h_is_lot_within : FnF G k "is_lot_within" a_is_lot_within 2 [] f_is_lot_within) {a_is_step_up : Addr} (h_is_step_up : FnF G k "is_step_up" a_is_step_up 2 [] f_is_step_up) : FnOk G.P G.w G.K G.mg G.base (L2.CX G.P G.w) (k + 1) f fd ["lot", "value"] (spOf G 2 (fnSem 4 m_is_told_degree)) :=
  fn_ok F sc_is_told_degree rfl fun cdv A outer s H E g =>
  (sb_cons (ss_if (st_w (sw_or (st_not (st_val (se_isMB g (se_loc (pv 1)) B.b_isinstance B.is_tuple B.b_tuple))) (sw_or (st_ne g (se_callB g call_len ok_len B.b_len (by decide +kernel) (sa_cons (se_loc (pv 1)) sa_nil)) se_int) (sw_or1 (st_not (st_val (se_call g h_is_between (sa_cons (se_sub_ix g (se_loc (pv 1)) se_int) (sa_cons se_int (sa_cons (se_gint g (B.c_MOST_K).choose_spec) sa_nil)))))))))) (sb_one (ss_ret se_bl)) sb_nil) (sb_cons (ss_setT g (ps_asg (se_slT g (se_loc (pv 1)) so_no (so_some se_int)) (pg_tup g.calm (pgs_cons (pg_name (i := 2) g.nd rfl (by first | exact .inl rfl | exact .inr rfl)) (pgs_cons (pg_name (i := 3) g.nd rfl (by first | exact .inl rfl | exact .inr rfl)) pgs_nil))))) (sb_one (ss_ret (se_and (se_call g h_is_lot_within (sa_cons (se_loc (pv 0)) (sa_cons (se_loc (pv 2)) sa_nil))) (se_and (se_call g h_is_lot_within (sa_cons (se_loc (pv 0)) (sa_cons (se_loc (pv 3)) sa_nil))) (se_one (se_call g h_is_step_up (sa_cons (se_loc (pv 2)) (sa_cons (se_loc (pv 3)) sa_nil))))))))))
include B in
theorem ok_vector_rank {k : Nat} {f : Addr} {fd : FuncData} (F : Fun G.K "vector_rank" "vector_rank" s_vector_rank f fd) {a_check_vectors : Addr} (h_check_vectors : FnF G k "_check_vectors" a_check_vectors 2 [] f_check_vectors) {a_rank_of : Addr} (h_rank_of : FnF G k "_rank_of" a_rank_of 1 [] f_rank_of) {a_lots_within : Addr} (h_lots_within : FnF G k "lots_within" a_lots_within 1 [] f_lots_within) : FnOk G.P G.w G.K G.mg G.base (L2.CX G.P G.w) (k + 1) f fd ["lot", "vectors"] (spOf G 2 (fnSem 6 m_vector_rank)) :=
  fn_ok F sc_vector_rank rfl fun cdv A outer s H E g =>
  (sb_cons (ss_expr (ps_expr (se_call g h_check_vectors (sa_cons (se_loc (pv 0)) (sa_cons (se_loc (pv 1)) sa_nil))))) (sb_cons (ss_set (ps_set (i := 2) g.nd rfl (by first | exact .inl rfl | exact .inr rfl) (se_dzip g B.b_dict B.b_zip (sa_cons (se_loc (pv 0)) (sa_cons (se_loc (pv 1)) sa_nil))))) (sb_one (ss_ret (se_fzD (sd_dc (own := [(("some" : PySem.Str), 3)]) (tgt := (.n 3)) g (si_seq g (se_call g h_lots_within (sa_cons (se_loc (pv 0)) sa_nil))) (blkOk_by (by show blkC ["lot", "vectors", "at", "some", "letter", "vector"] (defScope s_vector_rank) _ _ = true; decide +kernel)) (by decide) (fun _ _ _ _ _ => (pg_name (i := 3) (g.blk _ _ _ _ _).nd rfl (by first | exact .inl rfl | exact .inr rfl))) (fun _ _ _ _ _ => pts_yes) (fun _ _ _ _ _ => (se_loc (pv 3))) (fun _ _ _ _ _ => (se_call (g.blk _ _ _ _ _) h_rank_of (sa_cons (se_fz (sf_lc2 (own := [(("letter" : PySem.Str), 4), (("vector" : PySem.Str), 5)]) (vs1 := [5]) (tgt := (.n 4)) (tgt1 := (.n 5)) (g.blk _ _ _ _ _) (si_seq (g.blk _ _ _ _ _) (se_loc (pv 3))) (blkOk_by (by kernel_rfl)) (by decide) (by decide) (by decide) (fun _ _ _ _ _ => (pg_name (i := 4) ((g.blk _ _ _ _ _).blk _ _ _ _ _).nd rfl (by first | exact .inl rfl | exact .inr rfl))) (fun _ _ _ _ _ => pts_yes) (fun _ _ _ _ _ => (si_seq ((g.blk _ _ _ _ _).blk _ _ _ _ _) (se_dget (hu1 ((g.blk _ _ _ _ _).blk _ _ _ _ _)) (se_loc (pv 2)) (se_loc (pv 4)) (fun _ _ => rfl)))) (fun _ _ _ _ _ => (pg_name (i := 5) ((g.blk _ _ _ _ _).blk _ _ _ _ _).nd rfl (by first | exact .inl rfl | exact .inr rfl))) (fun _ _ _ _ _ => pts_yes) (fun _ _ _ _ _ => (se_loc (pv 5))))) sa_nil)))))))))
include B in
theorem ok_step_vectors {k : Nat} {f : Addr} {fd : FuncData} (F : Fun G.K "step_vectors" "step_vectors" s_step_vectors f fd) {a_check_rank_lot : Addr} (h_check_rank_lot : FnF G k "check_rank_lot" a_check_rank_lot 1 [] f_check_rank_lot) {a_is_between : Addr} (h_is_between : FnF G k "is_between" a_is_between 3 [] f_is_between) {a_is_lot_within : Addr} (h_is_lot_within : FnF G k "is_lot_within" a_is_lot_within 2 [] f_is_lot_within) (hk : 2 ≤ k) : FnOk G.P G.w G.K G.mg G.base (L2.CX G.P G.w) (k + 1) f fd ["lot", "counts"] (spOf G 2 (fnSem 8 m_step_vectors)) :=
  fn_ok F sc_step_vectors rfl fun cdv A outer s H E g =>
  (sb_cons (ss_expr (ps_expr (se_call g h_check_rank_lot (sa_cons (se_loc (pv 0)) sa_nil)))) (sb_cons (ss_if (st_w (sw_or (st_not (st_val (se_isMB g (se_loc (pv 1)) B.b_isinstance B.is_dict B.b_dict))) (sw_or1 (st_not (st_val (se_callB g (cr_all g.calm) ok_all B.b_all (by decide +kernel) (sa_cons (se_fz (sf_lc (own := [(("some" : PySem.Str), 3)]) (tgt := (.n 3)) g (si_keysG g (se_loc (pv 1))) (blkOk_by (by show blkC ["lot", "counts", "owners", "some", "_", "letter", "many", "source"] (defScope s_step_vectors) _ _ = true; decide +kernel)) (by decide) (fun _ _ _ _ _ => (pg_name (i := 3) (g.blk _ _ _ _ _).nd rfl (by first | exact .inl rfl | exact .inr rfl))) (fun _ _ _ _ _ => pts_yes) (fun _ _ _ _ _ => (se_and (se_call (g.blk _ _ _ _ _) h_is_lot_within (sa_cons (se_loc (pv 0)) (sa_cons (se_loc (pv 3)) sa_nil))) (se_one (se_ne (g.blk _ _ _ _ _) (se_loc (pv 3)) (se_tup sa_nil))))))) sa_nil))))))) (sb_one (ss_raise g B.x_InvalidOperation)) sb_nil) (sb_cons (ss_if (st_not (st_val (se_callB g (cr_all g.calm) ok_all B.b_all (by decide +kernel) (sa_cons (se_fz (sf_lc (own := [(("many" : PySem.Str), 6)]) (tgt := (.n 6)) g (si_valsD g (se_loc (pv 1))) (blkOk_by (by show blkC ["lot", "counts", "owners", "some", "_", "letter", "many", "source"] (defScope s_step_vectors) _ _ = true; decide +kernel)) (by decide) (fun _ _ _ _ _ => (pg_name (i := 6) (g.blk _ _ _ _ _).nd rfl (by first | exact .inl rfl | exact .inr rfl))) (fun _ _ _ _ _ => pts_yes) (fun _ _ _ _ _ => (se_call (g.blk _ _ _ _ _) h_is_between (sa_cons (se_loc (pv 6)) (sa_cons se_int (sa_cons (se_gint (g.blk _ _ _ _ _) (B.c_GREATEST).choose_spec) sa_nil))))))) sa_nil)))) (sb_one (ss_raise g B.x_InvalidOperation)) sb_nil) (sb_cons (ss_if (st_gt (se_sumV g B.b_sum (se_loc (pv 1))) (se_gint g (B.c_MOST_SOURCES).choose_spec)) (sb_one (ss_raiseI' g hk B.x_TooMany (se_gint g (B.c_MOST_SOURCES).choose_spec))) sb_nil) (sb_cons (ss_set (ps_set (i := 2) g.nd rfl (by first | exact .inl rfl | exact .inr rfl) (se_fz (sf_lc2 (own := [(("some" : PySem.Str), 3), (("_" : PySem.Str), 4)]) (vs1 := [4]) (tgt := (.n 3)) (tgt1 := (.n 4)) g (si_seq g (se_fz (sf_callB g (cr_srtA g.calm g.u64) (by rw [g.K]; exact okF_srtA) B.b_sorted (by decide +kernel) (sa_cons (se_loc (pv 1)) sa_nil)))) (blkOk_by (by show blkC ["lot", "counts", "owners", "some", "_", "letter", "many", "source"] (defScope s_step_vectors) _ _ = true; decide +kernel)) (by decide) (by decide) (by decide) (fun _ _ _ _ _ => (pg_name (i := 3) (g.blk _ _ _ _ _).nd rfl (by first | exact .inl rfl | exact .inr rfl))) (fun _ _ _ _ _ => pts_yes) (fun _ _ _ _ _ => (si_range1 (g.blk _ _ _ _ _) B.b_range (sa_cons (se_dget (hu1 (g.blk _ _ _ _ _)) (se_loc (pv 1)) (se_loc (pv 3)) (fun _ _ => rfl)) sa_nil))) (fun _ _ _ _ _ => (pg_name (i := 4) (g.blk _ _ _ _ _).nd rfl (by first | exact .inl rfl | exact .inr rfl))) (fun _ _ _ _ _ => pts_yes) (fun _ _ _ _ _ => (se_loc (pv 3))))))) (sb_one (ss_ret (se_callTy g call_tuple_of ok_tuple B.b_tuple (by decide +kernel) (sa_cons (se_fz (sf_lc (own := [(("letter" : PySem.Str), 5)]) (tgt := (.n 5)) g (si_seq g (se_loc (pv 0))) (blkOk_by (by show blkC ["lot", "counts", "owners", "some", "_", "letter", "many", "source"] (defScope s_step_vectors) _ _ = true; decide +kernel)) (by decide) (fun _ _ _ _ _ => (pg_name (i := 5) (g.blk _ _ _ _ _).nd rfl (by first | exact .inl rfl | exact .inr rfl))) (fun _ _ _ _ _ => pts_yes) (fun _ _ _ _ _ => (se_callTy (g.blk _ _ _ _ _) call_tuple_of ok_tuple B.b_tuple (by decide +kernel) (sa_cons (se_fz (sf_lc (own := [(("source" : PySem.Str), 7), (("some" : PySem.Str), 3)]) (tgt := (.t [7, 3])) (g.blk _ _ _ _ _) (si_enum (g.blk _ _ _ _ _) B.b_enumerate (sa_cons (se_loc (pv 2)) sa_nil)) (blkOk_by (by kernel_rfl)) (by decide) (fun _ _ _ _ _ => (pg_tup ((g.blk _ _ _ _ _).blk _ _ _ _ _).calm (pgs_cons (pg_name (i := 7) ((g.blk _ _ _ _ _).blk _ _ _ _ _).nd rfl (by first | exact .inl rfl | exact .inr rfl)) (pgs_cons (pg_name (i := 3) ((g.blk _ _ _ _ _).blk _ _ _ _ _).nd rfl (by first | exact .inl rfl | exact .inr rfl)) pgs_nil)))) (fun _ _ _ _ _ => (pts_if (st_in ((g.blk _ _ _ _ _).blk _ _ _ _ _) (se_loc (pv 5)) (se_loc (pv 3))))) (fun _ _ _ _ _ => (se_shl se_int (se_loc (pv 7)))))) sa_nil))))) sa_nil)))))))))
include B in
theorem ok_beside {k : Nat} {f : Addr} {fd : FuncData} (F : Fun G.K "beside" "beside" s_beside f fd) {a_check_vectors : Addr} (h_check_vectors : FnF G k "_check_vectors" a_check_vectors 2 [] f_check_vectors) {a_sources_of : Addr} (h_sources_of : FnF G k "_sources_of" a_sources_of 1 [] f_sources_of) (hk : 2 ≤ k) : FnOk G.P G.w G.K G.mg G.base (L2.CX G.P G.w) (k + 1) f fd ["lot", "one", "other"] (spOf G 3 (fnSem 9 m_beside)) :=
  fn_ok F sc_beside rfl fun cdv A outer s H E g =>
  (sb_cons (ss_expr (ps_expr (se_call g h_check_vectors (sa_cons (se_loc (pv 0)) (sa_cons (se_loc (pv 1)) sa_nil))))) (sb_cons (ss_expr (ps_expr (se_call g h_check_vectors (sa_cons (se_loc (pv 0)) (sa_cons (se_loc (pv 2)) sa_nil))))) (sb_cons (ss_set (ps_set (i := 3) g.nd rfl (by first | exact .inl rfl | exact .inr rfl) (se_call g h_sources_of (sa_cons (se_loc (pv 1)) sa_nil)))) (sb_cons (ss_if (st_gt (se_add g (se_loc (pv 3)) (se_call g h_sources_of (sa_cons (se_loc (pv 2)) sa_nil))) (se_gint g (B.c_MOST_SOURCES).choose_spec)) (sb_one (ss_raiseI' g hk B.x_TooMany (se_gint g (B.c_MOST_SOURCES).choose_spec))) sb_nil) (sb_cons (ss_set (ps_set (i := 4) g.nd rfl (by first | exact .inl rfl | exact .inr rfl) (se_callTy g call_tuple_of ok_tuple B.b_tuple (by decide +kernel) (sa_cons (se_fz (sf_lc (own := [(("first" : PySem.Str), 5), (("second" : PySem.Str), 6)]) (tgt := (.t [5, 6])) g (si_zipB g B.b_zip (sa_cons (se_loc (pv 1)) (sa_cons (se_loc (pv 2)) sa_nil))) (blkOk_by (by show blkC ["lot", "one", "other", "needed", "both", "first", "second", "some", "vector"] (defScope s_beside) _ _ = true; decide +kernel)) (by decide) (fun _ _ _ _ _ => (pg_tup (g.blk _ _ _ _ _).calm (pgs_cons (pg_name (i := 5) (g.blk _ _ _ _ _).nd rfl (by first | exact .inl rfl | exact .inr rfl)) (pgs_cons (pg_name (i := 6) (g.blk _ _ _ _ _).nd rfl (by first | exact .inl rfl | exact .inr rfl)) pgs_nil)))) (fun _ _ _ _ _ => pts_yes) (fun _ _ _ _ _ => (se_add (g.blk _ _ _ _ _) (se_loc (pv 5)) (se_callTy (g.blk _ _ _ _ _) call_tuple_of ok_tuple B.b_tuple (by decide +kernel) (sa_cons (se_fz (sf_lc (own := [(("vector" : PySem.Str), 8)]) (tgt := (.n 8)) (g.blk _ _ _ _ _) (si_seq (g.blk _ _ _ _ _) (se_loc (pv 6))) (blkOk_by (by kernel_rfl)) (by decide) (fun _ _ _ _ _ => (pg_name (i := 8) ((g.blk _ _ _ _ _).blk _ _ _ _ _).nd rfl (by first | exact .inl rfl | exact .inr rfl))) (fun _ _ _ _ _ => pts_yes) (fun _ _ _ _ _ => (se_shl (se_loc (pv 8)) (se_loc (pv 3)))))) sa_nil)))))) sa_nil)))) (sb_cons (ss_if (st_not (st_val (se_callB g (cr_all g.calm) ok_all B.b_all (by decide +kernel) (sa_cons (se_fz (sf_lc (own := [(("some" : PySem.Str), 7)]) (tgt := (.n 7)) g (si_seq g (se_loc (pv 4))) (blkOk_by (by show blkC ["lot", "one", "other", "needed", "both", "first", "second", "some", "vector"] (defScope s_beside) _ _ = true; decide +kernel)) (by decide) (fun _ _ _ _ _ => (pg_name (i := 7) (g.blk _ _ _ _ _).nd rfl (by first | exact .inl rfl | exact .inr rfl))) (fun _ _ _ _ _ => pts_yes) (fun _ _ _ _ _ => (se_le (se_callB (g.blk _ _ _ _ _) call_len ok_len B.b_len (by decide +kernel) (sa_cons (se_loc (pv 7)) sa_nil)) (se_gint (g.blk _ _ _ _ _) (B.c_MOST_VECTORS).choose_spec))))) sa_nil)))) (sb_one (ss_raiseI' g hk B.x_TooMany (se_gint g (B.c_MOST_VECTORS).choose_spec))) sb_nil) (sb_one (ss_ret (se_loc (pv 4))))))))))
include B in
theorem ok_table_of {k : Nat} {f : Addr} {fd : FuncData} (F : Fun G.K "table_of" "table_of" s_table_of f fd)  {j_Table : Nat} (hj_Table : j_Table + 1 ≤ k) (K_Table : MkT G j_Table "Table" 9 2 f_Table_init) : FnOk G.P G.w G.K G.mg G.base (L2.CX G.P G.w) (k + 1) f fd ["lot", "rows"] (spOf G 2 (fnSem 5 m_table_of)) :=
  fn_ok F sc_table_of rfl fun cdv A outer s H E g =>
  (sb_cons (ss_set (ps_set (i := 2) g.nd rfl (by first | exact .inl rfl | exact .inr rfl) (se_mkjO g (by omega) K_Table B.o_Table rfl B.kp_Table (sa_cons (se_loc (pv 0)) (sa_cons (se_tup sa_nil) sa_nil))))) (sb_cons (ss_setDc (i := 3) (own := [(("row" : PySem.Str), 4)]) (tgt := (.n 4)) g rfl rfl rfl rfl (by first | rfl | decide) (si_seq g (se_loc (pv 1))) (blkOk_by (by show blkC ["lot", "rows", "table", "known", "row"] (defScope s_table_of) _ _ = true; decide +kernel)) (by decide) (fun _ _ _ _ _ => (pg_name (i := 4) (g.blk _ _ _ _ _).nd rfl (by first | exact .inl rfl | exact .inr rfl))) (fun _ _ _ _ _ => pts_yes) (fun _ _ _ _ _ => (se_loc (pv 4))) (fun _ _ _ _ _ => se_bl)) (sb_cons (ss_setf g B.o_Table (by decide) (se_loc (pv 2)) (se_loc (pv 3))) (sb_cons (ss_setf g B.o_Table (by decide) (se_loc (pv 2)) (se_callTy g call_tuple_of ok_tuple B.b_tuple (by decide +kernel) (sa_cons (se_fz (sf_callB g (cr_srtA g.calm g.u64) (by rw [g.K]; exact okF_srtA) B.b_sorted (by decide +kernel) (sa_cons (se_loc (pv 3)) sa_nil))) sa_nil))) (sb_one (ss_ret (se_loc (pv 2))))))))
include B in
theorem ok_is_told {k : Nat} {f : Addr} {fd : FuncData} (F : Fun G.K "is_told" "is_told" s_is_told f fd) {a_is_told_degree : Addr} (h_is_told_degree : FnF G k "_is_told_degree" a_is_told_degree 2 [] f_is_told_degree) {a_check_lot : Addr} (h_check_lot : FnF G k "check_lot" a_check_lot 1 [] f_check_lot) : FnOk G.P G.w G.K G.mg G.base (L2.CX G.P G.w) (k + 1) f fd ["lot", "value"] (spOf G 2 (fnSem 3 m_is_told)) :=
  fn_ok F sc_is_told rfl fun cdv A outer s H E g =>
  (sb_cons (ss_expr (ps_expr (se_call g h_check_lot (sa_cons (se_loc (pv 0)) sa_nil)))) (sb_cons (ss_if (st_w (sw_or (st_not (st_val (se_isMB g (se_loc (pv 1)) B.b_isinstance B.is_tuple B.b_tuple))) (sw_or1 (st_gt (se_callB g call_len ok_len B.b_len (by decide +kernel) (sa_cons (se_loc (pv 1)) sa_nil)) (se_gint g (B.c_MOST_TOLD).choose_spec))))) (sb_one (ss_ret se_bl)) sb_nil) (sb_one (ss_ret (se_callB g (cr_all g.calm) ok_all B.b_all (by decide +kernel) (sa_cons (se_fz (sf_lc (own := [(("one" : PySem.Str), 2)]) (tgt := (.n 2)) g (si_seq g (se_loc (pv 1))) (blkOk_by (by show blkC ["lot", "value", "one"] (defScope s_is_told) _ _ = true; decide +kernel)) (by decide) (fun _ _ _ _ _ => (pg_name (i := 2) (g.blk _ _ _ _ _).nd rfl (by first | exact .inl rfl | exact .inr rfl))) (fun _ _ _ _ _ => pts_yes) (fun _ _ _ _ _ => (se_call (g.blk _ _ _ _ _) h_is_told_degree (sa_cons (se_loc (pv 0)) (sa_cons (se_loc (pv 2)) sa_nil)))))) sa_nil))))))
include B in
theorem ok_step_counts {k : Nat} {f : Addr} {fd : FuncData} (F : Fun G.K "step_counts" "step_counts" s_step_counts f fd) {a_check_rank : Addr} (h_check_rank : FnF G k "check_rank" a_check_rank 2 [] f_check_rank) {a_lots_within : Addr} (h_lots_within : FnF G k "lots_within" a_lots_within 1 [] f_lots_within) {a_step_times : Addr} (h_step_times : FnF G k "step_times" a_step_times 3 [] f_step_times) : FnOk G.P G.w G.K G.mg G.base (L2.CX G.P G.w) (k + 1) f fd ["lot", "rank"] (spOf G 2 (fnSem 3 m_step_counts)) :=
  fn_ok F sc_step_counts rfl fun cdv A outer s H E g =>
  (sb_cons (ss_expr (ps_expr (se_call g h_check_rank (sa_cons (se_loc (pv 0)) (sa_cons (se_loc (pv 1)) sa_nil))))) (sb_one (ss_ret (se_fzD (sd_dc (own := [(("some" : PySem.Str), 2)]) (tgt := (.n 2)) g (si_seq g (se_call g h_lots_within (sa_cons (se_loc (pv 0)) sa_nil))) (blkOk_by (by show blkC ["lot", "rank", "some"] (defScope s_step_counts) _ _ = true; decide +kernel)) (by decide) (fun _ _ _ _ _ => (pg_name (i := 2) (g.blk _ _ _ _ _).nd rfl (by first | exact .inl rfl | exact .inr rfl))) (fun _ _ _ _ _ => (pts_if (st_ne (g.blk _ _ _ _ _) (se_loc (pv 2)) (se_tup sa_nil)))) (fun _ _ _ _ _ => (se_loc (pv 2))) (fun _ _ _ _ _ => (se_call (g.blk _ _ _ _ _) h_step_times (sa_cons (se_loc (pv 0)) (sa_cons (se_loc (pv 1)) (sa_cons (se_loc (pv 2)) sa_nil))))))))))
include B in
theorem ok_project {k : Nat} {f : Addr} {fd : FuncData} (F : Fun G.K "project" "project" s_project f fd) {a_check_lots_of : Addr} (h_check_lots_of : FnF G k "check_lots_of" a_check_lots_of 2 [] f_check_lots_of) {a_parts_at : Addr} (h_parts_at : FnF G k "parts_at" a_parts_at 3 [] f_parts_at) {a_table_of : Addr} (h_table_of : FnF G k "table_of" a_table_of 2 [] f_table_of) (hk : 2 ≤ k) : FnOk G.P G.w G.K G.mg G.base (L2.CX G.P G.w) (k + 1) f fd ["table", "lot"] (spOf G 2 (fnSem 2 m_project)) :=
  fn_ok F sc_project rfl fun cdv A outer s H E g =>
  (sb_cons (ss_expr (ps_expr (se_call g h_check_lots_of (sa_cons (se_loc (pv 0)) (sa_cons (se_tup (sa_cons (se_loc (pv 1)) sa_nil)) sa_nil))))) (sb_one (ss_ret (se_call g h_table_of (sa_cons (se_loc (pv 1)) (sa_cons (se_call g h_parts_at (sa_cons (se_attk g hk B.a_rows (se_loc (pv 0))) (sa_cons (se_attk g hk B.a_lot (se_loc (pv 0))) (sa_cons (se_loc (pv 1)) sa_nil)))) sa_nil))))))
include B in
theorem ok_check_told {k : Nat} {f : Addr} {fd : FuncData} (F : Fun G.K "check_told" "check_told" s_check_told f fd) {a_is_told : Addr} (h_is_told : FnF G k "is_told" a_is_told 2 [] f_is_told) : FnOk G.P G.w G.K G.mg G.base (L2.CX G.P G.w) (k + 1) f fd ["lot", "value"] (spOf G 2 (fnSem 2 m_check_told)) :=
  fn_ok F sc_check_told rfl fun cdv A outer s H E g =>
  (sb_one (ss_if (st_not (st_val (se_call g h_is_told (sa_cons (se_loc (pv 0)) (sa_cons (se_loc (pv 1)) sa_nil))))) (sb_one (ss_raise g B.x_InvalidTold)) sb_nil))
include B in
theorem ok_made_table {k : Nat} {f : Addr} {fd : FuncData} (F : Fun G.K "made_table" "made_table" s_made_table f fd) {a_check_vectors : Addr} (h_check_vectors : FnF G k "_check_vectors" a_check_vectors 2 [] f_check_vectors) {a_rank_of : Addr} (h_rank_of : FnF G k "_rank_of" a_rank_of 1 [] f_rank_of) {a_said_by : Addr} (h_said_by : FnF G k "_said_by" a_said_by 2 [] f_said_by) {a_table_of : Addr} (h_table_of : FnF G k "table_of" a_table_of 2 [] f_table_of) (hk : 2 ≤ k) : FnOk G.P G.w G.K G.mg G.base (L2.CX G.P G.w) (k + 1) f fd ["lot", "vectors"] (spOf G 2 (fnSem 11 m_made_table)) :=
  fn_ok F sc_made_table rfl fun cdv A outer s H E g =>
  (sb_cons (ss_expr (ps_expr (se_call g h_check_vectors (sa_cons (se_loc (pv 0)) (sa_cons (se_loc (pv 1)) sa_nil))))) (sb_cons (ss_set (ps_set (i := 2) g.nd rfl (by first | exact .inl rfl | exact .inr rfl) (se_call g h_rank_of (sa_cons (se_fz (sf_lc2 (own := [(("some" : PySem.Str), 7), (("vector" : PySem.Str), 8)]) (vs1 := [8]) (tgt := (.n 7)) (tgt1 := (.n 8)) g (si_seq g (se_loc (pv 1))) (blkOk_by (by show blkC ["lot", "vectors", "rank", "rows", "source", "turned", "row", "some", "vector", "number", "bits"] (defScope s_made_table) _ _ = true; decide +kernel)) (by decide) (by decide) (by decide) (fun _ _ _ _ _ => (pg_name (i := 7) (g.blk _ _ _ _ _).nd rfl (by first | exact .inl rfl | exact .inr rfl))) (fun _ _ _ _ _ => pts_yes) (fun _ _ _ _ _ => (si_seq (g.blk _ _ _ _ _) (se_loc (pv 7)))) (fun _ _ _ _ _ => (pg_name (i := 8) (g.blk _ _ _ _ _).nd rfl (by first | exact .inl rfl | exact .inr rfl))) (fun _ _ _ _ _ => pts_yes) (fun _ _ _ _ _ => (se_loc (pv 8))))) sa_nil)))) (sb_cons (ss_if (st_gt (se_shl se_int (se_loc (pv 2))) (se_gint g (B.c_MOST_ROWS).choose_spec)) (sb_one (ss_raiseI' g hk B.x_TooMany (se_gint g (B.c_MOST_ROWS).choose_spec))) sb_nil) (sb_cons (ss_set (ps_set (i := 3) g.nd rfl (by first | exact .inl rfl | exact .inr rfl) (se_ownD (sd_disp g (sps_cons (se_mul g (se_tup (sa_cons se_int sa_nil)) (se_callB g call_len ok_len B.b_len (by decide +kernel) (sa_cons (se_loc (pv 0)) sa_nil))) se_bl sps_nil))))) (sb_cons (ss_for (tgt := (.n 4)) g (si_range1 g B.b_range (sa_cons (se_gint g (B.c_MOST_SOURCES).choose_spec) sa_nil)) (pg_name (i := 4) g.nd rfl (by first | exact .inl rfl | exact .inr rfl)) (sb_cons (ss_setLc (i := 5) (own := [(("some" : PySem.Str), 7)]) (tgt := (.n 7)) g (fun _ _ _ h => fz_read h) rfl rfl rfl rfl (by first | rfl | decide) (si_seq g (se_loc (pv 1))) (blkOk_by (by show blkC ["lot", "vectors", "rank", "rows", "source", "turned", "row", "some", "vector", "number", "bits"] (defScope s_made_table) _ _ = true; decide +kernel)) (by decide) (fun _ _ _ _ _ => (pg_name (i := 7) (g.blk _ _ _ _ _).nd rfl (by first | exact .inl rfl | exact .inr rfl))) (fun _ _ _ _ _ => pts_yes) (fun _ _ _ _ _ => (se_call (g.blk _ _ _ _ _) h_said_by (sa_cons (se_loc (pv 7)) (sa_cons (se_loc (pv 4)) sa_nil))))) (sb_one (ss_for (tgt := (.n 6)) g (si_seq g (se_fz (sf_callTy g (cr_listA g.calm) (by rw [g.K]; exact okF_listA) B.b_list (by decide +kernel) (sa_cons (se_loc (pv 3)) sa_nil)))) (pg_name (i := 6) g.nd rfl (by first | exact .inl rfl | exact .inr rfl)) (sb_one (ss_setd (hu1 g) (se_loc (pv 3)) (se_callTy g call_tuple_of ok_tuple B.b_tuple (by decide +kernel) (sa_cons (se_fz (sf_lc (own := [(("number" : PySem.Str), 9), (("bits" : PySem.Str), 10)]) (tgt := (.t [9, 10])) g (si_zipB g B.b_zip (sa_cons (se_loc (pv 6)) (sa_cons (se_loc (pv 5)) sa_nil))) (blkOk_by (by show blkC ["lot", "vectors", "rank", "rows", "source", "turned", "row", "some", "vector", "number", "bits"] (defScope s_made_table) _ _ = true; decide +kernel)) (by decide) (fun _ _ _ _ _ => (pg_tup (g.blk _ _ _ _ _).calm (pgs_cons (pg_name (i := 9) (g.blk _ _ _ _ _).nd rfl (by first | exact .inl rfl | exact .inr rfl)) (pgs_cons (pg_name (i := 10) (g.blk _ _ _ _ _).nd rfl (by first | exact .inl rfl | exact .inr rfl)) pgs_nil)))) (fun _ _ _ _ _ => pts_yes) (fun _ _ _ _ _ => (se_xor (se_loc (pv 9)) (se_loc (pv 10)))))) sa_nil)) se_bl rfl)))))) (sb_one (ss_ret (se_call g h_table_of (sa_cons (se_loc (pv 0)) (sa_cons (se_fz (sf_callTy g (cr_listA g.calm) (by rw [g.K]; exact okF_listA) B.b_list (by decide +kernel) (sa_cons (se_loc (pv 3)) sa_nil))) sa_nil))))))))))
include B in
theorem ok_reaching {k : Nat} {f : Addr} {fd : FuncData} (F : Fun G.K "reaching" "reaching" s_reaching f fd) {a_check_vectors : Addr} (h_check_vectors : FnF G k "_check_vectors" a_check_vectors 2 [] f_check_vectors) {a_are_lots : Addr} (h_are_lots : FnF G k "are_lots" a_are_lots 1 [] f_are_lots) {a_check_rank_lot : Addr} (h_check_rank_lot : FnF G k "check_rank_lot" a_check_rank_lot 1 [] f_check_rank_lot) {a_lots_on : Addr} (h_lots_on : FnF G k "lots_on" a_lots_on 1 [] f_lots_on) {a_made_table : Addr} (h_made_table : FnF G k "made_table" a_made_table 2 [] f_made_table) {a_project : Addr} (h_project : FnF G k "project" a_project 2 [] f_project) {j_Question : Nat} (hj_Question : j_Question + 1 ≤ k) (K_Question : MkT G j_Question "Question" 10 2 f_Question_init) : FnOk G.P G.w G.K G.mg G.base (L2.CX G.P G.w) (k + 1) f fd ["lot", "lots", "vectors"] (spOf G 3 (fnSem 5 m_reaching)) :=
  fn_ok F sc_reaching rfl fun cdv A outer s H E g =>
  (sb_cons (ss_expr (ps_expr (se_call g h_check_rank_lot (sa_cons (se_loc (pv 0)) sa_nil)))) (sb_cons (ss_if (st_w (sw_or (st_not (st_val (se_call g h_are_lots (sa_cons (se_loc (pv 1)) sa_nil)))) (sw_or1 (st_not (st_lele se_int (se_callB g call_len ok_len B.b_len (by decide +kernel) (sa_cons (se_loc (pv 1)) sa_nil)) (se_gint g (B.c_MOST_PARTS).choose_spec)))))) (sb_one (ss_raise g B.x_InvalidLot)) sb_nil) (sb_cons (ss_expr (ps_expr (se_call g h_check_vectors (sa_cons (se_loc (pv 0)) (sa_cons (se_loc (pv 2)) sa_nil))))) (sb_cons (ss_if (st_ne g (se_call g h_lots_on (sa_cons (se_loc (pv 1)) sa_nil)) (se_loc (pv 0))) (sb_one (ss_raise g B.x_InvalidOperation)) sb_nil) (sb_cons (ss_set (ps_set (i := 3) g.nd rfl (by first | exact .inl rfl | exact .inr rfl) (se_call g h_made_table (sa_cons (se_loc (pv 0)) (sa_cons (se_loc (pv 2)) sa_nil))))) (sb_one (ss_ret (se_mkj g (by omega) K_Question B.o_Question rfl B.kp_Question (sa_cons (se_loc (pv 0)) (sa_cons (se_callTy g call_tuple_of ok_tuple B.b_tuple (by decide +kernel) (sa_cons (se_fz (sf_lc (own := [(("some" : PySem.Str), 4)]) (tgt := (.n 4)) g (si_seq g (se_loc (pv 1))) (blkOk_by (by show blkC ["lot", "lots", "vectors", "table", "some"] (defScope s_reaching) _ _ = true; decide +kernel)) (by decide) (fun _ _ _ _ _ => (pg_name (i := 4) (g.blk _ _ _ _ _).nd rfl (by first | exact .inl rfl | exact .inr rfl))) (fun _ _ _ _ _ => pts_yes) (fun _ _ _ _ _ => (se_call (g.blk _ _ _ _ _) h_project (sa_cons (se_loc (pv 3)) (sa_cons (se_loc (pv 4)) sa_nil)))))) sa_nil)) sa_nil))))))))))
include B in
theorem ok_is_reached {k : Nat} {f : Addr} {fd : FuncData} (F : Fun G.K "is_reached" "is_reached" s_is_reached f fd) {a_check_vectors : Addr} (h_check_vectors : FnF G k "_check_vectors" a_check_vectors 2 [] f_check_vectors) {a_check_p_and_d : Addr} (h_check_p_and_d : FnF G k "check_p_and_d" a_check_p_and_d 2 [] f_check_p_and_d) {a_check_rank_lot : Addr} (h_check_rank_lot : FnF G k "check_rank_lot" a_check_rank_lot 1 [] f_check_rank_lot) {a_check_told : Addr} (h_check_told : FnF G k "check_told" a_check_told 2 [] f_check_told) {a_vector_rank : Addr} (h_vector_rank : FnF G k "vector_rank" a_vector_rank 2 [] f_vector_rank) : FnOk G.P G.w G.K G.mg G.base (L2.CX G.P G.w) (k + 1) f fd ["lot", "told", "vectors", "p", "D"] (spOf G 5 (fnSem 9 m_is_reached)) :=
  fn_ok F sc_is_reached rfl fun cdv A outer s H E g =>
  (sb_cons (ss_expr (ps_expr (se_call g h_check_rank_lot (sa_cons (se_loc (pv 0)) sa_nil)))) (sb_cons (ss_expr (ps_expr (se_call g h_check_told (sa_cons (se_loc (pv 0)) (sa_cons (se_loc (pv 1)) sa_nil))))) (sb_cons (ss_expr (ps_expr (se_call g h_check_vectors (sa_cons (se_loc (pv 0)) (sa_cons (se_loc (pv 2)) sa_nil))))) (sb_cons (ss_expr (ps_expr (se_call g h_check_p_and_d (sa_cons (se_loc (pv 3)) (sa_cons (se_loc (pv 4)) sa_nil))))) (sb_cons (ss_set (ps_set (i := 5) g.nd rfl (by first | exact .inl rfl | exact .inr rfl) (se_call g h_vector_rank (sa_cons (se_loc (pv 0)) (sa_cons (se_loc (pv 2)) sa_nil))))) (sb_one (ss_ret (se_and (se_eq g (se_mul g (se_loc (pv 4)) (se_dget (hu1 g) (se_loc (pv 5)) (se_loc (pv 0)) (fun _ _ => rfl))) (se_loc (pv 3))) (se_one (se_callB g (cr_all g.calm) ok_all B.b_all (by decide +kernel) (sa_cons (se_fz (sf_lc (own := [(("low" : PySem.Str), 6), (("high" : PySem.Str), 7), (("k" : PySem.Str), 8)]) (tgt := (.t [6, 7, 8])) g (si_seq g (se_loc (pv 1))) (blkOk_by (by show blkC ["lot", "told", "vectors", "p", "D", "rank", "low", "high", "k"] (defScope s_is_reached) _ _ = true; decide +kernel)) (by decide) (fun _ _ _ _ _ => (pg_tup (g.blk _ _ _ _ _).calm (pgs_cons (pg_name (i := 6) (g.blk _ _ _ _ _).nd rfl (by first | exact .inl rfl | exact .inr rfl)) (pgs_cons (pg_name (i := 7) (g.blk _ _ _ _ _).nd rfl (by first | exact .inl rfl | exact .inr rfl)) (pgs_cons (pg_name (i := 8) (g.blk _ _ _ _ _).nd rfl (by first | exact .inl rfl | exact .inr rfl)) pgs_nil))))) (fun _ _ _ _ _ => pts_yes) (fun _ _ _ _ _ => (se_le (se_sub (se_dget (hu1 (g.blk _ _ _ _ _)) (se_loc (pv 5)) (se_loc (pv 7)) (fun _ _ => rfl)) (se_dget (hu1 (g.blk _ _ _ _ _)) (se_loc (pv 5)) (se_loc (pv 6)) (fun _ _ => rfl))) (se_loc (pv 8)))))) sa_nil)))))))))))
include B in
theorem ok_law_right {k : Nat} {f c : Addr} {fd : FuncData} (F : FunC G.K "_law_right" s_law_right f c fd) {T : List (Addr × Str)} (hT : TbT G T) {P : Addr} (L_me : LamC G T c P ((("_law_right" : Str) ++ ".<locals>.") ++ "<lambda>")) {gx_law_met : Addr} {cd_law_met : Value} (C_law_met : CatAt G "_law_met" s_law_met "call" gx_law_met cd_law_met) {a_law_bt_turned : Addr} (h_law_bt_turned : FnF G k "_law_bt_turned" a_law_bt_turned 2 [] f_law_bt_turned) {a_are_vectors : Addr} (h_are_vectors : FnF G k "are_vectors" a_are_vectors 2 [] f_are_vectors) {a_beside : Addr} (h_beside : FnF G k "beside" a_beside 3 [] f_beside) {a_is_reached : Addr} (h_is_reached : FnF G k "is_reached" a_is_reached 5 [] f_is_reached) {a_reaching : Addr} (h_reaching : FnF G k "reaching" a_reaching 3 [] f_reaching) {a_step_counts : Addr} (h_step_counts : FnF G k "step_counts" a_step_counts 2 [] f_step_counts) {a_step_vectors : Addr} (h_step_vectors : FnF G k "step_vectors" a_step_vectors 2 [] f_step_vectors) (h_tbl2 : ∀ j n f, tbl2 j = some (n, f) → ∃ y, FnF G k y (G.fa j) n [] f) : FnG G (k + 2 + 1) f fd ["turn"] (spOf G 1 (fnSem 16 m_law_right)) :=
  fn_okG (k := k + 2) F sc_law_right rfl fun A outer s H E g gu =>
  (sb_cons (ss_setT g (ps_asg (se_tup (sa_cons (se_tup (sa_cons se_int (sa_cons se_int sa_nil))) (sa_cons (se_tup (sa_cons (se_tup (sa_cons se_int sa_nil)) (sa_cons (se_tup (sa_cons se_int sa_nil)) sa_nil))) sa_nil))) (pg_tup g.calm (pgs_cons (pg_name (i := 12) g.nd rfl (by first | exact .inl rfl | exact .inr rfl)) (pgs_cons (pg_name (i := 13) g.nd rfl (by first | exact .inl rfl | exact .inr rfl)) pgs_nil))))) (sb_cons (ss_set (ps_set (i := 1) g.nd rfl (by first | exact .inl rfl | exact .inr rfl) (se_call g (h_law_bt_turned.mono (Nat.le_add_right _ 2)) (sa_cons (se_fz (sf_lst (sa_cons se_non (sa_cons se_int (sa_cons (se_fz (sf_lst (sa_cons se_int sa_nil))) (sa_cons (se_tup (sa_cons se_int (sa_cons se_int sa_nil))) (sa_cons (se_tup (sa_cons se_int (sa_cons se_int sa_nil))) (sa_cons (se_tup (sa_cons se_int sa_nil)) (sa_cons (se_tup (sa_cons (se_neg se_int) sa_nil)) (sa_cons (se_tup (sa_cons se_bl sa_nil)) (sa_cons (se_tup (sa_cons se_str sa_nil)) (sa_cons (se_fzD sd_nil') (sa_cons (se_tup (sa_cons se_int (sa_cons se_int (sa_cons se_int (sa_cons se_int (sa_cons se_int (sa_cons se_int sa_nil))))))) sa_nil))))))))))))) (sa_cons (se_loc (pv 0)) sa_nil))))) (sb_cons (ss_set (ps_set (i := 2) g.nd rfl (by first | exact .inl rfl | exact .inr rfl) (se_call g (h_law_bt_turned.mono (Nat.le_add_right _ 2)) (sa_cons (se_fz (sf_lst (sa_cons se_non (sa_cons (se_tup sa_nil) (sa_cons (se_tup (sa_cons (se_tup (sa_cons se_int sa_nil)) sa_nil)) (sa_cons (se_fz (sf_lst (sa_cons (se_tup (sa_cons se_int sa_nil)) (sa_cons (se_tup (sa_cons se_int sa_nil)) sa_nil)))) (sa_cons (se_tup (sa_cons (se_tup (sa_cons se_int sa_nil)) (sa_cons se_int sa_nil))) (sa_cons (se_tup (sa_cons (se_tup (sa_cons se_int sa_nil)) (sa_cons (se_tup (sa_cons se_int sa_nil)) sa_nil))) (sa_cons (se_tup (sa_cons (se_tup (sa_cons (se_neg se_int) sa_nil)) (sa_cons (se_tup sa_nil) sa_nil))) (sa_cons (se_tup (sa_cons (se_tup (sa_cons se_bl sa_nil)) (sa_cons (se_tup sa_nil) sa_nil))) (sa_cons (se_fzD sd_nil') (sa_cons se_str sa_nil)))))))))))) (sa_cons (se_loc (pv 0)) sa_nil))))) (sb_cons (ss_set (ps_set (i := 3) g.nd rfl (by first | exact .inl rfl | exact .inr rfl) (se_fz (sf_lst (sa_cons se_non (sa_cons (se_fz (sf_lst sa_nil)) (sa_cons (se_fzD (sd_disp g (sps_cons (se_tup sa_nil) se_int sps_nil))) (sa_cons (se_fzD (sd_disp g (sps_cons (se_tup (sa_cons se_int sa_nil)) se_int sps_nil))) (sa_cons (se_fzD (sd_disp g (sps_cons (se_tup (sa_cons se_int sa_nil)) (se_neg se_int) sps_nil))) (sa_cons (se_fzD (sd_disp g (sps_cons (se_tup (sa_cons se_int sa_nil)) se_bl sps_nil))) (sa_cons (se_fzD (sd_disp g (sps_cons (se_tup (sa_cons se_int sa_nil)) se_str sps_nil))) (sa_cons (se_fzD (sd_disp g (sps_cons (se_tup (sa_cons se_int (sa_cons se_int sa_nil))) se_int sps_nil))) (sa_cons (se_dctK g (sps_cons se_int se_int sps_nil)) (sa_cons (se_fzD (sd_disp g (sps_cons (se_tup (sa_cons se_int sa_nil)) (se_pow se_int se_int) sps_nil))) sa_nil)))))))))))))) (sb_cons (ss_set (ps_set (i := 4) g.nd rfl (by first | exact .inl rfl | exact .inr rfl) (se_call g (h_law_bt_turned.mono (Nat.le_add_right _ 2)) (sa_cons (se_loc (pv 3)) (sa_cons (se_loc (pv 0)) sa_nil))))) (sb_cons (ss_set (ps_set (i := 5) g.nd rfl (by first | exact .inl rfl | exact .inr rfl) (se_fz (sf_lst (sa_cons se_non (sa_cons (se_fzD sd_nil') (sa_cons (se_fzD (sd_disp g (sps_cons (se_tup sa_nil) se_int sps_nil))) (sa_cons (se_fzD (sd_disp g (sps_cons (se_tup sa_nil) se_int (sps_cons (se_tup (sa_cons se_int sa_nil)) se_int (sps_cons (se_tup (sa_cons se_int (sa_cons se_int sa_nil))) se_int (sps_cons (se_tup (sa_cons se_int sa_nil)) se_int sps_nil)))))) (sa_cons (se_fzD (sd_disp g (sps_cons (se_tup sa_nil) se_int (sps_cons (se_tup (sa_cons se_int sa_nil)) se_int (sps_cons (se_tup (sa_cons se_int (sa_cons se_int sa_nil))) se_int (sps_cons (se_tup (sa_cons se_int sa_nil)) se_int sps_nil)))))) (sa_cons (se_tup sa_nil) sa_nil)))))))))) (sb_cons (ss_set (ps_set (i := 6) g.nd rfl (by first | exact .inl rfl | exact .inr rfl) (se_call g (h_law_bt_turned.mono (Nat.le_add_right _ 2)) (sa_cons (se_add g (se_loc (pv 5)) (se_fz (sf_lst (sa_cons (se_fzD (sd_disp g (sps_cons (se_tup sa_nil) se_int (sps_cons (se_tup (sa_cons se_int sa_nil)) se_int (sps_cons (se_tup (sa_cons se_int (sa_cons se_int sa_nil))) se_int (sps_cons (se_tup (sa_cons se_int sa_nil)) se_int sps_nil)))))) (sa_cons (se_fzD (sd_disp g (sps_cons (se_tup sa_nil) se_int (sps_cons (se_tup (sa_cons se_int sa_nil)) se_int (sps_cons (se_tup (sa_cons se_int (sa_cons se_int sa_nil))) se_int (sps_cons (se_tup (sa_cons se_int sa_nil)) se_int sps_nil)))))) sa_nil))))) (sa_cons (se_loc (pv 0)) sa_nil))))) (sb_cons (ss_set (ps_set (i := 7) g.nd rfl (by first | exact .inl rfl | exact .inr rfl) (se_call g (h_law_bt_turned.mono (Nat.le_add_right _ 2)) (sa_cons (se_fz (sf_lst (sa_cons se_non (sa_cons (se_tup sa_nil) (sa_cons (se_fz (sf_lst (sa_cons (se_tup (sa_cons se_int (sa_cons se_int sa_nil))) sa_nil))) (sa_cons (se_tup (sa_cons (se_tup (sa_cons se_int (sa_cons se_int sa_nil))) (sa_cons (se_tup (sa_cons se_int (sa_cons se_int sa_nil))) sa_nil))) (sa_cons (se_tup (sa_cons se_int (sa_cons se_int sa_nil))) (sa_cons (se_mul g (se_tup (sa_cons (se_tup (sa_cons se_int sa_nil)) sa_nil)) se_int) (sa_cons (se_tup (sa_cons (se_tup (sa_cons se_int (sa_cons se_int sa_nil))) sa_nil)) (sa_cons (se_fzD sd_nil') sa_nil)))))))))) (sa_cons (se_loc (pv 0)) sa_nil))))) (sb_cons (ss_set (ps_set (i := 8) g.nd rfl (by first | exact .inl rfl | exact .inr rfl) (se_call g (h_law_bt_turned.mono (Nat.le_add_right _ 2)) (sa_cons (se_fz (sf_lst (sa_cons se_non (sa_cons (se_fz (sf_lst sa_nil)) (sa_cons (se_tup (sa_cons (se_tup (sa_cons (se_tup sa_nil) (sa_cons (se_tup (sa_cons se_int sa_nil)) (sa_cons se_int sa_nil)))) sa_nil)) (sa_cons (se_tup (sa_cons (se_tup (sa_cons (se_tup sa_nil) (sa_cons (se_tup (sa_cons se_int sa_nil)) (sa_cons (se_neg se_int) sa_nil)))) sa_nil)) (sa_cons (se_tup (sa_cons (se_tup (sa_cons (se_tup (sa_cons se_int sa_nil)) (sa_cons (se_tup (sa_cons se_int sa_nil)) (sa_cons se_int sa_nil)))) sa_nil)) (sa_cons (se_tup (sa_cons (se_tup (sa_cons (se_tup sa_nil) (sa_cons (se_tup (sa_cons se_int sa_nil)) (sa_cons se_int sa_nil)))) sa_nil)) (sa_cons (se_tup (sa_cons (se_tup (sa_cons (se_tup sa_nil) (sa_cons (se_tup (sa_cons se_int sa_nil)) sa_nil))) sa_nil)) (sa_cons (se_fzD sd_nil') sa_nil)))))))))) (sa_cons (se_loc (pv 0)) sa_nil))))) (sb_cons (ss_setT g (ps_asg (se_tup (sa_cons (se_call g (h_law_bt_turned.mono (Nat.le_add_right _ 2)) (sa_cons (se_fz (sf_lst (sa_cons se_non (sa_cons (se_neg se_int) (sa_cons se_bl (sa_cons se_str (sa_cons (se_tup (sa_cons se_int sa_nil)) (sa_cons (se_pow se_int se_int) sa_nil)))))))) (sa_cons (se_loc (pv 0)) sa_nil))) (sa_cons (se_call g (h_law_bt_turned.mono (Nat.le_add_right _ 2)) (sa_cons (se_fz (sf_lst (sa_cons se_non (sa_cons se_int (sa_cons (se_neg se_int) (sa_cons se_bl (sa_cons se_str (sa_cons (se_pow se_int se_int) sa_nil)))))))) (sa_cons (se_loc (pv 0)) sa_nil))) sa_nil))) (pg_tup g.calm (pgs_cons (pg_name (i := 14) g.nd rfl (by first | exact .inl rfl | exact .inr rfl)) (pgs_cons (pg_name (i := 15) g.nd rfl (by first | exact .inl rfl | exact .inr rfl)) pgs_nil))))) (sb_cons (ss_set (ps_set (i := 9) g.nd rfl (by first | exact .inl rfl | exact .inr rfl) (se_own (sf_lst (sa_cons (se_cat g hT C_law_met L_me sc_law_met rfl (.inl rfl) (gives_law_met g gu B) rfl (LamX.lamS_by (by show LamX.lamSB (defScope s_law_right) _ = true; decide +kernel)) (fun _ _ _ _ _ _ _ g2 => (se_call g2 h_are_vectors (sa_cons (se_loc (pv 1)) (sa_cons (se_loc (pv 2)) sa_nil))))) sa_nil))))) (sb_cons (ss_set (ps_set (i := 10) g.nd rfl (by first | exact .inl rfl | exact .inr rfl) (se_fz (sf_lst (sa_cons se_str sa_nil))))) (sb_cons (ss_for (tgt := (.n 11)) g (si_seq g (se_tup (sa_cons (se_gfn g B.n_vector_rank) (sa_cons (se_gfn g B.n_made_table) sa_nil)))) (pg_name (i := 11) g.nd rfl (by first | exact .inl rfl | exact .inr rfl)) (sb_cons (ss_expr (ps_expr (se_app g (pe_bm PySem.F.plainAttrs_list PySem.F.slot_list_append PySem.F.type_list_append mt_append (se_loc (pv 9)) (sa_cons (se_cat g hT C_law_met L_me sc_law_met rfl (.inl rfl) (gives_law_met g gu B) rfl (LamX.lamS_by (by show LamX.lamSB (defScope s_law_right) _ = true; decide +kernel)) (fun _ _ _ _ _ _ _ g2 => (se_callL g2 h_tbl2 rfl (by first | exact Or.inl rfl | exact Or.inr (Or.inl rfl) | exact Or.inr (Or.inr rfl)) (sa_cons (se_loc (pv 1)) (sa_cons (se_loc (pv 2)) sa_nil))))) sa_nil))))) (sb_cons (ss_expr (ps_expr (se_app g (pe_bm PySem.F.plainAttrs_list PySem.F.slot_list_append PySem.F.type_list_append mt_append (se_loc (pv 9)) (sa_cons (se_cat g hT C_law_met L_me sc_law_met rfl (.inl rfl) (gives_law_met g gu B) rfl (LamX.lamS_by (by show LamX.lamSB (defScope s_law_right) _ = true; decide +kernel)) (fun _ _ _ _ _ _ _ g2 => (se_callL g2 h_tbl2 rfl (by first | exact Or.inl rfl | exact Or.inr (Or.inl rfl) | exact Or.inr (Or.inr rfl)) (sa_cons (se_loc (pv 12)) (sa_cons (se_loc (pv 2)) sa_nil))))) sa_nil))))) (sb_cons (ss_expr (ps_expr (se_app g (pe_bm PySem.F.plainAttrs_list PySem.F.slot_list_append PySem.F.type_list_append mt_append (se_loc (pv 9)) (sa_cons (se_cat g hT C_law_met L_me sc_law_met rfl (.inl rfl) (gives_law_met g gu B) rfl (LamX.lamS_by (by show LamX.lamSB (defScope s_law_right) _ = true; decide +kernel)) (fun _ _ _ _ _ _ _ g2 => (se_callL g2 h_tbl2 rfl (by first | exact Or.inl rfl | exact Or.inr (Or.inl rfl) | exact Or.inr (Or.inr rfl)) (sa_cons (se_loc (pv 12)) (sa_cons (se_loc (pv 13)) sa_nil))))) sa_nil))))) (sb_one (ss_set (ps_set (i := 10) g.nd rfl (by first | exact .inl rfl | exact .inr rfl) (se_add g (se_loc (pv 10)) (se_fz (sf_lst (sa_cons se_str (sa_cons se_str (sa_cons se_str sa_nil))))))))))))) (sb_cons (ss_expr (ps_expr (se_app g (pe_bm PySem.F.plainAttrs_list PySem.F.slot_list_append PySem.F.type_list_append mt_append (se_loc (pv 9)) (sa_cons (se_cat g hT C_law_met L_me sc_law_met rfl (.inl rfl) (gives_law_met g gu B) rfl (LamX.lamS_by (by show LamX.lamSB (defScope s_law_right) _ = true; decide +kernel)) (fun _ _ _ _ _ _ _ g2 => (se_call g2 h_step_vectors (sa_cons (se_loc (pv 1)) (sa_cons (se_loc (pv 4)) sa_nil))))) sa_nil))))) (sb_cons (ss_expr (ps_expr (se_app g (pe_bm PySem.F.plainAttrs_list PySem.F.slot_list_append PySem.F.type_list_append mt_append (se_loc (pv 9)) (sa_cons (se_cat g hT C_law_met L_me sc_law_met rfl (.inl rfl) (gives_law_met g gu B) rfl (LamX.lamS_by (by show LamX.lamSB (defScope s_law_right) _ = true; decide +kernel)) (fun _ _ _ _ _ _ _ g2 => (se_call g2 h_step_vectors (sa_cons (se_loc (pv 12)) (sa_cons (se_loc (pv 4)) sa_nil))))) sa_nil))))) (sb_cons (ss_expr (ps_expr (se_app g (pe_bm PySem.F.plainAttrs_list PySem.F.slot_list_append PySem.F.type_list_append mt_append (se_loc (pv 9)) (sa_cons (se_cat g hT C_law_met L_me sc_law_met rfl (.inl rfl) (gives_law_met g gu B) rfl (LamX.lamS_by (by show LamX.lamSB (defScope s_law_right) _ = true; decide +kernel)) (fun _ _ _ _ _ _ _ g2 => (se_call g2 h_step_counts (sa_cons (se_loc (pv 1)) (sa_cons (se_loc (pv 6)) sa_nil))))) sa_nil))))) (sb_cons (ss_expr (ps_expr (se_app g (pe_bm PySem.F.plainAttrs_list PySem.F.slot_list_append PySem.F.type_list_append mt_append (se_loc (pv 9)) (sa_cons (se_cat g hT C_law_met L_me sc_law_met rfl (.inl rfl) (gives_law_met g gu B) rfl (LamX.lamS_by (by show LamX.lamSB (defScope s_law_right) _ = true; decide +kernel)) (fun _ _ _ _ _ _ _ g2 => (se_call g2 h_step_counts (sa_cons (se_loc (pv 12)) (sa_cons (se_loc (pv 6)) sa_nil))))) sa_nil))))) (sb_cons (ss_expr (ps_expr (se_app g (pe_bm PySem.F.plainAttrs_list PySem.F.slot_list_append PySem.F.type_list_append mt_append (se_loc (pv 9)) (sa_cons (se_cat g hT C_law_met L_me sc_law_met rfl (.inl rfl) (gives_law_met g gu B) rfl (LamX.lamS_by (by show LamX.lamSB (defScope s_law_right) _ = true; decide +kernel)) (fun _ _ _ _ _ _ _ g2 => (se_call g2 h_beside (sa_cons (se_loc (pv 1)) (sa_cons (se_loc (pv 2)) (sa_cons (se_loc (pv 2)) sa_nil)))))) sa_nil))))) (sb_cons (ss_expr (ps_expr (se_app g (pe_bm PySem.F.plainAttrs_list PySem.F.slot_list_append PySem.F.type_list_append mt_append (se_loc (pv 9)) (sa_cons (se_cat g hT C_law_met L_me sc_law_met rfl (.inl rfl) (gives_law_met g gu B) rfl (LamX.lamS_by (by show LamX.lamSB (defScope s_law_right) _ = true; decide +kernel)) (fun _ _ _ _ _ _ _ g2 => (se_call g2 h_beside (sa_cons (se_loc (pv 12)) (sa_cons (se_loc (pv 2)) (sa_cons (se_loc (pv 13)) sa_nil)))))) sa_nil))))) (sb_cons (ss_expr (ps_expr (se_app g (pe_bm PySem.F.plainAttrs_list PySem.F.slot_list_append PySem.F.type_list_append mt_append (se_loc (pv 9)) (sa_cons (se_cat g hT C_law_met L_me sc_law_met rfl (.inl rfl) (gives_law_met g gu B) rfl (LamX.lamS_by (by show LamX.lamSB (defScope s_law_right) _ = true; decide +kernel)) (fun _ _ _ _ _ _ _ g2 => (se_call g2 h_beside (sa_cons (se_loc (pv 12)) (sa_cons (se_loc (pv 13)) (sa_cons (se_loc (pv 2)) sa_nil)))))) sa_nil))))) (sb_cons (ss_set (ps_set (i := 10) g.nd rfl (by first | exact .inl rfl | exact .inr rfl) (se_add g (se_loc (pv 10)) (se_fz (sf_lst (sa_cons se_str (sa_cons se_str (sa_cons se_str (sa_cons se_str (sa_cons se_str (sa_cons se_str (sa_cons se_str sa_nil)))))))))))) (sb_cons (ss_expr (ps_expr (se_app g (pe_bm PySem.F.plainAttrs_list PySem.F.slot_list_append PySem.F.type_list_append mt_append (se_loc (pv 9)) (sa_cons (se_cat g hT C_law_met L_me sc_law_met rfl (.inl rfl) (gives_law_met g gu B) rfl (LamX.lamS_by (by show LamX.lamSB (defScope s_law_right) _ = true; decide +kernel)) (fun _ _ _ _ _ _ _ g2 => (se_call g2 h_reaching (sa_cons (se_loc (pv 1)) (sa_cons (se_loc (pv 7)) (sa_cons (se_loc (pv 2)) sa_nil)))))) sa_nil))))) (sb_cons (ss_expr (ps_expr (se_app g (pe_bm PySem.F.plainAttrs_list PySem.F.slot_list_append PySem.F.type_list_append mt_append (se_loc (pv 9)) (sa_cons (se_cat g hT C_law_met L_me sc_law_met rfl (.inl rfl) (gives_law_met g gu B) rfl (LamX.lamS_by (by show LamX.lamSB (defScope s_law_right) _ = true; decide +kernel)) (fun _ _ _ _ _ _ _ g2 => (se_call g2 h_reaching (sa_cons (se_loc (pv 12)) (sa_cons (se_loc (pv 7)) (sa_cons (se_loc (pv 2)) sa_nil)))))) sa_nil))))) (sb_cons (ss_expr (ps_expr (se_app g (pe_bm PySem.F.plainAttrs_list PySem.F.slot_list_append PySem.F.type_list_append mt_append (se_loc (pv 9)) (sa_cons (se_cat g hT C_law_met L_me sc_law_met rfl (.inl rfl) (gives_law_met g gu B) rfl (LamX.lamS_by (by show LamX.lamSB (defScope s_law_right) _ = true; decide +kernel)) (fun _ _ _ _ _ _ _ g2 => (se_call g2 h_reaching (sa_cons (se_loc (pv 12)) (sa_cons (se_tup (sa_cons (se_tup (sa_cons se_int (sa_cons se_int sa_nil))) sa_nil)) (sa_cons (se_loc (pv 2)) sa_nil)))))) sa_nil))))) (sb_cons (ss_expr (ps_expr (se_app g (pe_bm PySem.F.plainAttrs_list PySem.F.slot_list_append PySem.F.type_list_append mt_append (se_loc (pv 9)) (sa_cons (se_cat g hT C_law_met L_me sc_law_met rfl (.inl rfl) (gives_law_met g gu B) rfl (LamX.lamS_by (by show LamX.lamSB (defScope s_law_right) _ = true; decide +kernel)) (fun _ _ _ _ _ _ _ g2 => (se_call g2 h_reaching (sa_cons (se_loc (pv 12)) (sa_cons (se_tup (sa_cons (se_tup (sa_cons se_int sa_nil)) (sa_cons (se_tup sa_nil) sa_nil))) (sa_cons (se_loc (pv 13)) sa_nil)))))) sa_nil))))) (sb_cons (ss_expr (ps_expr (se_app g (pe_bm PySem.F.plainAttrs_list PySem.F.slot_list_append PySem.F.type_list_append mt_append (se_loc (pv 9)) (sa_cons (se_cat g hT C_law_met L_me sc_law_met rfl (.inl rfl) (gives_law_met g gu B) rfl (LamX.lamS_by (by show LamX.lamSB (defScope s_law_right) _ = true; decide +kernel)) (fun _ _ _ _ _ _ _ g2 => (se_call g2 h_reaching (sa_cons (se_loc (pv 12)) (sa_cons (se_tup (sa_cons (se_tup (sa_cons se_int (sa_cons se_int sa_nil))) (sa_cons (se_tup (sa_cons se_int sa_nil)) sa_nil))) (sa_cons (se_loc (pv 13)) sa_nil)))))) sa_nil))))) (sb_cons (ss_set (ps_set (i := 10) g.nd rfl (by first | exact .inl rfl | exact .inr rfl) (se_add g (se_loc (pv 10)) (se_fz (sf_lst (sa_cons se_str (sa_cons se_str (sa_cons se_str (sa_cons se_str (sa_cons se_str sa_nil)))))))))) (sb_cons (ss_expr (ps_expr (se_app g (pe_bm PySem.F.plainAttrs_list PySem.F.slot_list_append PySem.F.type_list_append mt_append (se_loc (pv 9)) (sa_cons (se_cat g hT C_law_met L_me sc_law_met rfl (.inl rfl) (gives_law_met g gu B) rfl (LamX.lamS_by (by show LamX.lamSB (defScope s_law_right) _ = true; decide +kernel)) (fun _ _ _ _ _ _ _ g2 => (se_call g2 h_is_reached (sa_cons (se_loc (pv 1)) (sa_cons (se_loc (pv 8)) (sa_cons (se_loc (pv 2)) (sa_cons (se_loc (pv 14)) (sa_cons (se_loc (pv 15)) sa_nil)))))))) sa_nil))))) (sb_cons (ss_expr (ps_expr (se_app g (pe_bm PySem.F.plainAttrs_list PySem.F.slot_list_append PySem.F.type_list_append mt_append (se_loc (pv 9)) (sa_cons (se_cat g hT C_law_met L_me sc_law_met rfl (.inl rfl) (gives_law_met g gu B) rfl (LamX.lamS_by (by show LamX.lamSB (defScope s_law_right) _ = true; decide +kernel)) (fun _ _ _ _ _ _ _ g2 => (se_call g2 h_is_reached (sa_cons (se_loc (pv 12)) (sa_cons (se_loc (pv 8)) (sa_cons (se_loc (pv 2)) (sa_cons (se_loc (pv 14)) (sa_cons (se_loc (pv 15)) sa_nil)))))))) sa_nil))))) (sb_cons (ss_expr (ps_expr (se_app g (pe_bm PySem.F.plainAttrs_list PySem.F.slot_list_append PySem.F.type_list_append mt_append (se_loc (pv 9)) (sa_cons (se_cat g hT C_law_met L_me sc_law_met rfl (.inl rfl) (gives_law_met g gu B) rfl (LamX.lamS_by (by show LamX.lamSB (defScope s_law_right) _ = true; decide +kernel)) (fun _ _ _ _ _ _ _ g2 => (se_call g2 h_is_reached (sa_cons (se_loc (pv 12)) (sa_cons (se_tup sa_nil) (sa_cons (se_loc (pv 2)) (sa_cons (se_loc (pv 14)) (sa_cons (se_loc (pv 15)) sa_nil)))))))) sa_nil))))) (sb_cons (ss_expr (ps_expr (se_app g (pe_bm PySem.F.plainAttrs_list PySem.F.slot_list_append PySem.F.type_list_append mt_append (se_loc (pv 9)) (sa_cons (se_cat g hT C_law_met L_me sc_law_met rfl (.inl rfl) (gives_law_met g gu B) rfl (LamX.lamS_by (by show LamX.lamSB (defScope s_law_right) _ = true; decide +kernel)) (fun _ _ _ _ _ _ _ g2 => (se_call g2 h_is_reached (sa_cons (se_loc (pv 12)) (sa_cons (se_tup sa_nil) (sa_cons (se_loc (pv 13)) (sa_cons (se_loc (pv 14)) (sa_cons (se_loc (pv 15)) sa_nil)))))))) sa_nil))))) (sb_cons (ss_expr (ps_expr (se_app g (pe_bm PySem.F.plainAttrs_list PySem.F.slot_list_append PySem.F.type_list_append mt_append (se_loc (pv 9)) (sa_cons (se_cat g hT C_law_met L_me sc_law_met rfl (.inl rfl) (gives_law_met g gu B) rfl (LamX.lamS_by (by show LamX.lamSB (defScope s_law_right) _ = true; decide +kernel)) (fun _ _ _ _ _ _ _ g2 => (se_call g2 h_is_reached (sa_cons (se_loc (pv 12)) (sa_cons (se_tup sa_nil) (sa_cons (se_loc (pv 13)) (sa_cons se_int (sa_cons (se_loc (pv 15)) sa_nil)))))))) sa_nil))))) (sb_cons (ss_set (ps_set (i := 10) g.nd rfl (by first | exact .inl rfl | exact .inr rfl) (se_add g (se_loc (pv 10)) (se_fz (sf_lst (sa_cons se_str (sa_cons se_str (sa_cons se_str (sa_cons (se_add g se_str (se_callB g (call_repr gu g.u64) (by rw [g.K]; exact ok_repr) B.b_repr (by decide +kernel) (sa_cons (se_loc (pv 14)) sa_nil))) (sa_cons (se_add g se_str (se_callB g (call_repr gu g.u64) (by rw [g.K]; exact ok_repr) B.b_repr (by decide +kernel) (sa_cons (se_loc (pv 15)) sa_nil))) sa_nil)))))))))) (sb_one (ss_ret (se_and (se_eq g (se_loc (pv 9)) (se_loc (pv 10))) (se_one (se_not (se_call g (h_are_vectors.mono (Nat.le_add_right _ 2)) (sa_cons (se_loc (pv 12)) (sa_cons (se_loc (pv 2)) sa_nil)))))))))))))))))))))))))))))))))))))))))
include B in
theorem ok_law {k : Nat} {f c : Addr} {fd : FuncData} (F : FunC G.K "law" s_law f c fd) {T : List (Addr × Str)} (hT : TbT G T) {P : Addr} (L_me : LamC G T c P ((("law" : Str) ++ ".<locals>.") ++ "<lambda>")) {gx_law_met : Addr} {cd_law_met : Value} (C_law_met : CatAt G "_law_met" s_law_met "call" gx_law_met cd_law_met) {a_law_bt_powers : Addr} (h_law_bt_powers : FnL G k "_law_bt_powers" a_law_bt_powers 0 [] f_law_bt_powers) {a_law_jug : Addr} (h_law_jug : FnL G k "_law_jug" a_law_jug 2 [] f_law_jug) {a_law_poured : Addr} (h_law_poured : FnF G k "_law_poured" a_law_poured 2 [] f_law_poured) {a_law_right : Addr} (h_law_right : FnD G (k + 2) "_law_right" a_law_right 1 f_law_right) {a_beside : Addr} (h_beside : FnF G k "beside" a_beside 3 [] f_beside) {a_made_table : Addr} (h_made_table : FnF G k "made_table" a_made_table 2 [] f_made_table) {a_reaching : Addr} (h_reaching : FnF G k "reaching" a_reaching 3 [] f_reaching) {a_step_vectors : Addr} (h_step_vectors : FnF G k "step_vectors" a_step_vectors 2 [] f_step_vectors) : FnG G (k + 2 + 1) f fd ["script"] (spOf G 1 (fnSem 7 m_law)) :=
  fn_okG (k := k + 2) F sc_law rfl fun A outer s H E g gu =>
  (sb_cons (ss_for (tgt := (.n 1)) g (si_range1 g B.b_range (sa_cons (se_callB g (call_max2 g.calm) (ok_I2 (f := fMax)) B.b_max (by decide +kernel) (sa_cons se_int (sa_cons (se_callB g (call_min2 g.calm) (ok_I2 (f := fMin)) B.b_min (by decide +kernel) (sa_cons se_int (sa_cons (se_callB g call_len ok_len B.b_len (by decide +kernel) (sa_cons (se_loc (pv 0)) sa_nil)) sa_nil))) sa_nil))) sa_nil)) (pg_name (i := 1) g.nd rfl (by first | exact .inl rfl | exact .inr rfl)) (sb_cons (ss_set (ps_set (i := 3) g.nd rfl (by first | exact .inl rfl | exact .inr rfl) (se_call g (h_law_poured.mono (Nat.le_add_right _ 2)) (sa_cons (se_own (sf_call g (h_law_jug.mono (Nat.le_add_right _ 2)) (sa_cons (se_loc (pv 0)) (sa_cons (se_loc (pv 1)) sa_nil)))) (sa_cons se_int sa_nil))))) (sb_one (ss_for (tgt := (.n 4)) g (si_range1 g B.b_range (sa_cons se_int sa_nil)) (pg_name (i := 4) g.nd rfl (by first | exact .inl rfl | exact .inr rfl)) (sb_one (ss_if (st_not (st_val (se_callD g gu h_law_right (sa_cons (se_add g (se_loc (pv 3)) (se_loc (pv 4))) sa_nil)))) (sb_one (ss_ret se_bl)) sb_nil)))))) (sb_cons (ss_setT g (ps_asg (se_tup (sa_cons (se_tup (sa_cons se_int (sa_cons se_int sa_nil))) (sa_cons (se_callTy g call_tuple_of ok_tuple B.b_tuple (by decide +kernel) (sa_cons (se_fz (sf_call0 g (h_law_bt_powers.mono (Nat.le_add_right _ 2)) sa_nil)) sa_nil)) sa_nil))) (pg_tup g.calm (pgs_cons (pg_name (i := 5) g.nd rfl (by first | exact .inl rfl | exact .inr rfl)) (pgs_cons (pg_name (i := 6) g.nd rfl (by first | exact .inl rfl | exact .inr rfl)) pgs_nil))))) (sb_cons (ss_set (ps_set (i := 2) g.nd rfl (by first | exact .inl rfl | exact .inr rfl) (se_own (sf_lst (sa_cons (se_cat g hT C_law_met L_me sc_law_met rfl (.inl rfl) (gives_law_met g gu B) rfl (LamX.lamS_by (by show LamX.lamSB (defScope s_law) _ = true; decide +kernel)) (fun _ _ _ _ _ _ _ g2 => (se_call g2 h_step_vectors (sa_cons (se_loc (pv 5)) (sa_cons (se_fzD (sd_disp g2 (sps_cons (se_tup (sa_cons se_int sa_nil)) se_int sps_nil))) sa_nil))))) sa_nil))))) (sb_cons (ss_expr (ps_expr (se_app g (pe_bm PySem.F.plainAttrs_list PySem.F.slot_list_append PySem.F.type_list_append mt_append (se_loc (pv 2)) (sa_cons (se_cat g hT C_law_met L_me sc_law_met rfl (.inl rfl) (gives_law_met g gu B) rfl (LamX.lamS_by (by show LamX.lamSB (defScope s_law) _ = true; decide +kernel)) (fun _ _ _ _ _ _ _ g2 => (se_call g2 h_step_vectors (sa_cons (se_loc (pv 5)) (sa_cons (se_fzD (sd_disp g2 (sps_cons (se_tup (sa_cons se_int sa_nil)) se_int (sps_cons (se_tup (sa_cons se_int (sa_cons se_int sa_nil))) se_int sps_nil)))) sa_nil))))) sa_nil))))) (sb_cons (ss_expr (ps_expr (se_app g (pe_bm PySem.F.plainAttrs_list PySem.F.slot_list_append PySem.F.type_list_append mt_append (se_loc (pv 2)) (sa_cons (se_cat g hT C_law_met L_me sc_law_met rfl (.inl rfl) (gives_law_met g gu B) rfl (LamX.lamS_by (by show LamX.lamSB (defScope s_law) _ = true; decide +kernel)) (fun _ _ _ _ _ _ _ g2 => (se_call g2 h_beside (sa_cons (se_loc (pv 5)) (sa_cons (se_tup (sa_cons (se_slT g2 (se_loc (pv 6)) so_no (so_some se_int)) (sa_cons (se_tup sa_nil) sa_nil))) (sa_cons (se_tup (sa_cons (se_slT g2 (se_loc (pv 6)) so_no (so_some se_int)) (sa_cons (se_tup sa_nil) sa_nil))) sa_nil)))))) sa_nil))))) (sb_cons (ss_expr (ps_expr (se_app g (pe_bm PySem.F.plainAttrs_list PySem.F.slot_list_append PySem.F.type_list_append mt_append (se_loc (pv 2)) (sa_cons (se_cat g hT C_law_met L_me sc_law_met rfl (.inl rfl) (gives_law_met g gu B) rfl (LamX.lamS_by (by show LamX.lamSB (defScope s_law) _ = true; decide +kernel)) (fun _ _ _ _ _ _ _ g2 => (se_call g2 h_beside (sa_cons (se_loc (pv 5)) (sa_cons (se_tup (sa_cons (se_slT g2 (se_loc (pv 6)) so_no (so_some se_int)) (sa_cons (se_tup sa_nil) sa_nil))) (sa_cons (se_tup (sa_cons (se_slT g2 (se_loc (pv 6)) so_no (so_some se_int)) (sa_cons (se_tup sa_nil) sa_nil))) sa_nil)))))) sa_nil))))) (sb_cons (ss_expr (ps_expr (se_app g (pe_bm PySem.F.plainAttrs_list PySem.F.slot_list_append PySem.F.type_list_append mt_append (se_loc (pv 2)) (sa_cons (se_cat g hT C_law_met L_me sc_law_met rfl (.inl rfl) (gives_law_met g gu B) rfl (LamX.lamS_by (by show LamX.lamSB (defScope s_law) _ = true; decide +kernel)) (fun _ _ _ _ _ _ _ g2 => (se_call g2 h_beside (sa_cons (se_loc (pv 5)) (sa_cons (se_tup (sa_cons (se_mul g2 (se_tup (sa_cons se_int sa_nil)) se_int) (sa_cons (se_tup sa_nil) sa_nil))) (sa_cons (se_tup (sa_cons (se_mul g2 (se_tup (sa_cons se_int sa_nil)) se_int) (sa_cons (se_tup sa_nil) sa_nil))) sa_nil)))))) sa_nil))))) (sb_cons (ss_expr (ps_expr (se_app g (pe_bm PySem.F.plainAttrs_list PySem.F.slot_list_append PySem.F.type_list_append mt_append (se_loc (pv 2)) (sa_cons (se_cat g hT C_law_met L_me sc_law_met rfl (.inl rfl) (gives_law_met g gu B) rfl (LamX.lamS_by (by show LamX.lamSB (defScope s_law) _ = true; decide +kernel)) (fun _ _ _ _ _ _ _ g2 => (se_call g2 h_beside (sa_cons (se_loc (pv 5)) (sa_cons (se_tup (sa_cons (se_mul g2 (se_tup (sa_cons se_int sa_nil)) se_int) (sa_cons (se_tup sa_nil) sa_nil))) (sa_cons (se_tup (sa_cons (se_mul g2 (se_tup (sa_cons se_int sa_nil)) se_int) (sa_cons (se_tup (sa_cons se_int sa_nil)) sa_nil))) sa_nil)))))) sa_nil))))) (sb_cons (ss_expr (ps_expr (se_app g (pe_bm PySem.F.plainAttrs_list PySem.F.slot_list_append PySem.F.type_list_append mt_append (se_loc (pv 2)) (sa_cons (se_cat g hT C_law_met L_me sc_law_met rfl (.inl rfl) (gives_law_met g gu B) rfl (LamX.lamS_by (by show LamX.lamSB (defScope s_law) _ = true; decide +kernel)) (fun _ _ _ _ _ _ _ g2 => (se_call g2 h_made_table (sa_cons (se_loc (pv 5)) (sa_cons (se_tup (sa_cons (se_slT g2 (se_loc (pv 6)) so_no (so_some se_int)) (sa_cons (se_slT g2 (se_loc (pv 6)) (so_some se_int) (so_some se_int)) sa_nil))) sa_nil))))) sa_nil))))) (sb_cons (ss_expr (ps_expr (se_app g (pe_bm PySem.F.plainAttrs_list PySem.F.slot_list_append PySem.F.type_list_append mt_append (se_loc (pv 2)) (sa_cons (se_cat g hT C_law_met L_me sc_law_met rfl (.inl rfl) (gives_law_met g gu B) rfl (LamX.lamS_by (by show LamX.lamSB (defScope s_law) _ = true; decide +kernel)) (fun _ _ _ _ _ _ _ g2 => (se_call g2 h_reaching (sa_cons (se_loc (pv 5)) (sa_cons (se_tup (sa_cons (se_tup (sa_cons se_int sa_nil)) (sa_cons (se_tup (sa_cons se_int sa_nil)) sa_nil))) (sa_cons (se_tup (sa_cons (se_slT g2 (se_loc (pv 6)) so_no (so_some se_int)) (sa_cons (se_slT g2 (se_loc (pv 6)) (so_some se_int) (so_some se_int)) sa_nil))) sa_nil)))))) sa_nil))))) (sb_cons (ss_expr (ps_expr (se_app g (pe_bm PySem.F.plainAttrs_list PySem.F.slot_list_append PySem.F.type_list_append mt_append (se_loc (pv 2)) (sa_cons (se_cat g hT C_law_met L_me sc_law_met rfl (.inl rfl) (gives_law_met g gu B) rfl (LamX.lamS_by (by show LamX.lamSB (defScope s_law) _ = true; decide +kernel)) (fun _ _ _ _ _ _ _ g2 => (se_call g2 h_made_table (sa_cons (se_loc (pv 5)) (sa_cons (se_tup (sa_cons (se_slT g2 (se_loc (pv 6)) so_no (so_some se_int)) (sa_cons (se_slT g2 (se_loc (pv 6)) (so_some se_int) (so_some se_int)) sa_nil))) sa_nil))))) sa_nil))))) (sb_one (ss_ret (se_eq g (se_loc (pv 2)) (se_fz (sf_lst (sa_cons se_str (sa_cons se_str (sa_cons se_str (sa_cons se_str (sa_cons se_str (sa_cons se_str (sa_cons se_str (sa_cons se_str (sa_cons se_str sa_nil)))))))))))))))))))))))))
end
end K60

set_option Elab.async false
set_option linter.all false
set_option maxRecDepth 100000
set_option maxHeartbeats 4000000
/-! K60A: made_table answers, whatever it makes (its rows are pairs of ints). -/
namespace K60
open PySem PySem.Spec PyProof.Rows L2 EV
def PK (k : List Key) : Prop := ∃ x y : Int, k = [.inl x, .inl y]
theorem put_pk {ks : List (List Key)} {ds : List Dt} {k : List Key} {d : Dt} (h : ∀ q ∈ ks, PK q) (hk : PK k) : (∀ q ∈ (putE ks ds k d).1, PK q) ∧ (putE ks ds k d).1.length ≤ ks.length + 1 := by
  unfold putE
  split
  · exact ⟨h, Nat.le_succ _⟩
  · refine ⟨fun q hq => ?_, by simp⟩
    rcases List.mem_append.mp hq with e | e
    · exact h q e
    · rw [List.mem_singleton.mp e]; exact hk
theorem ints_pk : ∀ {ks : List (List Key)}, (∀ q ∈ ks, PK q) → ∃ nss, intsKK ks = some nss
  | [], _ => ⟨[], rfl⟩
  | k :: r, h => by
    obtain ⟨x, y, rfl⟩ := h k List.mem_cons_self
    obtain ⟨nss, e⟩ := ints_pk fun q hq => h q (List.mem_cons_of_mem _ hq)
    refine ⟨[x, y] :: nss, ?_⟩
    unfold intsKK
    rw [e]
    rfl
abbrev inner : Sx := (sSetD (mLoc 3) (mPrV dTuple (maCons (mFz (miLc (miZp (maCons (mLoc 6) (maCons (mLoc 5) maNil))) (.t [9, 10]) [9, 10] mbYes (mOp2 dXor (mLoc 9) (mLoc 10)))) maNil)) (mLit (.bl true)))
abbrev outer : Sx := (sSeq (sSet 5 (mFz (miLc (miSeq (mLoc 1)) (.n 7) [7] mbYes (mCall f_said_by 2 [] (maCons (mLoc 7) (maCons (mLoc 4) maNil)))))) (sFor (miSeq (mFz (mPr dListA (maCons (mLoc 3) maNil)))) (.n 6) (sSetD (mLoc 3) (mPrV dTuple (maCons (mFz (miLc (miZp (maCons (mLoc 6) (maCons (mLoc 5) maNil))) (.t [9, 10]) [9, 10] mbYes (mOp2 dXor (mLoc 9) (mLoc 10)))) maNil)) (mLit (.bl true)))))
abbrev EM (lot v rk src tu row z7 z8 z9 z10 : Option Vl) : Slo := [lot, v, rk, some (.loc 0), src, tu, row, z7, z8, z9, z10]
theorem in_step {lot v rk src z7 z8 z9 z10 : Option Vl} {a b x y : Int} {ks : List (List Key)} {ds : List Dt} (hl : ks.length < 10000) :
    inner (EM lot v rk src (some (.p (.lst [.int a, .int b]))) (some (.p (.tup [.int x, .int y]))) z7 z8 z9 z10) [.dtt ks ds] =
      .nx (EM lot v rk src (some (.p (.lst [.int a, .int b]))) (some (.p (.tup [.int x, .int y]))) z7 z8 z9 z10) [.dtt (putE ks ds [.inl (Builtin.bitXor x a), .inl (Builtin.bitXor y b)] (.bl true)).1 (putE ks ds [.inl (Builtin.bitXor x a), .inl (Builtin.bitXor y b)] (.bl true)).2] := by
  have hs : decide (ks.length < sizeLine) = true := decide_eq_true (by rw [sizeLine_eq]; omega)
  show liftE (if decide (ks.length < sizeLine) = true then .ok () _ else .bad) _ _ = _
  rw [if_pos hs]
  rfl
def tupK (k : List Key) : Dt := .tup (k.map dtK)
theorem fz1 {mi : Mi} {env : Slo} {S S1 : Sto} {ds : List Dt} (h : mi env S = .ok ds S1) : mFz mi env S = .ok (.p (.lst ds)) S1 := by unfold mFz; rw [h]; rfl
theorem in_loop {lot v rk src z7 z8 z9 z10 : Option Vl} {a b : Int} : ∀ (l : List (List Key)) (row : Option Vl) (ks : List (List Key)) (ds : List Dt), (∀ q ∈ l, PK q) → (∀ q ∈ ks, PK q) → ks.length + l.length < 10000 →
    ∃ row' ks' ds', sForL (.n 6) inner (l.map tupK) (EM lot v rk src (some (.p (.lst [.int a, .int b]))) row z7 z8 z9 z10) [.dtt ks ds] = .nx (EM lot v rk src (some (.p (.lst [.int a, .int b]))) row' z7 z8 z9 z10) [.dtt ks' ds'] ∧ (∀ q ∈ ks', PK q) ∧ ks'.length ≤ ks.length + l.length
  | [], row, ks, ds, _, hk, _ => ⟨row, ks, ds, rfl, hk, Nat.le_refl _⟩
  | k :: l, row, ks, ds, h, hk, hn => by
    obtain ⟨x, y, rfl⟩ := h k List.mem_cons_self
    rw [List.length_cons] at hn
    have hp := put_pk (ds := ds) (d := .bl true) hk (k := [.inl (Builtin.bitXor x a), .inl (Builtin.bitXor y b)]) ⟨_, _, rfl⟩
    obtain ⟨row', ks', ds', e, h1, h2⟩ := in_loop (lot := lot) (v := v) (rk := rk) (src := src) (z7 := z7) (z8 := z8) (z9 := z9) (z10 := z10) (a := a) (b := b) l (some (.p (tupK [.inl x, .inl y]))) _ (putE ks ds [.inl (Builtin.bitXor x a), .inl (Builtin.bitXor y b)] (.bl true)).2 (fun q hq => h q (List.mem_cons_of_mem _ hq)) hp.1 (by have := hp.2; omega)
    refine ⟨row', ks', ds', (forL_cons (env' := EM lot v rk src (some (.p (.lst [.int a, .int b]))) (some (.p (tupK [.inl x, .inl y]))) z7 z8 z9 z10) (in_step (by omega))).trans e, h1, ?_⟩
    rw [List.length_cons]
    have := hp.2
    omega
def v9 : Dt := .tup [.tup [.int 1, .int 2, .int 4, .int 8, .int 16], .tup [.int 16, .int 32, .int 64, .int 128, .int 256]]
def isInt (r : Ry) : Bool := match r with
  | .ok (.int _) => true
  | _ => false
theorem isInt_eq {r : Ry} (h : isInt r = true) : ∃ i, r = .ok (.int i) := by
  unfold isInt at h
  split at h
  · exact ⟨_, rfl⟩
  · cases h
theorem lc_cons {g : Tg} {vs : List Nat} {me : Mx} {env env1 : Slo} {d x : Dt} {r xs : List Dt} {S S1 S2 : Sto} (hb : bindT g d (wipeE env vs) = some env1) (he : me env1 S = .ok (.p x) S1) (ht : lcGo g vs mbYes me env r S1 = .ok xs S2) : lcGo g vs mbYes me env (d :: r) S = .ok (x :: xs) S2 := by
  unfold lcGo
  simp only [hb, mbYes, he, if_true, ht]
theorem said : ((List.range 12).all fun s : Nat => isInt (q_said_by [.tup [.int 1, .int 2, .int 4, .int 8, .int 16], .int (s : Int)]) && isInt (q_said_by [.tup [.int 16, .int 32, .int 64, .int 128, .int 256], .int (s : Int)])) = true := by decide +kernel
theorem keys_t {ks : List (List Key)} {ds : List Dt} {env : Slo} (h : env[3]? = some (some (.loc 0))) : miSeq (mFz (mPr dListA (maCons (mLoc 3) maNil))) env [.dtt ks ds] = .ok (ks.map tupK) [.dtt ks ds] := by
  unfold miSeq mFz mPr maCons mLoc
  rw [h]
  rfl
theorem out_step {lot rk z7 z8 z9 z10 row tu : Option Vl} {s : Nat} (hs : s < 12) {ks : List (List Key)} {ds : List Dt} (hk : ∀ q ∈ ks, PK q) (hn : ks.length < 4097) :
    ∃ row' tu' ks' ds', outer (EM lot (some (.p v9)) rk (some (.p (.int (s : Int)))) tu row z7 z8 z9 z10) [.dtt ks ds] = .nx (EM lot (some (.p v9)) rk (some (.p (.int (s : Int)))) tu' row' z7 z8 z9 z10) [.dtt ks' ds'] ∧ (∀ q ∈ ks', PK q) ∧ ks'.length ≤ 2 * ks.length := by
  have hh := List.all_eq_true.mp said s (List.mem_range.mpr hs)
  rw [Bool.and_eq_true] at hh
  obtain ⟨a, ea⟩ := isInt_eq hh.1
  obtain ⟨b, eb⟩ := isInt_eq hh.2
  obtain ⟨row', ks', ds', e, h1, h2⟩ := in_loop (lot := lot) (v := some (.p v9)) (rk := rk) (src := some (.p (.int (s : Int)))) (z7 := z7) (z8 := z8) (z9 := z9) (z10 := z10) (a := a) (b := b) ks row ks ds hk hk (by omega)
  refine ⟨row', some (.p (.lst [.int a, .int b])), ks', ds', seq_to (env' := EM lot (some (.p v9)) rk (some (.p (.int (s : Int)))) (some (.p (.lst [.int a, .int b]))) row z7 z8 z9 z10) (S' := [.dtt ks ds]) (set1 (fz1 ?_)) (sFor_ok (keys_t rfl) e), h1, by omega⟩
  have c1 : ∀ S, f_said_by [.p (.tup [.int 1, .int 2, .int 4, .int 8, .int 16]), .p (.int (s : Int))] S = .ok (.p (.int a)) S := fun S => pur_ok (g := q_said_by) rfl ea
  have c2 : ∀ S, f_said_by [.p (.tup [.int 16, .int 32, .int 64, .int 128, .int 256]), .p (.int (s : Int))] S = .ok (.p (.int b)) S := fun S => pur_ok (g := q_said_by) rfl eb
  have r1 : ∀ (S : Sto), mCall f_said_by 2 [] (maCons (mLoc 7) (maCons (mLoc 4) maNil)) (EM lot (some (.p v9)) rk (some (.p (.int (s : Int)))) tu row (some (.p (.tup [.int 1, .int 2, .int 4, .int 8, .int 16]))) z8 z9 z10) S = .ok (.p (.int a)) S := fun S => (call2 (arg2 rfl rfl)).trans (c1 S)
  have r2 : ∀ (S : Sto), mCall f_said_by 2 [] (maCons (mLoc 7) (maCons (mLoc 4) maNil)) (EM lot (some (.p v9)) rk (some (.p (.int (s : Int)))) tu row (some (.p (.tup [.int 16, .int 32, .int 64, .int 128, .int 256]))) z8 z9 z10) S = .ok (.p (.int b)) S := fun S => (call2 (arg2 rfl rfl)).trans (c2 S)
  have lg : lcGo (.n 7) [7] mbYes (mCall f_said_by 2 [] (maCons (mLoc 7) (maCons (mLoc 4) maNil))) (EM lot (some (.p v9)) rk (some (.p (.int (s : Int)))) tu row z7 z8 z9 z10) [.tup [.int 1, .int 2, .int 4, .int 8, .int 16], .tup [.int 16, .int 32, .int 64, .int 128, .int 256]] [.dtt ks ds] = .ok [.int a, .int b] [.dtt ks ds] :=
    lc_cons rfl (r1 _) (lc_cons rfl (r2 _) rfl)
  show (match lcGo (.n 7) [7] mbYes (mCall f_said_by 2 [] (maCons (mLoc 7) (maCons (mLoc 4) maNil))) (EM lot (some (.p v9)) rk (some (.p (.int (s : Int)))) tu row z7 z8 z9 z10) [.tup [.int 1, .int 2, .int 4, .int 8, .int 16], .tup [.int 16, .int 32, .int 64, .int 128, .int 256]] [.dtt ks ds] with
    | .ok xs S2 => Rz.ok xs S2
    | _ => .bad) = _
  rw [lg]
theorem out_loop {lot rk z7 z8 z9 z10 : Option Vl} : ∀ (l : List Nat) (src tu row : Option Vl) (ks : List (List Key)) (ds : List Dt), (∀ s ∈ l, s < 12) → (∀ q ∈ ks, PK q) → ks.length * 2 ^ l.length ≤ 4096 →
    ∃ src' tu' row' ks' ds', sForL (.n 4) outer (l.map fun i : Nat => Dt.int (i : Int)) (EM lot (some (.p v9)) rk src tu row z7 z8 z9 z10) [.dtt ks ds] = .nx (EM lot (some (.p v9)) rk src' tu' row' z7 z8 z9 z10) [.dtt ks' ds'] ∧ (∀ q ∈ ks', PK q) ∧ ks'.length ≤ 4096
  | [], src, tu, row, ks, ds, _, hk, hn => ⟨src, tu, row, ks, ds, rfl, hk, by simpa using hn⟩
  | s :: l, src, tu, row, ks, ds, h, hk, hn => by
    rw [List.length_cons, Nat.pow_succ] at hn
    have p1 : 1 ≤ 2 ^ l.length := Nat.one_le_two_pow
    have hn1 : ks.length ≤ 4096 := Nat.le_trans (Nat.le_trans (Nat.le_mul_of_pos_right _ (by omega)) (Nat.le_refl _)) hn
    obtain ⟨row', tu', ks', ds', e, h1, h2⟩ := out_step (lot := lot) (rk := rk) (z7 := z7) (z8 := z8) (z9 := z9) (z10 := z10) (row := row) (tu := tu) (ds := ds) (h s List.mem_cons_self) hk (by omega)
    have hn2 : ks'.length * 2 ^ l.length ≤ 4096 := by
      have := Nat.mul_le_mul_right (2 ^ l.length) h2
      have e2 : 2 * ks.length * 2 ^ l.length = ks.length * (2 ^ l.length * 2) := by rw [Nat.mul_comm 2, Nat.mul_assoc, Nat.mul_comm 2]
      omega
    obtain ⟨src2, tu2, row2, ks2, ds2, e3, h3, h4⟩ := out_loop l (some (.p (.int (s : Int)))) tu' row' ks' ds' (fun q hq => h q (List.mem_cons_of_mem _ hq)) h1 hn2
    exact ⟨src2, tu2, row2, ks2, ds2, (forL_cons e).trans e3, h3, h4⟩
theorem dc_loop {env : Slo} (he : 4 < env.length) : ∀ (l ks : List (List Key)) (ds : List Dt) (S : Sto), (∀ q ∈ l, PK q) → (∀ q ∈ ks, PK q) → ∃ ks' ds', dcGo (.n 4) [4] mbYes (mLoc 4) (mLit (.bl true)) env (l.map tupK) ks ds S = .ok (ks', ds') S ∧ ∀ q ∈ ks', PK q
  | [], ks, ds, S, _, hk => ⟨ks, ds, rfl, hk⟩
  | k :: l, ks, ds, S, h, hk => by
    have pk := h k List.mem_cons_self
    obtain ⟨x, y, rfl⟩ := pk
    have hp := put_pk (ds := ds) (d := .bl true) hk (k := [.inl x, .inl y]) ⟨_, _, rfl⟩
    obtain ⟨ks', ds', e, h1⟩ := dc_loop he l (putE ks ds [.inl x, .inl y] (.bl true)).1 (putE ks ds [.inl x, .inl y] (.bl true)).2 S (fun q hq => h q (List.mem_cons_of_mem _ hq)) hp.1
    refine ⟨ks', ds', ?_, h1⟩
    have e4 : mLoc 4 ((wipeE env [4]).set 4 (some (.p (tupK [.inl x, .inl y])))) S = .ok (.p (tupK [.inl x, .inl y])) S := by
      unfold mLoc
      rw [List.getElem?_set_self (by simpa [wipeE] using he)]
    show dcGo (.n 4) [4] mbYes (mLoc 4) (mLit (.bl true)) env (tupK [.inl x, .inl y] :: l.map tupK) ks ds S = _
    unfold dcGo
    simp only [bindT, mbYes, if_true, e4]
    exact e
def lot60 : Dt := .tup [.int 0, .int 2]
theorem prV1' {f : List Dt → Option Dt} {ma : Ma} {env : Slo} {S S1 : Sto} {d z : Dt} (h : ma env S = .ok [.p d] S1) (hz : f [d] = some z) : mPrV f ma env S = .ok (.p z) S1 := prV1 h hz
theorem pr1 {f : List Dt → Option (List Dt)} {ma : Ma} {env : Slo} {S S1 : Sto} {d : Dt} {z : List Dt} (h : ma env S = .ok [.p d] S1) (hz : f [d] = some z) : mPr f ma env S = .ok z S1 := by
  unfold mPr
  rw [h]
  simp only [Rz.bind, derefs, deref, hz]
theorem tab_ok {ks : List (List Key)} (hk : ∀ q ∈ ks, PK q) (hn : ks.length ≤ 4096) : ∃ d, q_table_of [lot60, .lst (ks.map tupK)] = .ok d := by
  let E : Option Vl → Option Vl → Slo := fun a b => [some (.p lot60), some (.p (.lst (ks.map tupK))), a, b, none]
  have s1 : mMkO 9 3 f_Table_init 2 (maCons (mLoc 0) (maCons (mPure dTup maNil) maNil)) (E none none) [] = .ok (.loc 0) [.obj 9 0 [lot60, .dtt [] [], .tup []]] := by kernel_rfl
  obtain ⟨ks', ds', e, h1⟩ := dc_loop (env := E (some (.loc 0)) none) (by show 4 < 5; decide) ks [] [] [.obj 9 0 [lot60, .dtt [] [], .tup []]] hk (fun q hq => by cases hq)
  obtain ⟨nss, en⟩ := ints_pk h1
  have hl : line (ks.map tupK).length = true := decide_eq_true (by rw [List.length_map]; omega)
  have s2 : mFzD (mdDc (miSeq (mLoc 1)) (.n 4) [4] mbYes (mLoc 4) (mLit (.bl true))) (E (some (.loc 0)) none) [.obj 9 0 [lot60, .dtt [] [], .tup []]] = .ok (.p (.dtt ks' ds')) [.obj 9 0 [lot60, .dtt [] [], .tup []]] := by
    unfold mFzD mdDc
    show ((if line (ks.map tupK).length = true then (match dcGo (.n 4) [4] mbYes (mLoc 4) (mLit (.bl true)) (E (some (.loc 0)) none) (ks.map tupK) [] [] [.obj 9 0 [lot60, .dtt [] [], .tup []]] with
      | .ok z S2 => Rz.ok z S2
      | _ => .bad) else .bad) : Rz (List (List Key) × List Dt)).bind _ = _
    rw [if_pos hl, e]
    rfl
  have s4 : mPrV dTuple (maCons (mFz (mPr dSrtA (maCons (mLoc 3) maNil))) maNil) (E (some (.loc 0)) (some (.p (.dtt ks' ds')))) [.obj 9 0 [lot60, .dtt ks' ds', .tup []]] = .ok (.p (.tup ((sortL nss).map fun ns => .tup (ns.map .int)))) [.obj 9 0 [lot60, .dtt ks' ds', .tup []]] := by
    have dS : dSrtA [.dtt ks' ds'] = some ((sortL nss).map fun ns => .tup (ns.map .int)) := by
      show (intsKK ks').map _ = _
      rw [en]
      rfl
    exact prV1 (arg1 (fz1 (pr1 (arg1 rfl) dS))) rfl
  have key : m_table_of (E none none) [] = .rt (.loc 0) [.obj 9 0 [lot60, .dtt ks' ds', .tup ((sortL nss).map fun ns => .tup (ns.map .int))]] := by
    unfold m_table_of
    refine seq_to (env' := E (some (.loc 0)) none) (S' := [.obj 9 0 [lot60, .dtt [] [], .tup []]]) (set1 s1) ?_
    refine seq_to (env' := E (some (.loc 0)) (some (.p (.dtt ks' ds')))) (S' := [.obj 9 0 [lot60, .dtt [] [], .tup []]]) (set1 s2) ?_
    refine seq_to (env' := E (some (.loc 0)) (some (.p (.dtt ks' ds')))) (S' := [.obj 9 0 [lot60, .dtt ks' ds', .tup []]]) rfl ?_
    refine seq_to (env' := E (some (.loc 0)) (some (.p (.dtt ks' ds')))) (S' := [.obj 9 0 [lot60, .dtt ks' ds', .tup ((sortL nss).map fun ns => .tup (ns.map .int))]]) ?_ (rtv rfl)
    unfold sSetF mSetF
    rw [s4]
    rfl
  refine ⟨_, toP_ok (S' := []) (d := .obj 9 0 [lot60, .dtt ks' ds', .tup ((sortL nss).map fun ns => .tup (ns.map .int))]) ?_⟩
  unfold fnSem
  show (match m_table_of (E none none) [] with
    | .rt x S' => trunc 0 x S'
    | .nx _ S' => .ok (.p .non) (S'.take 0)
    | .exc c p _ S' => .exc c p (S'.take 0)
    | _ => .bad) = _
  rw [key]
  rfl
theorem made_ok : ∃ d, q_made_table [lot60, v9] = .ok d := by
  let E : Option Vl → Option Vl → Slo := fun a b => [some (.p lot60), some (.p v9), a, b, none, none, none, none, none, none, none]
  have erg : (rgL 0 12 : List Dt) = (List.range 12).map fun i : Nat => Dt.int (i : Int) := by simp [rgL]
  obtain ⟨src, tu, row, ks, ds, e, h1, h2⟩ := out_loop (lot := some (.p lot60)) (rk := some (.p (.int 9))) (z7 := none) (z8 := none) (z9 := none) (z10 := none) (List.range 12) none none none [[.inl 0, .inl 0]] [.bl true] (fun s hs => List.mem_range.mp hs) (fun q hq => by rw [List.mem_singleton.mp hq]; exact ⟨0, 0, rfl⟩) (by decide)
  rw [← erg] at e
  obtain ⟨d, ed⟩ := tab_ok h1 h2
  refine ⟨d, toP_ok (S' := []) ?_⟩
  have key : m_made_table (E none none) [] = .rt (.p d) [.dtt ks ds] := by
    unfold m_made_table
    refine seq_to (env' := E none none) (S' := []) (by kernel_rfl) ?_
    refine seq_to (env' := E (some (.p (.int 9))) none) (S' := []) (by kernel_rfl) ?_
    refine seq_to (env' := E (some (.p (.int 9))) none) (S' := []) (by kernel_rfl) ?_
    refine seq_to (env' := E (some (.p (.int 9))) (some (.loc 0))) (S' := [.dtt [[.inl 0, .inl 0]] [.bl true]]) (by kernel_rfl) ?_
    refine seq_to (sFor_ok (miR1_ok (d := 12) rfl (by decide)) e) ?_
    refine rtv ((call2 (arg2 rfl (fz1 (S1 := [.dtt ks ds]) (ds := ks.map tupK) rfl))).trans (pur_ok (g := q_table_of) rfl ed))
  exact fn_rt (N := 11) (xs := [.p lot60, .p v9]) (m := m_made_table) key
end K60

set_option Elab.async false
set_option linter.all false
set_option maxRecDepth 100000
set_option maxHeartbeats 4000000
namespace K60
open PySem PySem.Spec PyProof.Rows L2 EV
def Pw : Int := (10 ^ 51) ^ 7
theorem pw1 : dPow (.int 10) (.int 51) = some (.int (10 ^ 51)) := by
  show (if (decide (0 ≤ (51 : Int)) && decide (((10 : Int).natAbs.log2 + 1) * (51 : Int).toNat ≤ 134217728)) = true then some (Dt.int (10 ^ (51 : Int).toNat)) else none) = _
  rw [if_pos (by decide +kernel)]
  rfl
theorem pw2 : dPow (.int (10 ^ 51)) (.int 7) = some (.int Pw) := by
  show (if (decide (0 ≤ (7 : Int)) && decide (((10 ^ 51 : Int).natAbs.log2 + 1) * (7 : Int).toNat ≤ 134217728)) = true then some (Dt.int ((10 ^ 51) ^ (7 : Int).toNat)) else none) = _
  rw [if_pos (by decide +kernel)]
  rfl
theorem pw3 : dPow (.int 10) (.int 16) = some (.int 10000000000000000) := by
  show (if (decide (0 ≤ (16 : Int)) && decide (((10 : Int).natAbs.log2 + 1) * (16 : Int).toNat ≤ 134217728)) = true then some (Dt.int (10 ^ (16 : Int).toNat)) else none) = _
  rw [if_pos (by decide +kernel)]
  rfl
theorem Pw0 : 0 < Pw := by unfold Pw; decide +kernel
theorem get_end {α : Type} {S : List α} {x : α} : (S ++ [x])[S.length]? = some x := by simp
theorem set_end {α : Type} {S : List α} {x y : α} : (S ++ [x]).set S.length y = S ++ [y] := by simp
theorem take_end {α : Type} {S : List α} {x y : α} : List.take ((S ++ [x]).length) (S ++ [y]) = S ++ [y] := List.take_of_length_le (by simp)
abbrev cupE (d : Dt) (n : Nat) (cell : Option Vl) (a b : Option Vl) : Slo := [some (.p d), some (.p (.int (n : Int))), cell, a, b]
/-- what the cup's cell is -/
theorem cell_ok {ns : List Int} {s : Dt} (hs : Scr ns s) (i : Nat) (hi : i ≤ 2) (S : Sto) : ∃ cell : Int, (mIf (mbV (mOp2 dLt (mLoc 1) (mPrV dLen (maCons (mLoc 0) maNil)))) (mPrV dInt (maCons (mOp2 dIx (mLoc 0) (mLoc 1)) maNil)) (mOp2 dAdd (mOp2 dMul (mLit (.int 271)) (mLoc 1)) (mLit (.int 59)))) (cupE s i none none none) S = .ok (.p (.int cell)) S := by
  by_cases c : i < ns.length
  · refine ⟨ns[i], ifV (k := true) (tv (op2 rfl (prV1 (arg1 rfl) (scr_len hs)) ?_)) (fun _ => prV1 (arg1 (op2 rfl rfl (scr_ix hs c))) rfl) (fun z => Bool.noConfusion z)⟩
    show some (Dt.bl (decide ((i : Int) < (ns.length : Int)))) = _
    rw [decide_eq_true (Int.ofNat_lt.mpr c)]
  · refine ⟨271 * (i : Int) + 59, ifV (k := false) (tv (op2 rfl (prV1 (arg1 rfl) (scr_len hs)) ?_)) (fun z => Bool.noConfusion z) (fun _ => op2 (op2 rfl rfl (dMul_c 20 20 (by decide) (by decide) (by omega) (by omega) (by decide))) rfl rfl)⟩
    show some (Dt.bl (decide ((i : Int) < (ns.length : Int)))) = _
    rw [decide_eq_false (fun z => c (Int.ofNat_lt.mp z))]
theorem ow3 {f : List Dt → Option (List Dt)} {ma : Ma} {env : Slo} {S : Sto} {l : List Dt} (h : mPure f ma env S = .ok l S) : mOwn (mPure f ma) env S = .ok (.loc S.length) (S ++ [.lst l]) := by unfold mOwn; rw [h]; rfl
theorem ls3 {a b c : Mx} {env : Slo} {S : Sto} {u v z : Dt} (h1 : a env S = .ok (.p u) S) (h2 : b env S = .ok (.p v) S) (h3 : c env S = .ok (.p z) S) : mPure dLst (maCons a (maCons b (maCons c maNil))) env S = .ok [u, v, z] S := by
  simp only [mPure, maCons, maNil, h1, h2, h3, Rz.bind]; rfl
theorem cup_ok {ns : List Int} {s : Dt} (hs : Scr ns s) {i : Nat} (hi : i ≤ 2) (S : Sto) : ∃ a b : Int, f_law_jug [.p s, .p (.int (i : Int))] S = .ok [.int a, .int b, .int 0] S ∧ 0 ≤ a ∧ 0 ≤ b ∧ b < 2305843009213693951 := by
  obtain ⟨cell, hc⟩ := cell_ok hs i hi []
  obtain ⟨gr, hg⟩ : ∃ gr, fAbs cell % Pw = gr := ⟨_, rfl⟩
  have g0 : 0 ≤ gr := by rw [← hg]; exact Int.emod_nonneg _ (by have := Pw0; omega)
  obtain ⟨m, hm⟩ : ∃ m, gr % 2305843009213693907 = m := ⟨_, rfl⟩
  have m0 : 0 ≤ m := by rw [← hm]; exact Int.emod_nonneg _ (by decide)
  have m1 : m < 2305843009213693907 := by rw [← hm]; exact Int.emod_lt_of_pos _ (by decide)
  obtain ⟨w, hw, w0, w1⟩ : ∃ w : Int, (if decide (cell < 0) = true then (1 : Int) else 0) = w ∧ 0 ≤ w ∧ w < 2 ^ 20 := ⟨_, rfl, by split <;> decide, by split <;> decide⟩
  have e1 : dMod (.int (fAbs cell)) (.int Pw) = some (.int gr) := by rw [dMod_i Pw0, hg]
  have e2 : dMod (.int gr) (.int 2305843009213693907) = some (.int m) := by rw [dMod_i (by decide), hm]
  have e3 : dMul (.int m) (.int 71) = some (.int (m * 71)) := dMul_c 64 20 m0 (by omega) (by decide) (by decide) (by decide)
  have e4 : dMul (.int 4099) (.int (i : Int)) = some (.int (4099 * (i : Int))) := dMul_c 20 20 (by decide) (by decide) (by omega) (by omega) (by decide)
  have e5 : dMul (.int 37) (.int w) = some (.int (37 * w)) := dMul_c 20 20 (by decide) (by decide) w0 w1 (by decide)
  have e7 : dInt [.bl (decide (cell < 0))] = some (.int w) := by rw [← hw]; rfl
  obtain ⟨sd, hsd⟩ : ∃ sd : Int, m * 71 + 4099 * (i : Int) + 37 * w + 67 = sd := ⟨_, rfl⟩
  have e6 : dAdd (.int (m * 71 + 4099 * (i : Int) + 37 * w)) (.int 67) = some (.int sd) := by rw [dAdd_i, hsd]
  have e8 : dMod (.int sd) (.int 2305843009213693951) = some (.int (sd % 2305843009213693951)) := dMod_i (by decide)
  refine ⟨fMax 0 (gr - 10000000000000000), sd % 2305843009213693951, ?_, ?_, Int.emod_nonneg _ (by decide), Int.emod_lt_of_pos _ (by decide)⟩
  · have key : m_law_jug (cupE s i none none none) [] = .rt (.loc 0) [.lst [.int (fMax 0 (gr - 10000000000000000)), .int (sd % 2305843009213693951), .int 0]] := by
      unfold m_law_jug
      refine seq_to (env' := cupE s i (some (.p (.int cell))) none none) (S' := []) (set1 hc) ?_
      refine seq_to (env' := cupE s i (some (.p (.int cell))) (some (.p (.int gr))) none) (S' := []) (set1 (op2 (prV1 (arg1 (prV1 (arg1 rfl) rfl)) rfl) (op2 (op2 rfl rfl pw1) rfl pw2) e1)) ?_
      refine seq_to (env' := cupE s i (some (.p (.int cell))) (some (.p (.int gr))) (some (.p (.int sd)))) (S' := []) (set1 (prV1 (arg1 (op2 (op2 (op2 (op2 (op2 rfl rfl e2) rfl e3) (op2 rfl rfl e4) dAdd_i) (op2 rfl (prV1 (arg1 (op2 rfl rfl rfl)) e7) e5) dAdd_i) rfl e6)) rfl)) ?_
      exact rtv (ow3 (S := []) (ls3 (prV2 (arg2 rfl (op2 rfl (op2 rfl rfl pw3) rfl)) rfl) (op2 rfl rfl e8) rfl))
    have q : q_law_jug [s, .int (i : Int)] = .ok [.int (fMax 0 (gr - 10000000000000000)), .int (sd % 2305843009213693951), .int 0] := by
      unfold q_law_jug toPL fnSemF
      have ev : ((([s, Dt.int (i : Int)] : List Dt).map Vl.p).map some ++ List.replicate (5 - (([s, Dt.int (i : Int)] : List Dt).map Vl.p).length) none : Slo) = cupE s i none none none := rfl
      rw [ev, key]
      rfl
    show purL q_law_jug [.p s, .p (.int (i : Int))] S = _
    unfold purL
    simp only [allP, q]
  · unfold fMax
    split <;> omega
theorem tossed_ok {a b c t : Int} {S : Sto} (a0 : 0 ≤ a) (b0 : 0 ≤ b) (b1 : b < 2305843009213693951) (c0 : 0 ≤ c) (c1 : c < 4234967236) (t0 : 0 < t) (t1 : t < 18446744073709551616) :
    ∃ r a' c' : Int, f_law_poured [.loc S.length, .p (.int t)] (S ++ [.lst [.int a, .int b, .int c]]) = .ok (.p (.int r)) (S ++ [.lst [.int a', .int b, .int c']]) ∧ 0 ≤ r ∧ r < t := by
  by_cases ha : 0 < a
  · refine ⟨a % t, a / t, c, ?_, Int.emod_nonneg _ (by omega), Int.emod_lt_of_pos _ t0⟩
    simp [f_law_poured, fnSem, m_law_poured, sSeq, sIf, sSet, sRt, sSetI, mSetI, liftE, Rz.bind, mLoc, mLit, mOp2, mPrV, mPr, maCons, maNil, mbV, deref, derefs, dGt, dII, ha, dIx, atI, dInt, dMod_i t0, dFdiv_i t0 t1, trunc, ixN, set_take]
    exact List.take_of_length_le (by simp)
  · have e1 : dMul (.int 32452843) (.int (c + 1)) = some (.int (32452843 * (c + 1))) := dMul_i 64 64 (by decide) (by decide) (by omega) (by omega)
    have o0 : 0 ≤ (b + 32452843 * (c + 1)) % 2305843009213693951 := Int.emod_nonneg _ (by decide)
    have o1 : (b + 32452843 * (c + 1)) % 2305843009213693951 < 2305843009213693951 := Int.emod_lt_of_pos _ (by decide)
    obtain ⟨o, ho⟩ : ∃ o, (b + 32452843 * (c + 1)) % 2305843009213693951 = o := ⟨_, rfl⟩
    rw [ho] at o0 o1
    have e2 : dMul (.int o) (.int o) = some (.int (o * o)) := dMul_i 64 64 o0 (by omega) o0 (by omega)
    have e4 : dMul (.int 23) (.int (c + 1)) = some (.int (23 * (c + 1))) := dMul_i 64 64 (by decide) (by decide) (by omega) (by omega)
    obtain ⟨q, hq⟩ : ∃ q, (o * o + 49979687) % 2305843009213693921 = q := ⟨_, rfl⟩
    have q0 : 0 ≤ q := by rw [← hq]; exact Int.emod_nonneg _ (by decide)
    have q1 : q < 2305843009213693921 := by rw [← hq]; exact Int.emod_lt_of_pos _ (by decide)
    have e3 : dMul (.int q) (.int 67867967) = some (.int (q * 67867967)) := dMul_i 64 64 q0 (by omega) (by decide) (by decide)
    have e5 : dFdiv (.int (q * 67867967 + o + 23 * (c + 1))) (.int 65539) = some (.int ((q * 67867967 + o + 23 * (c + 1)) / 65539)) := dFdiv_i (by decide) (by decide)
    have e6 : dMod (.int (b + 32452843 * (c + 1))) (.int 2305843009213693951) = some (.int o) := by rw [dMod_i (by decide), ho]
    have e7 : dMod (.int (o * o + 49979687)) (.int 2305843009213693921) = some (.int q) := by rw [dMod_i (by decide), hq]
    refine ⟨(q * 67867967 + o + 23 * (c + 1)) / 65539 % t, a, c + 1, ?_, Int.emod_nonneg _ (by omega), Int.emod_lt_of_pos _ t0⟩
    simp [f_law_poured, fnSem, m_law_poured, sSeq, sIf, sSet, sRt, sSetI, mSetI, liftE, Rz.bind, mLoc, mLit, mOp2, mPrV, mPr, maCons, maNil, mbV, deref, derefs, dGt, dII, ha, dIx, atI, dInt, dAdd_i, e1, e2, e3, e4, e5, e6, e7, dMod_i t0, trunc, ixN, set_take, sNx]
    exact List.take_of_length_le (by simp)

/-! ### the finite part -/
theorem rt_of (j : Nat) (h : ((List.range 169).all fun t : Nat => isOk (q_law_right [.int ((t + j : Nat) : Int)]) (.bl true)) = true) {n : Nat} (h0 : j ≤ n) (h1 : n < j + 169) : isOk (q_law_right [.int (n : Int)]) (.bl true) = true := by
  have z := List.all_eq_true.mp h (n - j) (List.mem_range.mpr (by omega))
  rwa [Nat.sub_add_cancel h0] at z
set_option maxHeartbeats 0 in
theorem RT0 : ((List.range 169).all fun t : Nat => isOk (q_law_right [.int ((t + 0 : Nat) : Int)]) (.bl true)) = true := by decide +kernel
set_option maxHeartbeats 0 in
theorem RT1 : ((List.range 169).all fun t : Nat => isOk (q_law_right [.int ((t + 169 : Nat) : Int)]) (.bl true)) = true := by decide +kernel
set_option maxHeartbeats 0 in
theorem RT2 : ((List.range 169).all fun t : Nat => isOk (q_law_right [.int ((t + 338 : Nat) : Int)]) (.bl true)) = true := by decide +kernel
set_option maxHeartbeats 0 in
theorem RT3 : ((List.range 169).all fun t : Nat => isOk (q_law_right [.int ((t + 507 : Nat) : Int)]) (.bl true)) = true := by decide +kernel
set_option maxHeartbeats 0 in
theorem RT4 : ((List.range 169).all fun t : Nat => isOk (q_law_right [.int ((t + 676 : Nat) : Int)]) (.bl true)) = true := by decide +kernel
set_option maxHeartbeats 0 in
theorem RT5 : ((List.range 169).all fun t : Nat => isOk (q_law_right [.int ((t + 845 : Nat) : Int)]) (.bl true)) = true := by decide +kernel
theorem RT (n : Nat) (h : n < 1012) : isOk (q_law_right [.int (n : Int)]) (.bl true) = true := by
  by_cases c0 : n < 169
  · exact rt_of 0 RT0 (by omega) (by omega)
  by_cases c1 : n < 338
  · exact rt_of 169 RT1 (by omega) (by omega)
  by_cases c2 : n < 507
  · exact rt_of 338 RT2 (by omega) (by omega)
  by_cases c3 : n < 676
  · exact rt_of 507 RT3 (by omega) (by omega)
  by_cases c4 : n < 845
  · exact rt_of 676 RT4 (by omega) (by omega)
  exact rt_of 845 RT5 (by omega) (by omega)
theorem right_ok {t : Int} {S : Sto} (h0 : 0 ≤ t) (h1 : t < 1012) : f_law_right [.p (.int t)] S = .ok (.p (.bl true)) S := by
  obtain ⟨n, rfl⟩ : ∃ n : Nat, t = n := ⟨t.toNat, by omega⟩
  exact pur_ok (g := q_law_right) rfl (isOk_eq (RT n (by omega)))
abbrev bodyT : Sx := sIf (mbNot (mbV (mCall f_law_right 1 [] (maCons (mOp2 dAdd (mLoc 3) (mLoc 4)) maNil)))) (sRt (mLit (.bl false))) sNx
abbrev E6 (s : Dt) (x1 sh x5 : Option Vl) : Slo := [some (.p s), x1, none, sh, x5, none, none]
theorem turns_ok {s : Dt} {sp : Option Vl} {sh : Int} {S : Sto} (h0 : 0 ≤ sh) (h1 : sh < 1000) : ∀ (l : List Nat) (x5 : Option Vl), (∀ i ∈ l, i < 12) →
    ∃ x5', sForL (.n 4) bodyT (l.map fun i : Nat => Dt.int (i : Int)) (E6 s sp (some (.p (.int sh))) x5) S = .nx (E6 s sp (some (.p (.int sh))) x5') S
  | [], x5, _ => ⟨x5, rfl⟩
  | i :: l, x5, hl => by
    have hi := hl i List.mem_cons_self
    obtain ⟨x5', ih⟩ := turns_ok (s := s) (sp := sp) (S := S) h0 h1 l (some (.p (.int (i : Int)))) fun j hj => hl j (List.mem_cons_of_mem _ hj)
    refine ⟨x5', (forL_cons (env' := E6 s sp (some (.p (.int sh))) (some (.p (.int (i : Int))))) (S' := S) (if_g (not_t (tv ((call1 (arg1 (op2 (a := mLoc 3) (b := mLoc 4) rfl rfl dAdd_i))).trans (right_ok (t := sh + i) (by omega) (by omega))))))).trans ih⟩
abbrev bodyS : Sx := sSeq (sSet 3 (mCall f_law_poured 2 [] (maCons (mOwn (mCallF f_law_jug 2 [] (maCons (mLoc 0) (maCons (mLoc 1) maNil)))) (maCons (mLit (.int 1000)) maNil)))) (sFor (miR1 (maCons (mLit (.int 12)) maNil)) (.n 4) bodyT)
theorem one_spot {ns : List Int} {s : Dt} (hs : Scr ns s) {i : Nat} (hi : i ≤ 2) (sh x5 : Option Vl) (S : Sto) : ∃ d r x5', bodyS (E6 s (some (.p (.int (i : Int)))) sh x5) S = .nx (E6 s (some (.p (.int (i : Int)))) r x5') (S ++ [d]) := by
  obtain ⟨a, b, e, a0, b0, b1⟩ := cup_ok hs hi S
  obtain ⟨r, a', c', u, r0, r1⟩ := tossed_ok (S := S) (t := 1000) a0 b0 b1 (c := 0) (by decide) (by decide) (by decide) (by decide)
  have hown : mOwn (mCallF f_law_jug 2 [] (maCons (mLoc 0) (maCons (mLoc 1) maNil))) (E6 s (some (.p (.int (i : Int)))) sh x5) S = .ok (.loc S.length) (S ++ [.lst [.int a, .int b, .int 0]]) := by
    unfold mOwn
    rw [(callF2 (arg2 rfl rfl)).trans e]
    rfl
  obtain ⟨x5', t⟩ := turns_ok (s := s) (sp := some (.p (.int (i : Int)))) (S := S ++ [.lst [.int a', .int b, .int c']]) r0 r1 (List.range 12) x5 fun i hi => List.mem_range.mp hi
  have erg : (rgL 0 12 : List Dt) = (List.range 12).map fun i : Nat => Dt.int (i : Int) := by simp [rgL]
  rw [← erg] at t
  exact ⟨_, _, x5', seq_to (env' := E6 s (some (.p (.int (i : Int)))) (some (.p (.int r))) x5) (S' := S ++ [.lst [.int a', .int b, .int c']]) (set1 ((call2 (arg2 hown rfl)).trans u)) (sFor_ok (miR1_ok (d := 12) rfl (by decide)) t)⟩
theorem all_spots {ns : List Int} {s : Dt} (hs : Scr ns s) : ∀ (l : List Nat) (x1 sh x5 : Option Vl) (S : Sto), (∀ i ∈ l, i ≤ 2) → ∃ x1' sh' x5' D, D.length = l.length ∧ sForL (.n 1) bodyS (l.map fun i : Nat => Dt.int (i : Int)) (E6 s x1 sh x5) S = .nx (E6 s x1' sh' x5') (S ++ D)
  | [], x1, sh, x5, S, _ => ⟨x1, sh, x5, [], rfl, by rw [List.append_nil]; rfl⟩
  | i :: l, x1, sh, x5, S, h => by
    obtain ⟨d, r, y5, e⟩ := one_spot hs (h i List.mem_cons_self) sh x5 S
    obtain ⟨x1', sh', x5', D, hD, ih⟩ := all_spots hs l (some (.p (.int (i : Int)))) r y5 (S ++ [d]) fun j hj => h j (List.mem_cons_of_mem _ hj)
    exact ⟨x1', sh', x5', d :: D, by rw [List.length_cons, hD, List.length_cons], (forL_cons e).trans (by rw [ih, List.append_assoc]; rfl)⟩
theorem spots_n (ns : List Int) : ∃ n : Nat, (n = 1 ∨ n = 2) ∧ fMax 1 (fMin 2 (ns.length : Int)) = n := by
  refine ⟨(fMax 1 (fMin 2 (ns.length : Int))).toNat, ?_, ?_⟩ <;> unfold fMax fMin <;> split <;> split <;> omega
def tail : Sx := (sSeq (sSetT [5, 6] (mPure dTup (maCons (mPure dTup (maCons (mLit (.int 0)) (maCons (mLit (.int 2)) maNil))) (maCons (mPrV dTuple (maCons (mFz (mCallF f_law_bt_powers 0 [] maNil)) maNil)) maNil)))) (sSeq (sSet 2 (mOwn (mPure dLst (maCons (mCat (mCall f_step_vectors 2 [] (maCons (mLoc 5) (maCons (mFzD (mdDisp [((mPure dTup (maCons (mLit (.int 0)) maNil)), (mLit (.int 12)))])) maNil))) fine_law_met cat_law_met) maNil)))) (sSeq (sEx (mApp (mLoc 2) (maCons (mCat (mCall f_step_vectors 2 [] (maCons (mLoc 5) (maCons (mFzD (mdDisp [((mPure dTup (maCons (mLit (.int 0)) maNil)), (mLit (.int 6))), ((mPure dTup (maCons (mLit (.int 0)) (maCons (mLit (.int 2)) maNil))), (mLit (.int 7)))])) maNil))) fine_law_met cat_law_met) maNil))) (sSeq (sEx (mApp (mLoc 2) (maCons (mCat (mCall f_beside 3 [] (maCons (mLoc 5) (maCons (mPure dTup (maCons (mSlT (mLoc 6) moNo (moSome (mLit (.int 6)))) (maCons (mPure dTup maNil) maNil))) (maCons (mPure dTup (maCons (mSlT (mLoc 6) moNo (moSome (mLit (.int 6)))) (maCons (mPure dTup maNil) maNil))) maNil)))) fine_law_met cat_law_met) maNil))) (sSeq (sEx (mApp (mLoc 2) (maCons (mCat (mCall f_beside 3 [] (maCons (mLoc 5) (maCons (mPure dTup (maCons (mSlT (mLoc 6) moNo (moSome (mLit (.int 6)))) (maCons (mPure dTup maNil) maNil))) (maCons (mPure dTup (maCons (mSlT (mLoc 6) moNo (moSome (mLit (.int 7)))) (maCons (mPure dTup maNil) maNil))) maNil)))) fine_law_met cat_law_met) maNil))) (sSeq (sEx (mApp (mLoc 2) (maCons (mCat (mCall f_beside 3 [] (maCons (mLoc 5) (maCons (mPure dTup (maCons (mOp2 dMul (mPure dTup (maCons (mLit (.int 1)) maNil)) (mLit (.int 7))) (maCons (mPure dTup maNil) maNil))) (maCons (mPure dTup (maCons (mOp2 dMul (mPure dTup (maCons (mLit (.int 1)) maNil)) (mLit (.int 6))) (maCons (mPure dTup maNil) maNil))) maNil)))) fine_law_met cat_law_met) maNil))) (sSeq (sEx (mApp (mLoc 2) (maCons (mCat (mCall f_beside 3 [] (maCons (mLoc 5) (maCons (mPure dTup (maCons (mOp2 dMul (mPure dTup (maCons (mLit (.int 1)) maNil)) (mLit (.int 6))) (maCons (mPure dTup maNil) maNil))) (maCons (mPure dTup (maCons (mOp2 dMul (mPure dTup (maCons (mLit (.int 0)) maNil)) (mLit (.int 6))) (maCons (mPure dTup (maCons (mLit (.int 2048)) maNil)) maNil))) maNil)))) fine_law_met cat_law_met) maNil))) (sSeq (sEx (mApp (mLoc 2) (maCons (mCat (mCall f_made_table 2 [] (maCons (mLoc 5) (maCons (mPure dTup (maCons (mSlT (mLoc 6) moNo (moSome (mLit (.int 5)))) (maCons (mSlT (mLoc 6) (moSome (mLit (.int 4))) (moSome (mLit (.int 10)))) maNil))) maNil))) fine_law_met cat_law_met) maNil))) (sSeq (sEx (mApp (mLoc 2) (maCons (mCat (mCall f_reaching 3 [] (maCons (mLoc 5) (maCons (mPure dTup (maCons (mPure dTup (maCons (mLit (.int 0)) maNil)) (maCons (mPure dTup (maCons (mLit (.int 2)) maNil)) maNil))) (maCons (mPure dTup (maCons (mSlT (mLoc 6) moNo (moSome (mLit (.int 5)))) (maCons (mSlT (mLoc 6) (moSome (mLit (.int 4))) (moSome (mLit (.int 10)))) maNil))) maNil)))) fine_law_met cat_law_met) maNil))) (sSeq (sEx (mApp (mLoc 2) (maCons (mCat (mCall f_made_table 2 [] (maCons (mLoc 5) (maCons (mPure dTup (maCons (mSlT (mLoc 6) moNo (moSome (mLit (.int 5)))) (maCons (mSlT (mLoc 6) (moSome (mLit (.int 4))) (moSome (mLit (.int 9)))) maNil))) maNil))) fine_law_met cat_law_met) maNil))) (sRt (mOp2 dEq (mLoc 2) (mFz (mPure dLst (maCons (mLit (.str "fine")) (maCons (mLit (.str "many 12")) (maCons (mLit (.str "fine")) (maCons (mLit (.str "many 12")) (maCons (mLit (.str "many 12")) (maCons (mLit (.str "many 12")) (maCons (mLit (.str "many 1000")) (maCons (mLit (.str "many 1000")) (maCons (mLit (.str "fine")) maNil)))))))))))))))))))))))
def pws : Dt := .tup [.int 1, .int 2, .int 4, .int 8, .int 16, .int 32, .int 64, .int 128, .int 256, .int 512, .int 1024, .int 2048]
def E9 (s : Dt) (x1 sh x5 t : Option Vl) : Slo := [some (.p s), x1, t, sh, x5, some (.p lot60), some (.p pws)]
theorem own1 {mi : Mi} {env : Slo} {S S1 : Sto} {ds : List Dt} (h : mi env S = .ok ds S1) : mOwn mi env S = .ok (.loc S1.length) (S1 ++ [.lst ds]) := by unfold mOwn; rw [h]; rfl
theorem lst1 {m : Mx} {env : Slo} {S S1 : Sto} {d : Dt} (h : m env S = .ok (.p d) S1) : mPure dLst (maCons m maNil) env S = .ok [d] S1 := by unfold mPure; rw [arg1 h]; rfl
theorem op2L {f : Dt → Dt → Option Dt} {a b : Mx} {env : Slo} {S S1 S2 : Sto} {n : Nat} {d v z : Dt} (h1 : a env S = .ok (.loc n) S1) (h2 : b env S1 = .ok (.p v) S2) (hn : S2[n]? = some d) (hz : f d v = some z) : mOp2 f a b env S = .ok (.p z) S2 := by
  unfold mOp2
  rw [h1]
  simp only [Rz.bind, h2, deref, hn, hz]
theorem dEq_by {d e : Dt} {b : Bool} (h1 : (shD 60 d && shD 60 e) = true) (h2 : eqD d e = b) : dEq d e = some (.bl b) := by
  unfold dEq
  rw [if_pos h1, h2]
theorem cat_fine {m : Mx} {f : Dt} {c : Cat} {env : Slo} {S S' : Sto} {x : Vl} (h : m env S = .ok x S') : mCat m f c env S = .ok (.p f) S' := by unfold mCat; rw [h]
theorem app_end {S : Sto} {ds : List Dt} {m : Mx} {f : Dt} {env : Slo} (h2 : env[2]? = some (some (.loc S.length))) (h : m env (S ++ [.lst ds]) = .ok (.p f) (S ++ [.lst ds])) (hl : ds.length < 100) : sEx (mApp (mLoc 2) (maCons m maNil)) env (S ++ [.lst ds]) = .nx env (S ++ [.lst (ds ++ [f])]) := by
  have e : mLoc 2 env (S ++ [.lst ds]) = .ok (.loc S.length) (S ++ [.lst ds]) := by unfold mLoc; rw [h2]
  unfold sEx mApp
  rw [e]
  simp only [Rz.bind, arg1 h, get_end, set_end]
  rw [if_pos (show ds.length < 16777216 by omega)]
  rfl
set_option maxHeartbeats 0 in
theorem W0 (s : Dt) (x1 sh x5 t : Option Vl) (S : Sto) : (mCat (mCall f_step_vectors 2 [] (maCons (mLoc 5) (maCons (mFzD (mdDisp [((mPure dTup (maCons (mLit (.int 0)) maNil)), (mLit (.int 12)))])) maNil))) fine_law_met cat_law_met) (E9 s x1 sh x5 t) S = .ok (.p (.str "fine")) S := by kernel_rfl
set_option maxHeartbeats 0 in
theorem W1 (s : Dt) (x1 sh x5 t : Option Vl) (S : Sto) : (mCat (mCall f_step_vectors 2 [] (maCons (mLoc 5) (maCons (mFzD (mdDisp [((mPure dTup (maCons (mLit (.int 0)) maNil)), (mLit (.int 6))), ((mPure dTup (maCons (mLit (.int 0)) (maCons (mLit (.int 2)) maNil))), (mLit (.int 7)))])) maNil))) fine_law_met cat_law_met) (E9 s x1 sh x5 t) S = .ok (.p (.str "many 12")) S := by kernel_rfl
set_option maxHeartbeats 0 in
theorem W2 (s : Dt) (x1 sh x5 t : Option Vl) (S : Sto) : (mCat (mCall f_beside 3 [] (maCons (mLoc 5) (maCons (mPure dTup (maCons (mSlT (mLoc 6) moNo (moSome (mLit (.int 6)))) (maCons (mPure dTup maNil) maNil))) (maCons (mPure dTup (maCons (mSlT (mLoc 6) moNo (moSome (mLit (.int 6)))) (maCons (mPure dTup maNil) maNil))) maNil)))) fine_law_met cat_law_met) (E9 s x1 sh x5 t) S = .ok (.p (.str "fine")) S := by kernel_rfl
set_option maxHeartbeats 0 in
theorem W3 (s : Dt) (x1 sh x5 t : Option Vl) (S : Sto) : (mCat (mCall f_beside 3 [] (maCons (mLoc 5) (maCons (mPure dTup (maCons (mSlT (mLoc 6) moNo (moSome (mLit (.int 6)))) (maCons (mPure dTup maNil) maNil))) (maCons (mPure dTup (maCons (mSlT (mLoc 6) moNo (moSome (mLit (.int 7)))) (maCons (mPure dTup maNil) maNil))) maNil)))) fine_law_met cat_law_met) (E9 s x1 sh x5 t) S = .ok (.p (.str "many 12")) S := by kernel_rfl
set_option maxHeartbeats 0 in
theorem W4 (s : Dt) (x1 sh x5 t : Option Vl) (S : Sto) : (mCat (mCall f_beside 3 [] (maCons (mLoc 5) (maCons (mPure dTup (maCons (mOp2 dMul (mPure dTup (maCons (mLit (.int 1)) maNil)) (mLit (.int 7))) (maCons (mPure dTup maNil) maNil))) (maCons (mPure dTup (maCons (mOp2 dMul (mPure dTup (maCons (mLit (.int 1)) maNil)) (mLit (.int 6))) (maCons (mPure dTup maNil) maNil))) maNil)))) fine_law_met cat_law_met) (E9 s x1 sh x5 t) S = .ok (.p (.str "many 12")) S := by kernel_rfl
set_option maxHeartbeats 0 in
theorem W5 (s : Dt) (x1 sh x5 t : Option Vl) (S : Sto) : (mCat (mCall f_beside 3 [] (maCons (mLoc 5) (maCons (mPure dTup (maCons (mOp2 dMul (mPure dTup (maCons (mLit (.int 1)) maNil)) (mLit (.int 6))) (maCons (mPure dTup maNil) maNil))) (maCons (mPure dTup (maCons (mOp2 dMul (mPure dTup (maCons (mLit (.int 0)) maNil)) (mLit (.int 6))) (maCons (mPure dTup (maCons (mLit (.int 2048)) maNil)) maNil))) maNil)))) fine_law_met cat_law_met) (E9 s x1 sh x5 t) S = .ok (.p (.str "many 12")) S := by kernel_rfl
set_option maxHeartbeats 0 in
theorem W6 (s : Dt) (x1 sh x5 t : Option Vl) (S : Sto) : (mCat (mCall f_made_table 2 [] (maCons (mLoc 5) (maCons (mPure dTup (maCons (mSlT (mLoc 6) moNo (moSome (mLit (.int 5)))) (maCons (mSlT (mLoc 6) (moSome (mLit (.int 4))) (moSome (mLit (.int 10)))) maNil))) maNil))) fine_law_met cat_law_met) (E9 s x1 sh x5 t) S = .ok (.p (.str "many 1000")) S := by kernel_rfl
set_option maxHeartbeats 0 in
theorem W7 (s : Dt) (x1 sh x5 t : Option Vl) (S : Sto) : (mCat (mCall f_reaching 3 [] (maCons (mLoc 5) (maCons (mPure dTup (maCons (mPure dTup (maCons (mLit (.int 0)) maNil)) (maCons (mPure dTup (maCons (mLit (.int 2)) maNil)) maNil))) (maCons (mPure dTup (maCons (mSlT (mLoc 6) moNo (moSome (mLit (.int 5)))) (maCons (mSlT (mLoc 6) (moSome (mLit (.int 4))) (moSome (mLit (.int 10)))) maNil))) maNil)))) fine_law_met cat_law_met) (E9 s x1 sh x5 t) S = .ok (.p (.str "many 1000")) S := by kernel_rfl
theorem W8 (s : Dt) (x1 sh x5 t : Option Vl) (S : Sto) : (mCat (mCall f_made_table 2 [] (maCons (mLoc 5) (maCons (mPure dTup (maCons (mSlT (mLoc 6) moNo (moSome (mLit (.int 5)))) (maCons (mSlT (mLoc 6) (moSome (mLit (.int 4))) (moSome (mLit (.int 9)))) maNil))) maNil))) fine_law_met cat_law_met) (E9 s x1 sh x5 t) S = .ok (.p (.str "fine")) S := by
  obtain ⟨d, ed⟩ := made_ok
  have ea : (maCons (mLoc 5) (maCons (mPure dTup (maCons (mSlT (mLoc 6) moNo (moSome (mLit (.int 5)))) (maCons (mSlT (mLoc 6) (moSome (mLit (.int 4))) (moSome (mLit (.int 9)))) maNil))) maNil)) (E9 s x1 sh x5 t) S = .ok [.p lot60, .p v9] S := by kernel_rfl
  exact cat_fine (f := .str "fine") (S' := S) ((call2 ea).trans (pur_ok (g := q_made_table) rfl ed))
theorem tail_ok (s : Dt) (x1 sh x5 : Option Vl) (S : Sto) : ∃ S', tail (E6 s x1 sh x5) S = .rt (.p (.bl true)) S' := by
  refine ⟨S ++ [.lst (((((((([.str "fine"] ++ [.str "many 12"]) ++ [.str "fine"]) ++ [.str "many 12"]) ++ [.str "many 12"]) ++ [.str "many 12"]) ++ [.str "many 1000"]) ++ [.str "many 1000"]) ++ [.str "fine"])], ?_⟩
  unfold tail
  refine seq_to (env' := E9 s x1 sh x5 none) (S' := S) (by kernel_rfl) ?_
  refine seq_to (env' := E9 s x1 sh x5 (some (.loc S.length))) (S' := S ++ [.lst [.str "fine"]]) (set1 (own1 (lst1 (W0 ..)))) ?_
  refine seq_to (app_end rfl (W1 ..) (by decide)) ?_
  refine seq_to (app_end rfl (W2 ..) (by decide)) ?_
  refine seq_to (app_end rfl (W3 ..) (by decide)) ?_
  refine seq_to (app_end rfl (W4 ..) (by decide)) ?_
  refine seq_to (app_end rfl (W5 ..) (by decide)) ?_
  refine seq_to (app_end rfl (W6 ..) (by decide)) ?_
  refine seq_to (app_end rfl (W7 ..) (by decide)) ?_
  refine seq_to (app_end rfl (W8 ..) (by decide)) ?_
  exact rtv (op2L rfl (b := mFz _) (fz1 rfl) get_end (dEq_by (by decide +kernel) (by decide +kernel)))
theorem law_ok {ns : List Int} {s : Dt} (hs : Scr ns s) (_ : ns.length ≤ 63) : ∃ S', f_law [.p s] [] = .ok (.p (.bl true)) S' := by
  obtain ⟨n, hn, en⟩ := spots_n ns
  obtain ⟨x1, sh, x5, D, hD, lp⟩ := all_spots hs (List.range n) none none none [] fun i hi => by have := List.mem_range.mp hi; omega
  have erg : (rgL 0 n : List Dt) = (List.range n).map fun i : Nat => Dt.int (i : Int) := by simp [rgL]
  rw [← erg] at lp
  obtain ⟨S', e⟩ := tail_ok s x1 sh x5 ([] ++ D)
  have key : m_law (E6 s none none none) [] = .rt (.p (.bl true)) S' :=
    seq_to (env' := E6 s x1 sh x5) (S' := [] ++ D) (sFor_ok (miR1_ok (d := n) (arg1 ((prV2 (arg2 rfl (prV2 (arg2 rfl (prV1 (arg1 rfl) (scr_len hs))) rfl)) rfl).trans (by rw [en]))) (by omega)) lp) e
  exact ⟨_, fn_rt (N := 7) (xs := [.p s]) (m := m_law) key⟩
end K60

set_option Elab.async false
set_option linter.all false
set_option maxRecDepth 100000
set_option maxHeartbeats 4000000
namespace K60
open PySem PySem.Spec PyProof.Rows L2 EV
abbrev s_Table_lot : Stmt := inClass (topS 44) 1
theorem sc_Table_lot : FnScope ["self"] ["self"] (defScope s_Table_lot) := ⟨rfl, rfl, rfl, by decide +kernel, rfl, by decide +kernel, by decide +kernel⟩
abbrev s_Question_lot : Stmt := inClass (topS 54) 1
theorem sc_Question_lot : FnScope ["self"] ["self"] (defScope s_Question_lot) := ⟨rfl, rfl, rfl, by decide +kernel, rfl, by decide +kernel, by decide +kernel⟩
abbrev s_Table_rows : Stmt := inClass (topS 44) 2
theorem sc_Table_rows : FnScope ["self"] ["self"] (defScope s_Table_rows) := ⟨rfl, rfl, rfl, by decide +kernel, rfl, by decide +kernel, by decide +kernel⟩
abbrev s_i7 : Stmt := inClass (topS 9) 0
theorem sc_i7 : FnScope ["self", "given"] ["self", "given"] (defScope s_i7) := ⟨rfl, rfl, rfl, by decide +kernel, rfl, by decide +kernel, by decide +kernel⟩
abbrev s_i8 : Stmt := inClass (topS 10) 0
theorem sc_i8 : FnScope ["self", "most"] ["self", "most"] (defScope s_i8) := ⟨rfl, rfl, rfl, by decide +kernel, rfl, by decide +kernel, by decide +kernel⟩
set_option maxHeartbeats 0 in
theorem all_mk {P : Program} {w : World} {K : PySem.W.Frag} {h : Heap} {mg : Str → Option Value} {fa : Addr} {f0 : Addr} {f1 : Addr} {f2 : Addr} {f3 : Addr} {f4 : Addr} {f5 : Addr} {f6 : Addr} {f7 : Addr} {f8 : Addr} {f9 : Addr} {f10 : Addr} {f11 : Addr} {f12 : Addr} {f13 : Addr} {f14 : Addr} {f15 : Addr} {f16 : Addr} {f17 : Addr} {f18 : Addr} {f19 : Addr} {f20 : Addr} {f21 : Addr} {f22 : Addr} {f23 : Addr} {f24 : Addr} {f25 : Addr} {f26 : Addr} {f27 : Addr} {f28 : Addr} {f29 : Addr} {f30 : Addr} {f32 : Addr} {f33 : Addr} {f34 : Addr} {f35 : Addr} {f36 : Addr} {f38 : Addr} {f39 : Addr} {f40 : Addr} {f41 : Addr} {f42 : Addr} {f43 : Addr} {f44 : Addr} {f45 : Addr} {f46 : Addr} {f47 : Addr} {f48 : Addr} {f49 : Addr} {f50 : Addr} {f51 c51_ : Addr} {f52 c52_ : Addr} {C9 I9 : Addr} {C10 I10 : Addr} {P9_lot Q9_lot : Addr} {P10_lot Q10_lot : Addr} {P9_rows Q9_rows : Addr} {g_law_met : Addr} {C1 : Addr} {C2 : Addr} {C3 : Addr} {C4 : Addr} {C5 : Addr} {C6 : Addr} {C7 : Addr} {I7 : Addr} {qi7 : Str} {oc7 : Value} {od7 : Option Addr} {kV7 dc7 pm7 : Value} {an7 : Option Addr} {cd7 ct7 : Value} {sl7 : Array (Option Value)} {nm7 qn7 : Str} {N7 : Addr} {bs7 bm7 : List Value} {sn7 : List Str} {su7 : List Value} {ab7 : Bool} {col7 : Option Bool} {dd7 : Option Addr} {m07 m17 m27 m37 m57 : Option Value} {C8 : Addr} {I8 : Addr} {qi8 : Str} {oc8 : Value} {od8 : Option Addr} {kV8 dc8 pm8 : Value} {an8 : Option Addr} {cd8 ct8 : Value} {sl8 : Array (Option Value)} {nm8 qn8 : Str} {N8 : Addr} {bs8 bm8 : List Value} {sn8 : List Str} {su8 : List Value} {ab8 : Bool} {col8 : Option Bool} {dd8 : Option Addr} {m08 m18 m28 m38 m58 : Option Value} {t_GREATEST : Tok} {t_LAST_LETTER : Tok} {t_MOST_K : Tok} {t_MOST_LETTERS : Tok} {t_MOST_PARTS : Tok} {t_MOST_ROWS : Tok} {t_MOST_SOURCES : Tok} {t_MOST_TOLD : Tok} {t_MOST_VECTORS : Tok} {P51 : Addr} {P52 : Addr} (X : K.In h) (N : h.Ns mainGlobals mg) (hfa : mg "law" = some (.ref fa))
    (h0 : At K "is_integer" s_is_integer f0)
    (h1 : At K "is_lot" s_is_lot f1)
    (h2 : At K "_gain" s_gain f2)
    (h3 : At K "check_table" s_check_table f3)
    (h4 : At K "part_at" s_part_at f4)
    (h5 : At K "_are_tables" s_are_tables f5)
    (h6 : At K "_rank_of" s_rank_of f6)
    (h7 : At K "_said_by" s_said_by f7)
    (h8 : At K "_sources_of" s_sources_of f8)
    (h9 : At K "_law_jug" s_law_jug f9)
    (h10 : At K "_law_poured" s_law_poured f10)
    (h11 : At K "_law_bt_turned" s_law_bt_turned f11)
    (h12 : At K "_law_bt_powers" s_law_bt_powers f12)
    (h13 : At K "is_between" s_is_between f13)
    (h14 : At K "are_lots" s_are_lots f14)
    (h15 : At K "check_lot" s_check_lot f15)
    (h16 : At K "check_rank_lot" s_check_rank_lot f16)
    (h17 : At K "parts_at" s_parts_at f17)
    (h18 : At K "are_between" s_are_between f18)
    (h19 : AtD K "check_number" s_check_number 999999999 f19)
    (h20 : At K "joined_lot" s_joined_lot f20)
    (h21 : At K "rest_lot" s_rest_lot f21)
    (h22 : At K "lots_within" s_lots_within f22)
    (h23 : At K "lots_on" s_lots_on f23)
    (h24 : At K "is_within" s_is_within f24)
    (h25 : At K "_has_form" s_has_form f25)
    (h26 : At K "_basic_gains" s_basic_gains f26)
    (h27 : At K "step_times" s_step_times f27)
    (h28 : At K "is_row" s_is_row f28)
    (h29 : At K "check_p_and_d" s_check_p_and_d f29)
    (h30 : At K "are_vectors" s_are_vectors f30)
    (h32 : At K "is_lot_within" s_is_lot_within f32)
    (h33 : At K "is_step_up" s_is_step_up f33)
    (h34 : At K "rank_fault" s_rank_fault f34)
    (h35 : At K "check_lots_of" s_check_lots_of f35)
    (h36 : At K "_check_vectors" s_check_vectors f36)
    (h38 : At K "check_rank" s_check_rank f38)
    (h39 : At K "_is_told_degree" s_is_told_degree f39)
    (h40 : At K "vector_rank" s_vector_rank f40)
    (h41 : At K "step_vectors" s_step_vectors f41)
    (h42 : At K "beside" s_beside f42)
    (h43 : At K "table_of" s_table_of f43)
    (h44 : At K "is_told" s_is_told f44)
    (h45 : At K "step_counts" s_step_counts f45)
    (h46 : At K "project" s_project f46)
    (h47 : At K "check_told" s_check_told f47)
    (h48 : At K "made_table" s_made_table f48)
    (h49 : At K "reaching" s_reaching f49)
    (h50 : At K "is_reached" s_is_reached f50)
    (h51 : AtC K "_law_right" s_law_right f51 c51_)
    (h52 : AtC K "law" s_law f52 c52_)
    (A9 : ObA K "Table" C9 I9 ["_lot", "_known", "_rows"])
    (A10 : ObA K "Question" C10 I10 ["_lot", "_parts", "_lots", "_sizes"])
    (h31 : AtM K "__init__" "Question.__init__" s_Question_init I10)
    (h37 : AtM K "__init__" "Table.__init__" s_Table_init I9)
    (R9_lot : PrA K C9 "lot" P9_lot Q9_lot)
    (M9_lot : AtM K "lot" "Table.lot" s_Table_lot Q9_lot)
    (R10_lot : PrA K C10 "lot" P10_lot Q10_lot)
    (M10_lot : AtM K "lot" "Question.lot" s_Question_lot Q10_lot)
    (R9_rows : PrA K C9 "rows" P9_rows Q9_rows)
    (M9_rows : AtM K "rows" "Table.rows" s_Table_rows Q9_rows)
    (kn9 : EV.KtN K C9)
    (kk9_9 : PySem.W.kitOne K (.ref C9) (.ref C9) = some true)
    (kk10_9 : PySem.W.kitOne K (.ref C10) (.ref C9) = some false)
    (kt9_bool : PySem.W.kitOne K (.ref C9) (.type "bool") = some false)
    (kt10_bool : PySem.W.kitOne K (.ref C10) (.type "bool") = some false)
    (kt9_dict : PySem.W.kitOne K (.ref C9) (.type "dict") = some false)
    (kt10_dict : PySem.W.kitOne K (.ref C10) (.type "dict") = some false)
    (kt9_int : PySem.W.kitOne K (.ref C9) (.type "int") = some false)
    (kt10_int : PySem.W.kitOne K (.ref C10) (.type "int") = some false)
    (kt9_tuple : PySem.W.kitOne K (.ref C9) (.type "tuple") = some false)
    (kt10_tuple : PySem.W.kitOne K (.ref C10) (.type "tuple") = some false)
    (hc_law_met : At K "_law_met" s_law_met g_law_met)
    (X1 : XcA K "InvalidLot" C1)
    (xe1 : PySem.W.excIn K C1 [.type "ValueError", .type "Exception", .type "BaseException", .type "object"] "ValueError.__new__" = true)
    (X2 : XcA K "InvalidTable" C2)
    (xe2 : PySem.W.excIn K C2 [.type "ValueError", .type "Exception", .type "BaseException", .type "object"] "ValueError.__new__" = true)
    (X3 : XcA K "InvalidQuestion" C3)
    (xe3 : PySem.W.excIn K C3 [.type "ValueError", .type "Exception", .type "BaseException", .type "object"] "ValueError.__new__" = true)
    (X4 : XcA K "InvalidRank" C4)
    (xe4 : PySem.W.excIn K C4 [.type "ValueError", .type "Exception", .type "BaseException", .type "object"] "ValueError.__new__" = true)
    (X5 : XcA K "InvalidTold" C5)
    (xe5 : PySem.W.excIn K C5 [.type "ValueError", .type "Exception", .type "BaseException", .type "object"] "ValueError.__new__" = true)
    (X6 : XcA K "InvalidOperation" C6)
    (xe6 : PySem.W.excIn K C6 [.type "ValueError", .type "Exception", .type "BaseException", .type "object"] "ValueError.__new__" = true)
    (X7 : XcA K "InvalidNumber" C7)
    (xl7 : K.lookup C7 = some (excClassObj nm7 qn7 C7 N7 bs7 bm7 true sn7 su7 ab7 col7 dd7 m07 m17 m27 m37 m57 "ValueError.__new__"))
    (xr7 : PySem.HandSPX.refsVE bm7 = true)
    (xs7 : PySem.W.findIn K (.ref C7) "__setattr__" = some (some (.builtin "object.__setattr__")))
    (xi7 : PySem.W.findIn K (.ref C7) "__init__" = some (some (.ref I7)))
    (xy7 : PySem.W.typeIn K (.ref I7) = some (.type "function"))
    (xo7 : PySem.W.findIn K (.ref C7) "given" = some none)
    (xg7 : PySem.W.findIn K (.ref C7) "__getattribute__" = some (some (.builtin "BaseException.__getattribute__")))
    (xh7 : PySem.W.findIn K (.ref C7) "__getattr__" = some none)
    (xd7 : PySem.W.hasDictIn K C7 = true)
    (xf7 : K.lookup I7 = some ⟨oc7, od7, .func (PySem.W.fnOf "__init__" qi7 (defArgs s_i7) (defBody s_i7) (defScope s_i7) .none kV7 dc7 pm7 an7 cd7 ct7), sl7⟩)
    (xq7 : PySem.W.codeIn K cd7 qi7 = true)
    (X8 : XcA K "TooMany" C8)
    (xl8 : K.lookup C8 = some (excClassObj nm8 qn8 C8 N8 bs8 bm8 true sn8 su8 ab8 col8 dd8 m08 m18 m28 m38 m58 "ValueError.__new__"))
    (xr8 : PySem.HandSPX.refsVE bm8 = true)
    (xs8 : PySem.W.findIn K (.ref C8) "__setattr__" = some (some (.builtin "object.__setattr__")))
    (xi8 : PySem.W.findIn K (.ref C8) "__init__" = some (some (.ref I8)))
    (xy8 : PySem.W.typeIn K (.ref I8) = some (.type "function"))
    (xo8 : PySem.W.findIn K (.ref C8) "most" = some none)
    (xg8 : PySem.W.findIn K (.ref C8) "__getattribute__" = some (some (.builtin "BaseException.__getattribute__")))
    (xh8 : PySem.W.findIn K (.ref C8) "__getattr__" = some none)
    (xd8 : PySem.W.hasDictIn K C8 = true)
    (xf8 : K.lookup I8 = some ⟨oc8, od8, .func (PySem.W.fnOf "__init__" qi8 (defArgs s_i8) (defBody s_i8) (defScope s_i8) .none kV8 dc8 pm8 an8 cd8 ct8), sl8⟩)
    (xq8 : PySem.W.codeIn K cd8 qi8 = true)
    (xx1_1 : PySem.W.subIn K (.ref C1) (.ref C1) = some true)
    (xx1_2 : PySem.W.subIn K (.ref C1) (.ref C2) = some false)
    (xx1_3 : PySem.W.subIn K (.ref C1) (.ref C3) = some false)
    (xx1_4 : PySem.W.subIn K (.ref C1) (.ref C4) = some false)
    (xx1_5 : PySem.W.subIn K (.ref C1) (.ref C5) = some false)
    (xx1_6 : PySem.W.subIn K (.ref C1) (.ref C6) = some false)
    (xx1_7 : PySem.W.subIn K (.ref C1) (.ref C7) = some false)
    (xx1_8 : PySem.W.subIn K (.ref C1) (.ref C8) = some false)
    (xx2_1 : PySem.W.subIn K (.ref C2) (.ref C1) = some false)
    (xx2_2 : PySem.W.subIn K (.ref C2) (.ref C2) = some true)
    (xx2_3 : PySem.W.subIn K (.ref C2) (.ref C3) = some false)
    (xx2_4 : PySem.W.subIn K (.ref C2) (.ref C4) = some false)
    (xx2_5 : PySem.W.subIn K (.ref C2) (.ref C5) = some false)
    (xx2_6 : PySem.W.subIn K (.ref C2) (.ref C6) = some false)
    (xx2_7 : PySem.W.subIn K (.ref C2) (.ref C7) = some false)
    (xx2_8 : PySem.W.subIn K (.ref C2) (.ref C8) = some false)
    (xx3_1 : PySem.W.subIn K (.ref C3) (.ref C1) = some false)
    (xx3_2 : PySem.W.subIn K (.ref C3) (.ref C2) = some false)
    (xx3_3 : PySem.W.subIn K (.ref C3) (.ref C3) = some true)
    (xx3_4 : PySem.W.subIn K (.ref C3) (.ref C4) = some false)
    (xx3_5 : PySem.W.subIn K (.ref C3) (.ref C5) = some false)
    (xx3_6 : PySem.W.subIn K (.ref C3) (.ref C6) = some false)
    (xx3_7 : PySem.W.subIn K (.ref C3) (.ref C7) = some false)
    (xx3_8 : PySem.W.subIn K (.ref C3) (.ref C8) = some false)
    (xx4_1 : PySem.W.subIn K (.ref C4) (.ref C1) = some false)
    (xx4_2 : PySem.W.subIn K (.ref C4) (.ref C2) = some false)
    (xx4_3 : PySem.W.subIn K (.ref C4) (.ref C3) = some false)
    (xx4_4 : PySem.W.subIn K (.ref C4) (.ref C4) = some true)
    (xx4_5 : PySem.W.subIn K (.ref C4) (.ref C5) = some false)
    (xx4_6 : PySem.W.subIn K (.ref C4) (.ref C6) = some false)
    (xx4_7 : PySem.W.subIn K (.ref C4) (.ref C7) = some false)
    (xx4_8 : PySem.W.subIn K (.ref C4) (.ref C8) = some false)
    (xx5_1 : PySem.W.subIn K (.ref C5) (.ref C1) = some false)
    (xx5_2 : PySem.W.subIn K (.ref C5) (.ref C2) = some false)
    (xx5_3 : PySem.W.subIn K (.ref C5) (.ref C3) = some false)
    (xx5_4 : PySem.W.subIn K (.ref C5) (.ref C4) = some false)
    (xx5_5 : PySem.W.subIn K (.ref C5) (.ref C5) = some true)
    (xx5_6 : PySem.W.subIn K (.ref C5) (.ref C6) = some false)
    (xx5_7 : PySem.W.subIn K (.ref C5) (.ref C7) = some false)
    (xx5_8 : PySem.W.subIn K (.ref C5) (.ref C8) = some false)
    (xx6_1 : PySem.W.subIn K (.ref C6) (.ref C1) = some false)
    (xx6_2 : PySem.W.subIn K (.ref C6) (.ref C2) = some false)
    (xx6_3 : PySem.W.subIn K (.ref C6) (.ref C3) = some false)
    (xx6_4 : PySem.W.subIn K (.ref C6) (.ref C4) = some false)
    (xx6_5 : PySem.W.subIn K (.ref C6) (.ref C5) = some false)
    (xx6_6 : PySem.W.subIn K (.ref C6) (.ref C6) = some true)
    (xx6_7 : PySem.W.subIn K (.ref C6) (.ref C7) = some false)
    (xx6_8 : PySem.W.subIn K (.ref C6) (.ref C8) = some false)
    (xx7_1 : PySem.W.subIn K (.ref C7) (.ref C1) = some false)
    (xx7_2 : PySem.W.subIn K (.ref C7) (.ref C2) = some false)
    (xx7_3 : PySem.W.subIn K (.ref C7) (.ref C3) = some false)
    (xx7_4 : PySem.W.subIn K (.ref C7) (.ref C4) = some false)
    (xx7_5 : PySem.W.subIn K (.ref C7) (.ref C5) = some false)
    (xx7_6 : PySem.W.subIn K (.ref C7) (.ref C6) = some false)
    (xx7_7 : PySem.W.subIn K (.ref C7) (.ref C7) = some true)
    (xx7_8 : PySem.W.subIn K (.ref C7) (.ref C8) = some false)
    (xx8_1 : PySem.W.subIn K (.ref C8) (.ref C1) = some false)
    (xx8_2 : PySem.W.subIn K (.ref C8) (.ref C2) = some false)
    (xx8_3 : PySem.W.subIn K (.ref C8) (.ref C3) = some false)
    (xx8_4 : PySem.W.subIn K (.ref C8) (.ref C4) = some false)
    (xx8_5 : PySem.W.subIn K (.ref C8) (.ref C5) = some false)
    (xx8_6 : PySem.W.subIn K (.ref C8) (.ref C6) = some false)
    (xx8_7 : PySem.W.subIn K (.ref C8) (.ref C7) = some false)
    (xx8_8 : PySem.W.subIn K (.ref C8) (.ref C8) = some true)
    (z_abs : PySem.W.nsIn K mainGlobals "abs" = some none)
    (z_all : PySem.W.nsIn K mainGlobals "all" = some none)
    (z_bool : PySem.W.nsIn K mainGlobals "bool" = some none)
    (z_dict : PySem.W.nsIn K mainGlobals "dict" = some none)
    (z_enumerate : PySem.W.nsIn K mainGlobals "enumerate" = some none)
    (z_int : PySem.W.nsIn K mainGlobals "int" = some none)
    (z_isinstance : PySem.W.nsIn K mainGlobals "isinstance" = some none)
    (z_len : PySem.W.nsIn K mainGlobals "len" = some none)
    (z_list : PySem.W.nsIn K mainGlobals "list" = some none)
    (z_max : PySem.W.nsIn K mainGlobals "max" = some none)
    (z_min : PySem.W.nsIn K mainGlobals "min" = some none)
    (z_range : PySem.W.nsIn K mainGlobals "range" = some none)
    (z_repr : PySem.W.nsIn K mainGlobals "repr" = some none)
    (z_set : PySem.W.nsIn K mainGlobals "set" = some none)
    (z_sorted : PySem.W.nsIn K mainGlobals "sorted" = some none)
    (z_sum : PySem.W.nsIn K mainGlobals "sum" = some none)
    (z_tuple : PySem.W.nsIn K mainGlobals "tuple" = some none)
    (z_zip : PySem.W.nsIn K mainGlobals "zip" = some none)
    (z_GREATEST : PySem.W.nsIn K mainGlobals "GREATEST" = some (some (.int 999999999 t_GREATEST)))
    (z_LAST_LETTER : PySem.W.nsIn K mainGlobals "LAST_LETTER" = some (some (.int 5 t_LAST_LETTER)))
    (z_MOST_K : PySem.W.nsIn K mainGlobals "MOST_K" = some (some (.int 20 t_MOST_K)))
    (z_MOST_LETTERS : PySem.W.nsIn K mainGlobals "MOST_LETTERS" = some (some (.int 5 t_MOST_LETTERS)))
    (z_MOST_PARTS : PySem.W.nsIn K mainGlobals "MOST_PARTS" = some (some (.int 12 t_MOST_PARTS)))
    (z_MOST_ROWS : PySem.W.nsIn K mainGlobals "MOST_ROWS" = some (some (.int 1000 t_MOST_ROWS)))
    (z_MOST_SOURCES : PySem.W.nsIn K mainGlobals "MOST_SOURCES" = some (some (.int 12 t_MOST_SOURCES)))
    (z_MOST_TOLD : PySem.W.nsIn K mainGlobals "MOST_TOLD" = some (some (.int 20 t_MOST_TOLD)))
    (z_MOST_VECTORS : PySem.W.nsIn K mainGlobals "MOST_VECTORS" = some (some (.int 12 t_MOST_VECTORS)))
    (pn51 : K.lookup P51 = none)
    (ph51 : PySem.W.codeHdIn K c51_ P51 = true)
    (pn52 : K.lookup P52 = none)
    (ph52 : PySem.W.codeHdIn K c52_ P52 = true)
    (pd51_52 : P51 ≠ P52) :
    (∀ p ∈ ([(c51_, P51), (c52_, P52)] : List (Addr × Addr)), K.lookup p.2 = none) ∧ (∀ p ∈ ([(c51_, P51), (c52_, P52)] : List (Addr × Addr)), PySem.W.codeHdIn K p.1 p.2 = true) ∧
    ∃ fd : FuncData, (∀ (s : Shared) (u : Value), BindsTo s fd ⟨[u], []⟩ [("script", u)]) ∧ ∀ base : Heap, K.In base → base.Ns mainGlobals mg → (∀ p ∈ ([(c51_, P51), (c52_, P52)] : List (Addr × Addr)), LamX.TabB base mg p.1 p.2) → ∃ G : Stat, G.P = P ∧ G.w = w ∧ G.K = K ∧ G.mg = mg ∧ G.base = base ∧ FnG G 16 fa fd ["script"] (spL G.K (([(c51_, P51), (c52_, P52)] : List (Addr × Addr)).map (·.2))) := by
  have e := hfa.symm.trans (PySem.W.mg_of X N h52.ns)
  cases e
  refine ⟨?_, ?_, ?_⟩
  · intro p hp
    simp only [List.mem_cons, List.not_mem_nil, or_false] at hp
    rcases hp with rfl | rfl
    all_goals first | exact pn51 | exact pn52
  · intro p hp
    simp only [List.mem_cons, List.not_mem_nil, or_false] at hp
    rcases hp with rfl | rfl
    all_goals first | exact ph51 | exact ph52
  obtain ⟨fdL, FL⟩ := h52.fn
  refine ⟨fdL, fun s v => ?_, fun base _ _ TBs => ?_⟩
  · obtain ⟨oc, od, kV, doc, pm, an, ct, osl, rfl, lL, cL⟩ := FL.ex
    exact .of_eq (by exact (rfl : bindArgs (PySem.W.fnOf "law" "law" (defArgs s_law) (defBody s_law) (defScope s_law) .none kV doc pm an (.ref _) ct) ⟨[v], []⟩ = _))
  obtain ⟨T, eT⟩ : ∃ T : List (Addr × Str), T = [(P51, ((("_law_right" : Str) ++ ".<locals>.") ++ "<lambda>")), (P52, ((("law" : Str) ++ ".<locals>.") ++ "<lambda>"))] := ⟨_, rfl⟩
  obtain ⟨G, hG⟩ : ∃ G, G = GS P w K mg base (fun | 0 => f48 | 1 => f40 | _ => 0) (fun | 1 => C1 | 2 => C2 | 3 => C3 | 4 => C4 | 5 => C5 | 6 => C6 | 7 => C7 | 8 => C8 | 9 => C9 | 10 => C10 | _ => 0) (fun | 7 => some "given" | 8 => some "most" | _ => none) (fun | 9 => (["_lot", "_known", "_rows"] : List Str) | 10 => (["_lot", "_parts", "_lots", "_sizes"] : List Str) | _ => []) T := ⟨_, rfl⟩
  have eP : G.P = P := by rw [hG]; rfl
  have ew : G.w = w := by rw [hG]; rfl
  have eK : G.K = K := by rw [hG]; rfl
  have em : G.mg = mg := by rw [hG]; rfl
  have eb : G.base = base := by rw [hG]; rfl
  have hT : TbT G T := by rw [hG]; exact ⟨fun _ t => t, fun _ t => t⟩
  have ef0 : G.fa 0 = f48 := by rw [hG]; rfl
  have ef1 : G.fa 1 = f40 := by rw [hG]; rfl
  have ec1 : G.ca 1 = C1 := by rw [hG]; rfl
  have eg1 : G.cf 1 = none := by rw [hG]; rfl
  have ec2 : G.ca 2 = C2 := by rw [hG]; rfl
  have eg2 : G.cf 2 = none := by rw [hG]; rfl
  have ec3 : G.ca 3 = C3 := by rw [hG]; rfl
  have eg3 : G.cf 3 = none := by rw [hG]; rfl
  have ec4 : G.ca 4 = C4 := by rw [hG]; rfl
  have eg4 : G.cf 4 = none := by rw [hG]; rfl
  have ec5 : G.ca 5 = C5 := by rw [hG]; rfl
  have eg5 : G.cf 5 = none := by rw [hG]; rfl
  have ec6 : G.ca 6 = C6 := by rw [hG]; rfl
  have eg6 : G.cf 6 = none := by rw [hG]; rfl
  have ec7 : G.ca 7 = C7 := by rw [hG]; rfl
  have eg7 : G.cf 7 = some "given" := by rw [hG]; rfl
  have ec8 : G.ca 8 = C8 := by rw [hG]; rfl
  have eg8 : G.cf 8 = some "most" := by rw [hG]; rfl
  have ec9 : G.ca 9 = C9 := by rw [hG]; rfl
  have el9 : G.fl 9 = (["_lot", "_known", "_rows"] : List Str) := by rw [hG]; rfl
  have ec10 : G.ca 10 = C10 := by rw [hG]; rfl
  have el10 : G.fl 10 = (["_lot", "_parts", "_lots", "_sizes"] : List Str) := by rw [hG]; rfl
  clear hG
  subst eP ew eK em eb
  have L51 : LamC G T c51_ P51 ((("_law_right" : Str) ++ ".<locals>.") ++ "<lambda>") := ⟨TBs (c51_, P51) (by simp), by rw [eT]; simp, fun p hp e => by
    rw [eT] at hp
    simp only [List.mem_cons, List.not_mem_nil, or_false] at hp
    rcases hp with rfl | rfl
    · rfl
    · exact absurd e (Ne.symm pd51_52)⟩
  have L52 : LamC G T c52_ P52 ((("law" : Str) ++ ".<locals>.") ++ "<lambda>") := ⟨TBs (c52_, P52) (by simp), by rw [eT]; simp, fun p hp e => by
    rw [eT] at hp
    simp only [List.mem_cons, List.not_mem_nil, or_false] at hp
    rcases hp with rfl | rfl
    · exact absurd e pd51_52
    · rfl⟩
  obtain ⟨ocY, odY, kVY, dcY, pmY, anY, cdY, ctY, slY, lY, kY⟩ := hc_law_met.ex
  have bY := (fun_mk lY kY hc_law_met.kp).binds (ps := ["call"]) fun _ _ _ _ _ _ us hl => match us, hl with | [_], _ => rfl
  have C_law_met : CatAt G "_law_met" s_law_met "call" g_law_met cdY := ⟨PySem.W.mg_of X N hc_law_met.ns, hc_law_met.kp, ⟨ocY, odY, kVY, dcY, pmY, ctY, anY, slY, lY, bY⟩, kY⟩
  have O7 : OexC G.K C7 := oex_mk X7 xl7 xr7 xs7
  have XF7 : XfC G.K C7 := ⟨xg7, xh7, X7.bP, xd7⟩
  have XI7 : XcI G "InvalidNumber" "given" C7 I7 := ⟨X7, O7, xi7, xy7, xo7, XF7, ⟨_, _, init_ok O7 xo7 xf7 xq7 sc_i7 (fun A outer s H E => pss_one (ps_ost (pv 0) (pv 1))), (.all fun us hl => match us, hl with | [_, _], _ => rfl)⟩⟩
  have O8 : OexC G.K C8 := oex_mk X8 xl8 xr8 xs8
  have XF8 : XfC G.K C8 := ⟨xg8, xh8, X8.bP, xd8⟩
  have XI8 : XcI G "TooMany" "most" C8 I8 := ⟨X8, O8, xi8, xy8, xo8, XF8, ⟨_, _, init_ok O8 xo8 xf8 xq8 sc_i8 (fun A outer s H E => pss_one (ps_ost (pv 0) (pv 1))), (.all fun us hl => match us, hl with | [_, _], _ => rfl)⟩⟩
  have SUB : ∀ c h b, sub0 c h = some b → PySem.W.exmOne G.K (.ref (G.ca c)) (.ref (G.ca h)) = some b := fun c h b e => by
    unfold sub0 at e
    split at e
    · cases e; rw [ec1]; exact exm_two X1.bP X1.iC X1.tP xx1_1
    · cases e; rw [ec1, ec2]; exact exm_two X2.bP X2.iC X2.tP xx1_2
    · cases e; rw [ec1, ec3]; exact exm_two X3.bP X3.iC X3.tP xx1_3
    · cases e; rw [ec1, ec4]; exact exm_two X4.bP X4.iC X4.tP xx1_4
    · cases e; rw [ec1, ec5]; exact exm_two X5.bP X5.iC X5.tP xx1_5
    · cases e; rw [ec1, ec6]; exact exm_two X6.bP X6.iC X6.tP xx1_6
    · cases e; rw [ec1, ec7]; exact exm_two X7.bP X7.iC X7.tP xx1_7
    · cases e; rw [ec1, ec8]; exact exm_two X8.bP X8.iC X8.tP xx1_8
    · cases e; rw [ec2, ec1]; exact exm_two X1.bP X1.iC X1.tP xx2_1
    · cases e; rw [ec2]; exact exm_two X2.bP X2.iC X2.tP xx2_2
    · cases e; rw [ec2, ec3]; exact exm_two X3.bP X3.iC X3.tP xx2_3
    · cases e; rw [ec2, ec4]; exact exm_two X4.bP X4.iC X4.tP xx2_4
    · cases e; rw [ec2, ec5]; exact exm_two X5.bP X5.iC X5.tP xx2_5
    · cases e; rw [ec2, ec6]; exact exm_two X6.bP X6.iC X6.tP xx2_6
    · cases e; rw [ec2, ec7]; exact exm_two X7.bP X7.iC X7.tP xx2_7
    · cases e; rw [ec2, ec8]; exact exm_two X8.bP X8.iC X8.tP xx2_8
    · cases e; rw [ec3, ec1]; exact exm_two X1.bP X1.iC X1.tP xx3_1
    · cases e; rw [ec3, ec2]; exact exm_two X2.bP X2.iC X2.tP xx3_2
    · cases e; rw [ec3]; exact exm_two X3.bP X3.iC X3.tP xx3_3
    · cases e; rw [ec3, ec4]; exact exm_two X4.bP X4.iC X4.tP xx3_4
    · cases e; rw [ec3, ec5]; exact exm_two X5.bP X5.iC X5.tP xx3_5
    · cases e; rw [ec3, ec6]; exact exm_two X6.bP X6.iC X6.tP xx3_6
    · cases e; rw [ec3, ec7]; exact exm_two X7.bP X7.iC X7.tP xx3_7
    · cases e; rw [ec3, ec8]; exact exm_two X8.bP X8.iC X8.tP xx3_8
    · cases e; rw [ec4, ec1]; exact exm_two X1.bP X1.iC X1.tP xx4_1
    · cases e; rw [ec4, ec2]; exact exm_two X2.bP X2.iC X2.tP xx4_2
    · cases e; rw [ec4, ec3]; exact exm_two X3.bP X3.iC X3.tP xx4_3
    · cases e; rw [ec4]; exact exm_two X4.bP X4.iC X4.tP xx4_4
    · cases e; rw [ec4, ec5]; exact exm_two X5.bP X5.iC X5.tP xx4_5
    · cases e; rw [ec4, ec6]; exact exm_two X6.bP X6.iC X6.tP xx4_6
    · cases e; rw [ec4, ec7]; exact exm_two X7.bP X7.iC X7.tP xx4_7
    · cases e; rw [ec4, ec8]; exact exm_two X8.bP X8.iC X8.tP xx4_8
    · cases e; rw [ec5, ec1]; exact exm_two X1.bP X1.iC X1.tP xx5_1
    · cases e; rw [ec5, ec2]; exact exm_two X2.bP X2.iC X2.tP xx5_2
    · cases e; rw [ec5, ec3]; exact exm_two X3.bP X3.iC X3.tP xx5_3
    · cases e; rw [ec5, ec4]; exact exm_two X4.bP X4.iC X4.tP xx5_4
    · cases e; rw [ec5]; exact exm_two X5.bP X5.iC X5.tP xx5_5
    · cases e; rw [ec5, ec6]; exact exm_two X6.bP X6.iC X6.tP xx5_6
    · cases e; rw [ec5, ec7]; exact exm_two X7.bP X7.iC X7.tP xx5_7
    · cases e; rw [ec5, ec8]; exact exm_two X8.bP X8.iC X8.tP xx5_8
    · cases e; rw [ec6, ec1]; exact exm_two X1.bP X1.iC X1.tP xx6_1
    · cases e; rw [ec6, ec2]; exact exm_two X2.bP X2.iC X2.tP xx6_2
    · cases e; rw [ec6, ec3]; exact exm_two X3.bP X3.iC X3.tP xx6_3
    · cases e; rw [ec6, ec4]; exact exm_two X4.bP X4.iC X4.tP xx6_4
    · cases e; rw [ec6, ec5]; exact exm_two X5.bP X5.iC X5.tP xx6_5
    · cases e; rw [ec6]; exact exm_two X6.bP X6.iC X6.tP xx6_6
    · cases e; rw [ec6, ec7]; exact exm_two X7.bP X7.iC X7.tP xx6_7
    · cases e; rw [ec6, ec8]; exact exm_two X8.bP X8.iC X8.tP xx6_8
    · cases e; rw [ec7, ec1]; exact exm_two X1.bP X1.iC X1.tP xx7_1
    · cases e; rw [ec7, ec2]; exact exm_two X2.bP X2.iC X2.tP xx7_2
    · cases e; rw [ec7, ec3]; exact exm_two X3.bP X3.iC X3.tP xx7_3
    · cases e; rw [ec7, ec4]; exact exm_two X4.bP X4.iC X4.tP xx7_4
    · cases e; rw [ec7, ec5]; exact exm_two X5.bP X5.iC X5.tP xx7_5
    · cases e; rw [ec7, ec6]; exact exm_two X6.bP X6.iC X6.tP xx7_6
    · cases e; rw [ec7]; exact exm_two X7.bP X7.iC X7.tP xx7_7
    · cases e; rw [ec7, ec8]; exact exm_two X8.bP X8.iC X8.tP xx7_8
    · cases e; rw [ec8, ec1]; exact exm_two X1.bP X1.iC X1.tP xx8_1
    · cases e; rw [ec8, ec2]; exact exm_two X2.bP X2.iC X2.tP xx8_2
    · cases e; rw [ec8, ec3]; exact exm_two X3.bP X3.iC X3.tP xx8_3
    · cases e; rw [ec8, ec4]; exact exm_two X4.bP X4.iC X4.tP xx8_4
    · cases e; rw [ec8, ec5]; exact exm_two X5.bP X5.iC X5.tP xx8_5
    · cases e; rw [ec8, ec6]; exact exm_two X6.bP X6.iC X6.tP xx8_6
    · cases e; rw [ec8, ec7]; exact exm_two X7.bP X7.iC X7.tP xx8_7
    · cases e; rw [ec8]; exact exm_two X8.bP X8.iC X8.tP xx8_8
    · cases e
  have OT9 := A9.obT ec9 el9 (by decide)
  have OT10 := A10.obT ec10 el10 (by decide)
  have PT9_lot : PrT G 9 "lot" "_lot" 1 := prT_mk R9_lot M9_lot ec9 OT9 (by decide) sc_Table_lot rfl rfl fun _ _ _ _ _ _ us hl => match us, hl with | [_], _ => rfl
  have PT10_lot : PrT G 10 "lot" "_lot" 1 := prT_mk R10_lot M10_lot ec10 OT10 (by decide) sc_Question_lot rfl rfl fun _ _ _ _ _ _ us hl => match us, hl with | [_], _ => rfl
  have PT9_rows : PrT G 9 "rows" "_rows" 1 := prT_mk R9_rows M9_rows ec9 OT9 (by decide) sc_Table_rows rfl rfl fun _ _ _ _ _ _ us hl => match us, hl with | [_], _ => rfl
  have AT_Uknown : ∀ c i, at_Uknown c = some i → AttT G "_known" 1 c i := fun c i e => by
    unfold at_Uknown at e
    split at e
    · cases e; exact .fld OT9 rfl
    · cases e
  have AT_lot : ∀ c i, at_lot c = some i → AttT G "lot" 1 c i := fun c i e => by
    unfold at_lot at e
    split at e
    · cases e; exact .prop OT9 rfl PT9_lot
    · cases e; exact .prop OT10 rfl PT10_lot
    · cases e
  have AT_rows : ∀ c i, at_rows c = some i → AttT G "rows" 1 c i := fun c i e => by
    unfold at_rows at e
    split at e
    · cases e; exact .prop OT9 rfl PT9_rows
    · cases e
  have IC_Table : ∀ c b, tc_Table c = some b → (∃ ns, ObT G c ns) ∧ PySem.W.kitOne G.K (.ref (G.ca c)) (.ref C9) = some b := fun c b e => by
    unfold tc_Table at e
    split at e
    · cases e; rw [ec9]; exact ⟨⟨_, OT9⟩, kk9_9⟩
    · cases e; rw [ec10]; exact ⟨⟨_, OT10⟩, kk10_9⟩
    · cases e
  have IC_bool : ∀ c b, tcN c = some b → (∃ ns, ObT G c ns) ∧ PySem.W.kitOne G.K (.ref (G.ca c)) (.type "bool") = some b := fun c b e => by
    unfold tcN at e
    split at e
    · cases e; rw [ec9]; exact ⟨⟨_, OT9⟩, kt9_bool⟩
    · cases e; rw [ec10]; exact ⟨⟨_, OT10⟩, kt10_bool⟩
    · cases e
  have IC_dict : ∀ c b, tcN c = some b → (∃ ns, ObT G c ns) ∧ PySem.W.kitOne G.K (.ref (G.ca c)) (.type "dict") = some b := fun c b e => by
    unfold tcN at e
    split at e
    · cases e; rw [ec9]; exact ⟨⟨_, OT9⟩, kt9_dict⟩
    · cases e; rw [ec10]; exact ⟨⟨_, OT10⟩, kt10_dict⟩
    · cases e
  have IC_int : ∀ c b, tcN c = some b → (∃ ns, ObT G c ns) ∧ PySem.W.kitOne G.K (.ref (G.ca c)) (.type "int") = some b := fun c b e => by
    unfold tcN at e
    split at e
    · cases e; rw [ec9]; exact ⟨⟨_, OT9⟩, kt9_int⟩
    · cases e; rw [ec10]; exact ⟨⟨_, OT10⟩, kt10_int⟩
    · cases e
  have IC_tuple : ∀ c b, tcN c = some b → (∃ ns, ObT G c ns) ∧ PySem.W.kitOne G.K (.ref (G.ca c)) (.type "tuple") = some b := fun c b e => by
    unfold tcN at e
    split at e
    · cases e; rw [ec9]; exact ⟨⟨_, OT9⟩, kt9_tuple⟩
    · cases e; rw [ec10]; exact ⟨⟨_, OT10⟩, kt10_tuple⟩
    · cases e
  have B : Bi G := { b_abs := PySem.W.mg_none_of X N z_abs, b_all := PySem.W.mg_none_of X N z_all, b_bool := PySem.W.mg_none_of X N z_bool, b_dict := PySem.W.mg_none_of X N z_dict, b_enumerate := PySem.W.mg_none_of X N z_enumerate, b_int := PySem.W.mg_none_of X N z_int, b_isinstance := PySem.W.mg_none_of X N z_isinstance, b_len := PySem.W.mg_none_of X N z_len, b_list := PySem.W.mg_none_of X N z_list, b_max := PySem.W.mg_none_of X N z_max, b_min := PySem.W.mg_none_of X N z_min, b_range := PySem.W.mg_none_of X N z_range, b_repr := PySem.W.mg_none_of X N z_repr, b_set := PySem.W.mg_none_of X N z_set, b_sorted := PySem.W.mg_none_of X N z_sorted, b_sum := PySem.W.mg_none_of X N z_sum, b_tuple := PySem.W.mg_none_of X N z_tuple, b_zip := PySem.W.mg_none_of X N z_zip, c_GREATEST := ⟨t_GREATEST, PySem.W.mg_of X N z_GREATEST⟩, c_LAST_LETTER := ⟨t_LAST_LETTER, PySem.W.mg_of X N z_LAST_LETTER⟩, c_MOST_K := ⟨t_MOST_K, PySem.W.mg_of X N z_MOST_K⟩, c_MOST_LETTERS := ⟨t_MOST_LETTERS, PySem.W.mg_of X N z_MOST_LETTERS⟩, c_MOST_PARTS := ⟨t_MOST_PARTS, PySem.W.mg_of X N z_MOST_PARTS⟩, c_MOST_ROWS := ⟨t_MOST_ROWS, PySem.W.mg_of X N z_MOST_ROWS⟩, c_MOST_SOURCES := ⟨t_MOST_SOURCES, PySem.W.mg_of X N z_MOST_SOURCES⟩, c_MOST_TOLD := ⟨t_MOST_TOLD, PySem.W.mg_of X N z_MOST_TOLD⟩, c_MOST_VECTORS := ⟨t_MOST_VECTORS, PySem.W.mg_of X N z_MOST_VECTORS⟩, x_InvalidLot := ExT.of X N X1 ec1 eg1 xe1, x_InvalidTable := ExT.of X N X2 ec2 eg2 xe2, x_InvalidQuestion := ExT.of X N X3 ec3 eg3 xe3, x_InvalidRank := ExT.of X N X4 ec4 eg4 xe4, x_InvalidTold := ExT.of X N X5 ec5 eg5 xe5, x_InvalidOperation := ExT.of X N X6 ec6 eg6 xe6, x_InvalidNumber := ExI.of X N XI7 ec7 eg7, f_InvalidNumber := by rw [ec7]; exact ⟨XF7, xo7⟩, x_TooMany := ExI.of X N XI8 ec8 eg8, f_TooMany := by rw [ec8]; exact ⟨XF8, xo8⟩, n_made_table := by rw [ef0]; exact PySem.W.mg_of X N h48.ns, n_vector_rank := by rw [ef1]; exact PySem.W.mg_of X N h40.ns, sub := SUB, o_Table := OT9, kp_Table := by rw [ec9]; exact A9.kp, mc_Table := by rw [ec9]; exact PySem.W.mg_of X N A9.nm, o_Question := OT10, kp_Question := by rw [ec10]; exact A10.kp, mc_Question := by rw [ec10]; exact PySem.W.mg_of X N A10.nm, a_Uknown := AT_Uknown, a_lot := AT_lot, a_rows := AT_rows, is_Table := isM_o ec9 kn9 IC_Table, is_bool := isM_b kb_bool IC_bool, is_dict := isM_b kb_dict IC_dict, is_int := isM_b kb_int IC_int, is_tuple := isM_b kb_tuple IC_tuple }
  obtain ⟨fd0, F0⟩ := h0.fn
  have b0 := F0.binds (ps := ["value"]) fun _ _ _ _ _ _ us hl => match us, hl with | [_], _ => rfl
  have z_is_integer : FnF G 1 "is_integer" f0 1 [] f_is_integer := FnF.pure (mkF X N h0 (ok_is_integer (k := 0) B F0 ) b0)
  obtain ⟨fd1, F1⟩ := h1.fn
  have b1 := F1.binds (ps := ["value"]) fun _ _ _ _ _ _ us hl => match us, hl with | [_], _ => rfl
  have z_is_lot : FnF G 1 "is_lot" f1 1 [] f_is_lot := FnF.pure (mkF X N h1 (ok_is_lot (k := 0) B F1 ) b1)
  obtain ⟨fd2, F2⟩ := h2.fn
  have b2 := F2.binds (ps := ["more", "fewer"]) fun _ _ _ _ _ _ us hl => match us, hl with | [_, _], _ => rfl
  have z_gain : FnF G 1 "_gain" f2 2 [] f_gain := FnF.pure (mkF X N h2 (ok_gain (k := 0) B F2 ) b2)
  obtain ⟨fd3, F3⟩ := h3.fn
  have b3 := F3.binds (ps := ["value"]) fun _ _ _ _ _ _ us hl => match us, hl with | [_], _ => rfl
  have z_check_table : FnF G 1 "check_table" f3 1 [] f_check_table := FnF.pure (mkF X N h3 (ok_check_table (k := 0) B F3 ) b3)
  obtain ⟨fd4, F4⟩ := h4.fn
  have b4 := F4.binds (ps := ["row", "places"]) fun _ _ _ _ _ _ us hl => match us, hl with | [_, _], _ => rfl
  have z_part_at : FnF G 1 "part_at" f4 2 [] f_part_at := FnF.pure (mkF X N h4 (ok_part_at (k := 0) B F4 ) b4)
  obtain ⟨fd5, F5⟩ := h5.fn
  have b5 := F5.binds (ps := ["value"]) fun _ _ _ _ _ _ us hl => match us, hl with | [_], _ => rfl
  have z_are_tables : FnF G 1 "_are_tables" f5 1 [] f_are_tables := FnF.pure (mkF X N h5 (ok_are_tables (k := 0) B F5 ) b5)
  obtain ⟨fd6, F6⟩ := h6.fn
  have b6 := F6.binds (ps := ["vectors"]) fun _ _ _ _ _ _ us hl => match us, hl with | [_], _ => rfl
  have z_rank_of : FnF G 1 "_rank_of" f6 1 [] f_rank_of := FnF.pure (mkF X N h6 (ok_rank_of (k := 0) B F6 ) b6)
  obtain ⟨fd7, F7⟩ := h7.fn
  have b7 := F7.binds (ps := ["vectors", "source"]) fun _ _ _ _ _ _ us hl => match us, hl with | [_, _], _ => rfl
  have z_said_by : FnF G 1 "_said_by" f7 2 [] f_said_by := FnF.pure (mkF X N h7 (ok_said_by (k := 0) B F7 ) b7)
  obtain ⟨fd8, F8⟩ := h8.fn
  have b8 := F8.binds (ps := ["vectors"]) fun _ _ _ _ _ _ us hl => match us, hl with | [_], _ => rfl
  have z_sources_of : FnF G 1 "_sources_of" f8 1 [] f_sources_of := FnF.pure (mkF X N h8 (ok_sources_of (k := 0) B F8 ) b8)
  obtain ⟨fd9, F9⟩ := h9.fn
  have b9 := F9.binds (ps := ["script", "spot"]) fun _ _ _ _ _ _ us hl => match us, hl with | [_, _], _ => rfl
  have z_law_jug : FnL G 1 "_law_jug" f9 2 [] f_law_jug := FnL.pure (mkL X N h9 (ok_law_jug (k := 0) B F9 ) b9)
  obtain ⟨fd10, F10⟩ := h10.fn
  have b10 := F10.binds (ps := ["jug", "total"]) fun _ _ _ _ _ _ us hl => match us, hl with | [_, _], _ => rfl
  have z_law_poured : FnF G 1 "_law_poured" f10 2 [] f_law_poured := mkF X N h10 (ok_law_poured (k := 0) B F10 ) b10
  obtain ⟨fd11, F11⟩ := h11.fn
  have b11 := F11.binds (ps := ["items", "turn"]) fun _ _ _ _ _ _ us hl => match us, hl with | [_, _], _ => rfl
  have z_law_bt_turned : FnF G 1 "_law_bt_turned" f11 2 [] f_law_bt_turned := FnF.pure (mkF X N h11 (ok_law_bt_turned (k := 0) B F11 ) b11)
  obtain ⟨fd12, F12⟩ := h12.fn
  have b12 := F12.binds (ps := []) fun _ _ _ _ _ _ us hl => match us, hl with | [], _ => rfl
  have z_law_bt_powers : FnL G 1 "_law_bt_powers" f12 0 [] f_law_bt_powers := FnL.pure (mkL X N h12 (ok_law_bt_powers (k := 0) B F12 ) b12)
  obtain ⟨fd13, F13⟩ := h13.fn
  have b13 := F13.binds (ps := ["value", "least", "most"]) fun _ _ _ _ _ _ us hl => match us, hl with | [_, _, _], _ => rfl
  have z_is_between : FnF G 2 "is_between" f13 3 [] f_is_between := FnF.pure (mkF X N h13 (ok_is_between (k := 1) B F13 (z_is_integer.mono (by decide))) b13)
  obtain ⟨fd14, F14⟩ := h14.fn
  have b14 := F14.binds (ps := ["value"]) fun _ _ _ _ _ _ us hl => match us, hl with | [_], _ => rfl
  have z_are_lots : FnF G 2 "are_lots" f14 1 [] f_are_lots := FnF.pure (mkF X N h14 (ok_are_lots (k := 1) B F14 (z_is_lot.mono (by decide))) b14)
  obtain ⟨fd15, F15⟩ := h15.fn
  have b15 := F15.binds (ps := ["value"]) fun _ _ _ _ _ _ us hl => match us, hl with | [_], _ => rfl
  have z_check_lot : FnF G 2 "check_lot" f15 1 [] f_check_lot := FnF.pure (mkF X N h15 (ok_check_lot (k := 1) B F15 (z_is_lot.mono (by decide))) b15)
  obtain ⟨fd16, F16⟩ := h16.fn
  have b16 := F16.binds (ps := ["value"]) fun _ _ _ _ _ _ us hl => match us, hl with | [_], _ => rfl
  have z_check_rank_lot : FnF G 2 "check_rank_lot" f16 1 [] f_check_rank_lot := FnF.pure (mkF X N h16 (ok_check_rank_lot (k := 1) B F16 (z_is_lot.mono (by decide))) b16)
  obtain ⟨fd17, F17⟩ := h17.fn
  have b17 := F17.binds (ps := ["rows", "letters", "wanted"]) fun _ _ _ _ _ _ us hl => match us, hl with | [_, _, _], _ => rfl
  have z_parts_at : FnF G 2 "parts_at" f17 3 [] f_parts_at := FnF.pure (mkF X N h17 (ok_parts_at (k := 1) B F17 (z_part_at.mono (by decide))) b17)
  obtain ⟨fd18, F18⟩ := h18.fn
  have b18 := F18.binds (ps := ["value", "least", "most"]) fun _ _ _ _ _ _ us hl => match us, hl with | [_, _, _], _ => rfl
  have z_are_between : FnF G 3 "are_between" f18 3 [] f_are_between := FnF.pure (mkF X N h18 (ok_are_between (k := 2) B F18 (z_is_between.mono (by decide))) b18)
  have h_is_between := z_is_between.mono (k := 2) (by decide)
  have hk : 2 ≤ 2 := by decide
  have z_check_number : FnF G 3 "check_number" f19 3 [.int 999999999] f_check_number := FnF.pure (dflt_mk (k := 2) X N h19 sc_check_number rfl 2 (fun cdv A outer s H E g => (sb_one (ss_if (st_not (st_val (se_call g h_is_between (sa_cons (se_loc (pv 0)) (sa_cons (se_loc (pv 1)) (sa_cons (se_loc (pv 2)) sa_nil)))))) (sb_one (ss_raiseI' g hk B.x_InvalidNumber (se_loc (pv 0)))) sb_nil))) fun fd D => by
    obtain ⟨ds, r, b⟩ := D.binds1 (ps := ["value", "least", "most"]) 2 0 (by simp) rfl fun T kV doc pm an cdv ct us its hu hi => match us, hu, its, hi with
      | [_, _], _, [_], _ => ⟨_, rfl, rfl⟩
    exact ⟨ds, r, b⟩)
  obtain ⟨fd20, F20⟩ := h20.fn
  have b20 := F20.binds (ps := ["one", "other"]) fun _ _ _ _ _ _ us hl => match us, hl with | [_, _], _ => rfl
  have z_joined_lot : FnF G 3 "joined_lot" f20 2 [] f_joined_lot := FnF.pure (mkF X N h20 (ok_joined_lot (k := 2) B F20 (z_check_lot.mono (by decide))) b20)
  obtain ⟨fd21, F21⟩ := h21.fn
  have b21 := F21.binds (ps := ["one", "other"]) fun _ _ _ _ _ _ us hl => match us, hl with | [_, _], _ => rfl
  have z_rest_lot : FnF G 3 "rest_lot" f21 2 [] f_rest_lot := FnF.pure (mkF X N h21 (ok_rest_lot (k := 2) B F21 (z_check_lot.mono (by decide))) b21)
  obtain ⟨fd22, F22⟩ := h22.fn
  have b22 := F22.binds (ps := ["lot"]) fun _ _ _ _ _ _ us hl => match us, hl with | [_], _ => rfl
  have z_lots_within : FnF G 3 "lots_within" f22 1 [] f_lots_within := FnF.pure (mkF X N h22 (ok_lots_within (k := 2) B F22 (z_check_lot.mono (by decide))) b22)
  obtain ⟨fd23, F23⟩ := h23.fn
  have b23 := F23.binds (ps := ["lots"]) fun _ _ _ _ _ _ us hl => match us, hl with | [_], _ => rfl
  have z_lots_on : FnF G 3 "lots_on" f23 1 [] f_lots_on := FnF.pure (mkF X N h23 (ok_lots_on (k := 2) B F23 (z_are_lots.mono (by decide))) b23)
  obtain ⟨fd24, F24⟩ := h24.fn
  have b24 := F24.binds (ps := ["one", "other"]) fun _ _ _ _ _ _ us hl => match us, hl with | [_, _], _ => rfl
  have z_is_within : FnF G 4 "is_within" f24 2 [] f_is_within := FnF.pure (mkF X N h24 (ok_is_within (k := 3) B F24 (z_rest_lot.mono (by decide))) b24)
  obtain ⟨fd25, F25⟩ := h25.fn
  have b25 := F25.binds (ps := ["lot", "value"]) fun _ _ _ _ _ _ us hl => match us, hl with | [_, _], _ => rfl
  have z_has_form : FnF G 4 "_has_form" f25 2 [] f_has_form := FnF.pure (mkF X N h25 (ok_has_form (k := 3) B F25 (z_is_integer.mono (by decide)) (z_is_lot.mono (by decide)) (z_lots_within.mono (by decide))) b25)
  obtain ⟨fd26, F26⟩ := h26.fn
  have b26 := F26.binds (ps := ["lot"]) fun _ _ _ _ _ _ us hl => match us, hl with | [_], _ => rfl
  have z_basic_gains : FnL G 4 "_basic_gains" f26 1 [] f_basic_gains := FnL.pure (mkL X N h26 (ok_basic_gains (k := 3) B F26 (z_gain.mono (by decide)) (z_joined_lot.mono (by decide)) (z_lots_within.mono (by decide)) (z_rest_lot.mono (by decide))) b26)
  obtain ⟨fd27, F27⟩ := h27.fn
  have b27 := F27.binds (ps := ["lot", "rank", "some"]) fun _ _ _ _ _ _ us hl => match us, hl with | [_, _, _], _ => rfl
  have z_step_times : FnF G 4 "step_times" f27 3 [] f_step_times := FnF.pure (mkF X N h27 (ok_step_times (k := 3) B F27 (z_lots_within.mono (by decide)) (z_rest_lot.mono (by decide))) b27)
  obtain ⟨fd28, F28⟩ := h28.fn
  have b28 := F28.binds (ps := ["lot", "value"]) fun _ _ _ _ _ _ us hl => match us, hl with | [_, _], _ => rfl
  have z_is_row : FnF G 4 "is_row" f28 2 [] f_is_row := FnF.pure (mkF X N h28 (ok_is_row (k := 3) B F28 (z_are_between.mono (by decide)) (z_check_lot.mono (by decide))) b28)
  obtain ⟨fd29, F29⟩ := h29.fn
  have b29 := F29.binds (ps := ["p", "D"]) fun _ _ _ _ _ _ us hl => match us, hl with | [_, _], _ => rfl
  have z_check_p_and_d : FnF G 4 "check_p_and_d" f29 2 [] f_check_p_and_d := FnF.pure (mkF X N h29 (ok_check_p_and_d (k := 3) B F29 (z_check_number.mono (by decide))) b29)
  obtain ⟨fd30, F30⟩ := h30.fn
  have b30 := F30.binds (ps := ["lot", "value"]) fun _ _ _ _ _ _ us hl => match us, hl with | [_, _], _ => rfl
  have z_are_vectors : FnF G 4 "are_vectors" f30 2 [] f_are_vectors := FnF.pure (mkF X N h30 (ok_are_vectors (k := 3) B F30 (z_are_between.mono (by decide)) (z_check_rank_lot.mono (by decide))) b30)
  obtain ⟨fd31, F31⟩ := h31.fn
  have b31 := F31.binds (ps := ["self", "lot", "parts"]) fun _ _ _ _ _ _ us hl => match us, hl with | [_, _, _], _ => rfl
  have K_Question : MkT G 4 "Question" 10 2 f_Question_init := mkT_mk X N A10 ec10 (ok_Question_init (k := 3) B F31 (z_are_tables.mono (by decide)) (z_check_lot.mono (by decide)) (z_lots_on.mono (by decide)) (by decide)) b31
  obtain ⟨fd32, F32⟩ := h32.fn
  have b32 := F32.binds (ps := ["lot", "value"]) fun _ _ _ _ _ _ us hl => match us, hl with | [_, _], _ => rfl
  have z_is_lot_within : FnF G 5 "is_lot_within" f32 2 [] f_is_lot_within := FnF.pure (mkF X N h32 (ok_is_lot_within (k := 4) B F32 (z_is_lot.mono (by decide)) (z_is_within.mono (by decide))) b32)
  obtain ⟨fd33, F33⟩ := h33.fn
  have b33 := F33.binds (ps := ["low", "high"]) fun _ _ _ _ _ _ us hl => match us, hl with | [_, _], _ => rfl
  have z_is_step_up : FnF G 5 "is_step_up" f33 2 [] f_is_step_up := FnF.pure (mkF X N h33 (ok_is_step_up (k := 4) B F33 (z_is_within.mono (by decide))) b33)
  obtain ⟨fd34, F34⟩ := h34.fn
  have b34 := F34.binds (ps := ["lot", "value"]) fun _ _ _ _ _ _ us hl => match us, hl with | [_, _], _ => rfl
  have z_rank_fault : FnF G 5 "rank_fault" f34 2 [] f_rank_fault := FnF.pure (mkF X N h34 (ok_rank_fault (k := 4) B F34 (z_basic_gains.mono (by decide)) (z_has_form.mono (by decide)) (z_check_rank_lot.mono (by decide))) b34)
  obtain ⟨fd35, F35⟩ := h35.fn
  have b35 := F35.binds (ps := ["table", "lots"]) fun _ _ _ _ _ _ us hl => match us, hl with | [_, _], _ => rfl
  have z_check_lots_of : FnF G 5 "check_lots_of" f35 2 [] f_check_lots_of := FnF.pure (mkF X N h35 (ok_check_lots_of (k := 4) B F35 (z_check_lot.mono (by decide)) (z_check_table.mono (by decide)) (z_is_within.mono (by decide)) (by decide)) b35)
  obtain ⟨fd36, F36⟩ := h36.fn
  have b36 := F36.binds (ps := ["lot", "value"]) fun _ _ _ _ _ _ us hl => match us, hl with | [_, _], _ => rfl
  have z_check_vectors : FnF G 5 "_check_vectors" f36 2 [] f_check_vectors := FnF.pure (mkF X N h36 (ok_check_vectors (k := 4) B F36 (z_are_vectors.mono (by decide))) b36)
  obtain ⟨fd37, F37⟩ := h37.fn
  have b37 := F37.binds (ps := ["self", "lot", "rows"]) fun _ _ _ _ _ _ us hl => match us, hl with | [_, _, _], _ => rfl
  have K_Table : MkT G 5 "Table" 9 2 f_Table_init := mkT_mk X N A9 ec9 (ok_Table_init (k := 4) B F37 (z_check_lot.mono (by decide)) (z_is_row.mono (by decide)) (by decide)) b37
  obtain ⟨fd38, F38⟩ := h38.fn
  have b38 := F38.binds (ps := ["lot", "value"]) fun _ _ _ _ _ _ us hl => match us, hl with | [_, _], _ => rfl
  have z_check_rank : FnF G 6 "check_rank" f38 2 [] f_check_rank := FnF.pure (mkF X N h38 (ok_check_rank (k := 5) B F38 (z_rank_fault.mono (by decide))) b38)
  obtain ⟨fd39, F39⟩ := h39.fn
  have b39 := F39.binds (ps := ["lot", "value"]) fun _ _ _ _ _ _ us hl => match us, hl with | [_, _], _ => rfl
  have z_is_told_degree : FnF G 6 "_is_told_degree" f39 2 [] f_is_told_degree := FnF.pure (mkF X N h39 (ok_is_told_degree (k := 5) B F39 (z_is_between.mono (by decide)) (z_is_lot_within.mono (by decide)) (z_is_step_up.mono (by decide))) b39)
  obtain ⟨fd40, F40⟩ := h40.fn
  have b40 := F40.binds (ps := ["lot", "vectors"]) fun _ _ _ _ _ _ us hl => match us, hl with | [_, _], _ => rfl
  have z_vector_rank : FnF G 6 "vector_rank" f40 2 [] f_vector_rank := FnF.pure (mkF X N h40 (ok_vector_rank (k := 5) B F40 (z_check_vectors.mono (by decide)) (z_rank_of.mono (by decide)) (z_lots_within.mono (by decide))) b40)
  obtain ⟨fd41, F41⟩ := h41.fn
  have b41 := F41.binds (ps := ["lot", "counts"]) fun _ _ _ _ _ _ us hl => match us, hl with | [_, _], _ => rfl
  have z_step_vectors : FnF G 6 "step_vectors" f41 2 [] f_step_vectors := FnF.pure (mkF X N h41 (ok_step_vectors (k := 5) B F41 (z_check_rank_lot.mono (by decide)) (z_is_between.mono (by decide)) (z_is_lot_within.mono (by decide)) (by decide)) b41)
  obtain ⟨fd42, F42⟩ := h42.fn
  have b42 := F42.binds (ps := ["lot", "one", "other"]) fun _ _ _ _ _ _ us hl => match us, hl with | [_, _, _], _ => rfl
  have z_beside : FnF G 6 "beside" f42 3 [] f_beside := FnF.pure (mkF X N h42 (ok_beside (k := 5) B F42 (z_check_vectors.mono (by decide)) (z_sources_of.mono (by decide)) (by decide)) b42)
  obtain ⟨fd43, F43⟩ := h43.fn
  have b43 := F43.binds (ps := ["lot", "rows"]) fun _ _ _ _ _ _ us hl => match us, hl with | [_, _], _ => rfl
  have z_table_of : FnF G 7 "table_of" f43 2 [] f_table_of := FnF.pure (mkF X N h43 (ok_table_of (k := 6) B F43  (by decide) K_Table) b43)
  obtain ⟨fd44, F44⟩ := h44.fn
  have b44 := F44.binds (ps := ["lot", "value"]) fun _ _ _ _ _ _ us hl => match us, hl with | [_, _], _ => rfl
  have z_is_told : FnF G 7 "is_told" f44 2 [] f_is_told := FnF.pure (mkF X N h44 (ok_is_told (k := 6) B F44 (z_is_told_degree.mono (by decide)) (z_check_lot.mono (by decide))) b44)
  obtain ⟨fd45, F45⟩ := h45.fn
  have b45 := F45.binds (ps := ["lot", "rank"]) fun _ _ _ _ _ _ us hl => match us, hl with | [_, _], _ => rfl
  have z_step_counts : FnF G 7 "step_counts" f45 2 [] f_step_counts := FnF.pure (mkF X N h45 (ok_step_counts (k := 6) B F45 (z_check_rank.mono (by decide)) (z_lots_within.mono (by decide)) (z_step_times.mono (by decide))) b45)
  obtain ⟨fd46, F46⟩ := h46.fn
  have b46 := F46.binds (ps := ["table", "lot"]) fun _ _ _ _ _ _ us hl => match us, hl with | [_, _], _ => rfl
  have z_project : FnF G 8 "project" f46 2 [] f_project := FnF.pure (mkF X N h46 (ok_project (k := 7) B F46 (z_check_lots_of.mono (by decide)) (z_parts_at.mono (by decide)) (z_table_of.mono (by decide)) (by decide)) b46)
  obtain ⟨fd47, F47⟩ := h47.fn
  have b47 := F47.binds (ps := ["lot", "value"]) fun _ _ _ _ _ _ us hl => match us, hl with | [_, _], _ => rfl
  have z_check_told : FnF G 8 "check_told" f47 2 [] f_check_told := FnF.pure (mkF X N h47 (ok_check_told (k := 7) B F47 (z_is_told.mono (by decide))) b47)
  obtain ⟨fd48, F48⟩ := h48.fn
  have b48 := F48.binds (ps := ["lot", "vectors"]) fun _ _ _ _ _ _ us hl => match us, hl with | [_, _], _ => rfl
  have z_made_table : FnF G 8 "made_table" f48 2 [] f_made_table := FnF.pure (mkF X N h48 (ok_made_table (k := 7) B F48 (z_check_vectors.mono (by decide)) (z_rank_of.mono (by decide)) (z_said_by.mono (by decide)) (z_table_of.mono (by decide)) (by decide)) b48)
  obtain ⟨fd49, F49⟩ := h49.fn
  have b49 := F49.binds (ps := ["lot", "lots", "vectors"]) fun _ _ _ _ _ _ us hl => match us, hl with | [_, _, _], _ => rfl
  have z_reaching : FnF G 9 "reaching" f49 3 [] f_reaching := FnF.pure (mkF X N h49 (ok_reaching (k := 8) B F49 (z_check_vectors.mono (by decide)) (z_are_lots.mono (by decide)) (z_check_rank_lot.mono (by decide)) (z_lots_on.mono (by decide)) (z_made_table.mono (by decide)) (z_project.mono (by decide)) (by decide) K_Question) b49)
  obtain ⟨fd50, F50⟩ := h50.fn
  have b50 := F50.binds (ps := ["lot", "told", "vectors", "p", "D"]) fun _ _ _ _ _ _ us hl => match us, hl with | [_, _, _, _, _], _ => rfl
  have z_is_reached : FnF G 9 "is_reached" f50 5 [] f_is_reached := FnF.pure (mkF X N h50 (ok_is_reached (k := 8) B F50 (z_check_vectors.mono (by decide)) (z_check_p_and_d.mono (by decide)) (z_check_rank_lot.mono (by decide)) (z_check_told.mono (by decide)) (z_vector_rank.mono (by decide))) b50)
  have ht51_2 : ∀ j n f, tbl2 j = some (n, f) → ∃ y, FnF G 9 y (G.fa j) n [] f := fun j n f e => by
    unfold tbl2 at e
    split at e
    · cases e; rw [ef0]; exact ⟨_, (z_made_table.mono (by decide))⟩
    · cases e; rw [ef1]; exact ⟨_, (z_vector_rank.mono (by decide))⟩
    · cases e
  obtain ⟨fd51, F51⟩ := h51.fn
  have b51 : Binds G.K fd51 ["turn"] [] := F51.toFun.binds (ps := ["turn"]) fun _ _ _ _ _ _ us hl => match us, hl with | [_], _ => rfl
  have z_law_right : FnD G 12 "_law_right" f51 1 f_law_right := FnD.pure (mkD X N h51 (ok_law_right (k := 9) B F51 hT L51 C_law_met (z_law_bt_turned.mono (by decide)) (z_are_vectors.mono (by decide)) (z_beside.mono (by decide)) (z_is_reached.mono (by decide)) (z_reaching.mono (by decide)) (z_step_counts.mono (by decide)) (z_step_vectors.mono (by decide)) ht51_2) b51)
  exact ⟨G, rfl, rfl, rfl, rfl, rfl, ((ok_law (k := 12) B FL hT L52 C_law_met (z_law_bt_powers.mono (by decide)) (z_law_jug.mono (by decide)) (z_law_poured.mono (by decide)) (z_law_right.mono (by decide)) (z_beside.mono (by decide)) (z_made_table.mono (by decide)) (z_reaching.mono (by decide)) (z_step_vectors.mono (by decide))).mono (by decide)).imp fun vs H Q E q => law_spec (T := T) hT.of law_ok vs H Q E (by rw [eT]; exact q)⟩
end K60

set_option Elab.async false
set_option linter.all false
set_option maxRecDepth 100000
set_option maxHeartbeats 4000000
open PySem PySem.W PyProof.Rows
set_option maxHeartbeats 0 in
theorem PySem.Challenge.cw_crestjoin_k60_errors_of_tables_made_of_b_holds : PySem.Challenge.rw_crestjoin_k60_errors_of_tables_made_of_b.Holds := by
  w_on; o_law; k_head; (case hw => w_witness2)
  k_fill
  refine EV.walk_G (l := PySem.Challenge.rw_crestjoin_k60_errors_of_tables_made_of_b) (k := 16) (cs := [(?cc51, 601), (?cc52, 608)]) rfl rfl ⟨rfl, by decide, by decide⟩ (fun w h Y => PySem.W.km_in_of Y) (fun w h Y p hp => ?T) ?F
  case T =>
    simp only [List.mem_cons, List.not_mem_nil, or_false] at hp
    rcases hp with rfl | rfl
    all_goals exact PySem.W.km_tabs_of Y _ (by k_mem)
  case F =>
    intro w mg fa h KX G hmg
    refine' K60.all_mk KX G hmg (EV.at_mk ?a0 ?l0 ?c0 ?k0) (EV.at_mk ?a1 ?l1 ?c1 ?k1) (EV.at_mk ?a2 ?l2 ?c2 ?k2) (EV.at_mk ?a3 ?l3 ?c3 ?k3) (EV.at_mk ?a4 ?l4 ?c4 ?k4) (EV.at_mk ?a5 ?l5 ?c5 ?k5) (EV.at_mk ?a6 ?l6 ?c6 ?k6) (EV.at_mk ?a7 ?l7 ?c7 ?k7) (EV.at_mk ?a8 ?l8 ?c8 ?k8) (EV.at_mk ?a9 ?l9 ?c9 ?k9) (EV.at_mk ?a10 ?l10 ?c10 ?k10) (EV.at_mk ?a11 ?l11 ?c11 ?k11) (EV.at_mk ?a12 ?l12 ?c12 ?k12) (EV.at_mk ?a13 ?l13 ?c13 ?k13) (EV.at_mk ?a14 ?l14 ?c14 ?k14) (EV.at_mk ?a15 ?l15 ?c15 ?k15) (EV.at_mk ?a16 ?l16 ?c16 ?k16) (EV.at_mk ?a17 ?l17 ?c17 ?k17) (EV.at_mk ?a18 ?l18 ?c18 ?k18) (EV.atD_mk ?a19 ?l19 ?t19 ?c19 ?k19) (EV.at_mk ?a20 ?l20 ?c20 ?k20) (EV.at_mk ?a21 ?l21 ?c21 ?k21) (EV.at_mk ?a22 ?l22 ?c22 ?k22) (EV.at_mk ?a23 ?l23 ?c23 ?k23) (EV.at_mk ?a24 ?l24 ?c24 ?k24) (EV.at_mk ?a25 ?l25 ?c25 ?k25) (EV.at_mk ?a26 ?l26 ?c26 ?k26) (EV.at_mk ?a27 ?l27 ?c27 ?k27) (EV.at_mk ?a28 ?l28 ?c28 ?k28) (EV.at_mk ?a29 ?l29 ?c29 ?k29) (EV.at_mk ?a30 ?l30 ?c30 ?k30) (EV.at_mk ?a32 ?l32 ?c32 ?k32) (EV.at_mk ?a33 ?l33 ?c33 ?k33) (EV.at_mk ?a34 ?l34 ?c34 ?k34) (EV.at_mk ?a35 ?l35 ?c35 ?k35) (EV.at_mk ?a36 ?l36 ?c36 ?k36) (EV.at_mk ?a38 ?l38 ?c38 ?k38) (EV.at_mk ?a39 ?l39 ?c39 ?k39) (EV.at_mk ?a40 ?l40 ?c40 ?k40) (EV.at_mk ?a41 ?l41 ?c41 ?k41) (EV.at_mk ?a42 ?l42 ?c42 ?k42) (EV.at_mk ?a43 ?l43 ?c43 ?k43) (EV.at_mk ?a44 ?l44 ?c44 ?k44) (EV.at_mk ?a45 ?l45 ?c45 ?k45) (EV.at_mk ?a46 ?l46 ?c46 ?k46) (EV.at_mk ?a47 ?l47 ?c47 ?k47) (EV.at_mk ?a48 ?l48 ?c48 ?k48) (EV.at_mk ?a49 ?l49 ?c49 ?k49) (EV.at_mk ?a50 ?l50 ?c50 ?k50) (EV.atC_mk ?a51 ?l51 ?c51 ?k51) (EV.atC_mk ?a52 ?l52 ?c52 ?k52) ⟨?onm9, ?opg9, ?ohd9, ?opo9, ?osa9, ?oha9, ?ohn9, ?oht9, ?ohm9, ?omk9, ?oin9, ?ofn9, ?okp9, (EV.na_cons ?oA0_9 (EV.na_cons ?oA1_9 (EV.na_cons ?oA2_9 EV.na_nil)))⟩ ⟨?onm10, ?opg10, ?ohd10, ?opo10, ?osa10, ?oha10, ?ohn10, ?oht10, ?ohm10, ?omk10, ?oin10, ?ofn10, ?okp10, (EV.na_cons ?oA0_10 (EV.na_cons ?oA1_10 (EV.na_cons ?oA2_10 (EV.na_cons ?oA3_10 EV.na_nil))))⟩ (EV.atM_mk ?l31 ?c31 ?k31) (EV.atM_mk ?l37 ?c37 ?k37) ⟨?ra9_lot, ?rg9_lot, ?rt9_lot, ⟨_, ?rr9_lot⟩⟩ (EV.atM_mk ?ql9_lot ?qc9_lot ?qk9_lot) ⟨?ra10_lot, ?rg10_lot, ?rt10_lot, ⟨_, ?rr10_lot⟩⟩ (EV.atM_mk ?ql10_lot ?qc10_lot ?qk10_lot) ⟨?ra9_rows, ?rg9_rows, ?rt9_rows, ⟨_, ?rr9_rows⟩⟩ (EV.atM_mk ?ql9_rows ?qc9_rows ?qk9_rows) ⟨?knn9, ?knb9, ?kni9, ?kns9, ?knt9, ?knl9, ?knd9⟩ ?kk9_9 ?kk10_9 ?kt9_bool ?kt10_bool ?kt9_dict ?kt10_dict ?kt9_int ?kt10_int ?kt9_tuple ?kt10_tuple (EV.at_mk ?ya_law_met ?yl_law_met ?yc_law_met ?yk_law_met) ⟨?xn1, ?xk1, ?xb1, ?xt1, ?xc1⟩ ?xe1 ⟨?xn2, ?xk2, ?xb2, ?xt2, ?xc2⟩ ?xe2 ⟨?xn3, ?xk3, ?xb3, ?xt3, ?xc3⟩ ?xe3 ⟨?xn4, ?xk4, ?xb4, ?xt4, ?xc4⟩ ?xe4 ⟨?xn5, ?xk5, ?xb5, ?xt5, ?xc5⟩ ?xe5 ⟨?xn6, ?xk6, ?xb6, ?xt6, ?xc6⟩ ?xe6 ⟨?xn7, ?xk7, ?xb7, ?xt7, ?xc7⟩ ?xl7 ?xr7 ?xs7 ?xi7 ?xy7 ?xo7 ?xg7 ?xh7 ?xd7 ?xf7 ?xq7 ⟨?xn8, ?xk8, ?xb8, ?xt8, ?xc8⟩ ?xl8 ?xr8 ?xs8 ?xi8 ?xy8 ?xo8 ?xg8 ?xh8 ?xd8 ?xf8 ?xq8 ?xx1_1 ?xx1_2 ?xx1_3 ?xx1_4 ?xx1_5 ?xx1_6 ?xx1_7 ?xx1_8 ?xx2_1 ?xx2_2 ?xx2_3 ?xx2_4 ?xx2_5 ?xx2_6 ?xx2_7 ?xx2_8 ?xx3_1 ?xx3_2 ?xx3_3 ?xx3_4 ?xx3_5 ?xx3_6 ?xx3_7 ?xx3_8 ?xx4_1 ?xx4_2 ?xx4_3 ?xx4_4 ?xx4_5 ?xx4_6 ?xx4_7 ?xx4_8 ?xx5_1 ?xx5_2 ?xx5_3 ?xx5_4 ?xx5_5 ?xx5_6 ?xx5_7 ?xx5_8 ?xx6_1 ?xx6_2 ?xx6_3 ?xx6_4 ?xx6_5 ?xx6_6 ?xx6_7 ?xx6_8 ?xx7_1 ?xx7_2 ?xx7_3 ?xx7_4 ?xx7_5 ?xx7_6 ?xx7_7 ?xx7_8 ?xx8_1 ?xx8_2 ?xx8_3 ?xx8_4 ?xx8_5 ?xx8_6 ?xx8_7 ?xx8_8 ?z_abs ?z_all ?z_bool ?z_dict ?z_enumerate ?z_int ?z_isinstance ?z_len ?z_list ?z_max ?z_min ?z_range ?z_repr ?z_set ?z_sorted ?z_sum ?z_tuple ?z_zip ?z_GREATEST ?z_LAST_LETTER ?z_MOST_K ?z_MOST_LETTERS ?z_MOST_PARTS ?z_MOST_ROWS ?z_MOST_SOURCES ?z_MOST_TOLD ?z_MOST_VECTORS ?pn51 ?ph51 ?pn52 ?ph52 ?pd51_52
    (case a0 => k_is)
    (case l0 => k_is)
    (case c0 => k_is)
    (case k0 => k_is)
    (case a1 => k_is)
    (case l1 => k_is)
    (case c1 => k_is)
    (case k1 => k_is)
    (case a2 => k_is)
    (case l2 => k_is)
    (case c2 => k_is)
    (case k2 => k_is)
    (case a3 => k_is)
    (case l3 => k_is)
    (case c3 => k_is)
    (case k3 => k_is)
    (case a4 => k_is)
    (case l4 => k_is)
    (case c4 => k_is)
    (case k4 => k_is)
    (case a5 => k_is)
    (case l5 => k_is)
    (case c5 => k_is)
    (case k5 => k_is)
    (case a6 => k_is)
    (case l6 => k_is)
    (case c6 => k_is)
    (case k6 => k_is)
    (case a7 => k_is)
    (case l7 => k_is)
    (case c7 => k_is)
    (case k7 => k_is)
    (case a8 => k_is)
    (case l8 => k_is)
    (case c8 => k_is)
    (case k8 => k_is)
    (case a9 => k_is)
    (case l9 => k_is)
    (case c9 => k_is)
    (case k9 => k_is)
    (case a10 => k_is)
    (case l10 => k_is)
    (case c10 => k_is)
    (case k10 => k_is)
    (case a11 => k_is)
    (case l11 => k_is)
    (case c11 => k_is)
    (case k11 => k_is)
    (case a12 => k_is)
    (case l12 => k_is)
    (case c12 => k_is)
    (case k12 => k_is)
    (case a13 => k_is)
    (case l13 => k_is)
    (case c13 => k_is)
    (case k13 => k_is)
    (case a14 => k_is)
    (case l14 => k_is)
    (case c14 => k_is)
    (case k14 => k_is)
    (case a15 => k_is)
    (case l15 => k_is)
    (case c15 => k_is)
    (case k15 => k_is)
    (case a16 => k_is)
    (case l16 => k_is)
    (case c16 => k_is)
    (case k16 => k_is)
    (case a17 => k_is)
    (case l17 => k_is)
    (case c17 => k_is)
    (case k17 => k_is)
    (case a18 => k_is)
    (case l18 => k_is)
    (case c18 => k_is)
    (case k18 => k_is)
    (case a19 => k_is)
    (case l19 => k_is)
    (case t19 => k_is)
    (case c19 => k_is)
    (case k19 => k_is)
    (case a20 => k_is)
    (case l20 => k_is)
    (case c20 => k_is)
    (case k20 => k_is)
    (case a21 => k_is)
    (case l21 => k_is)
    (case c21 => k_is)
    (case k21 => k_is)
    (case a22 => k_is)
    (case l22 => k_is)
    (case c22 => k_is)
    (case k22 => k_is)
    (case a23 => k_is)
    (case l23 => k_is)
    (case c23 => k_is)
    (case k23 => k_is)
    (case a24 => k_is)
    (case l24 => k_is)
    (case c24 => k_is)
    (case k24 => k_is)
    (case a25 => k_is)
    (case l25 => k_is)
    (case c25 => k_is)
    (case k25 => k_is)
    (case a26 => k_is)
    (case l26 => k_is)
    (case c26 => k_is)
    (case k26 => k_is)
    (case a27 => k_is)
    (case l27 => k_is)
    (case c27 => k_is)
    (case k27 => k_is)
    (case a28 => k_is)
    (case l28 => k_is)
    (case c28 => k_is)
    (case k28 => k_is)
    (case a29 => k_is)
    (case l29 => k_is)
    (case c29 => k_is)
    (case k29 => k_is)
    (case a30 => k_is)
    (case l30 => k_is)
    (case c30 => k_is)
    (case k30 => k_is)
    (case a32 => k_is)
    (case l32 => k_is)
    (case c32 => k_is)
    (case k32 => k_is)
    (case a33 => k_is)
    (case l33 => k_is)
    (case c33 => k_is)
    (case k33 => k_is)
    (case a34 => k_is)
    (case l34 => k_is)
    (case c34 => k_is)
    (case k34 => k_is)
    (case a35 => k_is)
    (case l35 => k_is)
    (case c35 => k_is)
    (case k35 => k_is)
    (case a36 => k_is)
    (case l36 => k_is)
    (case c36 => k_is)
    (case k36 => k_is)
    (case a38 => k_is)
    (case l38 => k_is)
    (case c38 => k_is)
    (case k38 => k_is)
    (case a39 => k_is)
    (case l39 => k_is)
    (case c39 => k_is)
    (case k39 => k_is)
    (case a40 => k_is)
    (case l40 => k_is)
    (case c40 => k_is)
    (case k40 => k_is)
    (case a41 => k_is)
    (case l41 => k_is)
    (case c41 => k_is)
    (case k41 => k_is)
    (case a42 => k_is)
    (case l42 => k_is)
    (case c42 => k_is)
    (case k42 => k_is)
    (case a43 => k_is)
    (case l43 => k_is)
    (case c43 => k_is)
    (case k43 => k_is)
    (case a44 => k_is)
    (case l44 => k_is)
    (case c44 => k_is)
    (case k44 => k_is)
    (case a45 => k_is)
    (case l45 => k_is)
    (case c45 => k_is)
    (case k45 => k_is)
    (case a46 => k_is)
    (case l46 => k_is)
    (case c46 => k_is)
    (case k46 => k_is)
    (case a47 => k_is)
    (case l47 => k_is)
    (case c47 => k_is)
    (case k47 => k_is)
    (case a48 => k_is)
    (case l48 => k_is)
    (case c48 => k_is)
    (case k48 => k_is)
    (case a49 => k_is)
    (case l49 => k_is)
    (case c49 => k_is)
    (case k49 => k_is)
    (case a50 => k_is)
    (case l50 => k_is)
    (case c50 => k_is)
    (case k50 => k_is)
    (case a51 => k_is)
    (case l51 => k_is)
    (case c51 => k_is)
    (case k51 => k_is)
    (case a52 => k_is)
    (case l52 => k_is)
    (case c52 => k_is)
    (case k52 => k_is)
    (case onm9 => k_is)
    (case opg9 => k_is)
    (case ohd9 => k_is)
    (case opo9 => k_is)
    (case osa9 => k_is)
    (case oha9 => k_is)
    (case ohn9 => k_is)
    (case oht9 => k_is)
    (case ohm9 => k_is)
    (case omk9 => k_is)
    (case oin9 => k_is)
    (case ofn9 => k_is)
    (case okp9 => k_is)
    (case oA0_9 => k_is)
    (case oA1_9 => k_is)
    (case oA2_9 => k_is)
    (case onm10 => k_is)
    (case opg10 => k_is)
    (case ohd10 => k_is)
    (case opo10 => k_is)
    (case osa10 => k_is)
    (case oha10 => k_is)
    (case ohn10 => k_is)
    (case oht10 => k_is)
    (case ohm10 => k_is)
    (case omk10 => k_is)
    (case oin10 => k_is)
    (case ofn10 => k_is)
    (case okp10 => k_is)
    (case oA0_10 => k_is)
    (case oA1_10 => k_is)
    (case oA2_10 => k_is)
    (case oA3_10 => k_is)
    (case l31 => k_is)
    (case c31 => k_is)
    (case k31 => k_is)
    (case l37 => k_is)
    (case c37 => k_is)
    (case k37 => k_is)
    (case ra9_lot => k_is)
    (case rg9_lot => k_is)
    (case rt9_lot => k_is)
    (case rr9_lot => refine' Eq.trans ?h1 ?h2; (case h1 => k_is); (case h2 => exact rfl))
    (case ql9_lot => k_is)
    (case qc9_lot => k_is)
    (case qk9_lot => k_is)
    (case ra10_lot => k_is)
    (case rg10_lot => k_is)
    (case rt10_lot => k_is)
    (case rr10_lot => refine' Eq.trans ?h1 ?h2; (case h1 => k_is); (case h2 => exact rfl))
    (case ql10_lot => k_is)
    (case qc10_lot => k_is)
    (case qk10_lot => k_is)
    (case ra9_rows => k_is)
    (case rg9_rows => k_is)
    (case rt9_rows => k_is)
    (case rr9_rows => refine' Eq.trans ?h1 ?h2; (case h1 => k_is); (case h2 => exact rfl))
    (case ql9_rows => k_is)
    (case qc9_rows => k_is)
    (case qk9_rows => k_is)
    (case knn9 => kit_is)
    (case knb9 => kit_is)
    (case kni9 => kit_is)
    (case kns9 => kit_is)
    (case knt9 => kit_is)
    (case knl9 => kit_is)
    (case knd9 => kit_is)
    (case kk9_9 => kit_is)
    (case kk10_9 => kit_is)
    (case kt9_bool => kit_is)
    (case kt10_bool => kit_is)
    (case kt9_dict => kit_is)
    (case kt10_dict => kit_is)
    (case kt9_int => kit_is)
    (case kt10_int => kit_is)
    (case kt9_tuple => kit_is)
    (case kt10_tuple => kit_is)
    (case ya_law_met => k_is)
    (case yl_law_met => k_is)
    (case yc_law_met => k_is)
    (case yk_law_met => k_is)
    (case xn1 => k_is)
    (case xk1 => k_is)
    (case xb1 => k_is)
    (case xt1 => k_is)
    (case xc1 => k_is)
    (case xe1 => kernel_rfl)
    (case xn2 => k_is)
    (case xk2 => k_is)
    (case xb2 => k_is)
    (case xt2 => k_is)
    (case xc2 => k_is)
    (case xe2 => kernel_rfl)
    (case xn3 => k_is)
    (case xk3 => k_is)
    (case xb3 => k_is)
    (case xt3 => k_is)
    (case xc3 => k_is)
    (case xe3 => kernel_rfl)
    (case xn4 => k_is)
    (case xk4 => k_is)
    (case xb4 => k_is)
    (case xt4 => k_is)
    (case xc4 => k_is)
    (case xe4 => kernel_rfl)
    (case xn5 => k_is)
    (case xk5 => k_is)
    (case xb5 => k_is)
    (case xt5 => k_is)
    (case xc5 => k_is)
    (case xe5 => kernel_rfl)
    (case xn6 => k_is)
    (case xk6 => k_is)
    (case xb6 => k_is)
    (case xt6 => k_is)
    (case xc6 => k_is)
    (case xe6 => kernel_rfl)
    (case xn7 => k_is)
    (case xk7 => k_is)
    (case xb7 => k_is)
    (case xt7 => k_is)
    (case xc7 => k_is)
    (case xl7 => k_is)
    (case xr7 => decide +kernel)
    (case xs7 => k_is)
    (case xi7 => k_is)
    (case xy7 => k_is)
    (case xo7 => k_is)
    (case xg7 => k_is)
    (case xh7 => k_is)
    (case xd7 => k_is)
    (case xf7 => k_is)
    (case xq7 => k_is)
    (case xn8 => k_is)
    (case xk8 => k_is)
    (case xb8 => k_is)
    (case xt8 => k_is)
    (case xc8 => k_is)
    (case xl8 => k_is)
    (case xr8 => decide +kernel)
    (case xs8 => k_is)
    (case xi8 => k_is)
    (case xy8 => k_is)
    (case xo8 => k_is)
    (case xg8 => k_is)
    (case xh8 => k_is)
    (case xd8 => k_is)
    (case xf8 => k_is)
    (case xq8 => k_is)
    (case xx1_1 => k_is)
    (case xx1_2 => k_is)
    (case xx1_3 => k_is)
    (case xx1_4 => k_is)
    (case xx1_5 => k_is)
    (case xx1_6 => k_is)
    (case xx1_7 => k_is)
    (case xx1_8 => k_is)
    (case xx2_1 => k_is)
    (case xx2_2 => k_is)
    (case xx2_3 => k_is)
    (case xx2_4 => k_is)
    (case xx2_5 => k_is)
    (case xx2_6 => k_is)
    (case xx2_7 => k_is)
    (case xx2_8 => k_is)
    (case xx3_1 => k_is)
    (case xx3_2 => k_is)
    (case xx3_3 => k_is)
    (case xx3_4 => k_is)
    (case xx3_5 => k_is)
    (case xx3_6 => k_is)
    (case xx3_7 => k_is)
    (case xx3_8 => k_is)
    (case xx4_1 => k_is)
    (case xx4_2 => k_is)
    (case xx4_3 => k_is)
    (case xx4_4 => k_is)
    (case xx4_5 => k_is)
    (case xx4_6 => k_is)
    (case xx4_7 => k_is)
    (case xx4_8 => k_is)
    (case xx5_1 => k_is)
    (case xx5_2 => k_is)
    (case xx5_3 => k_is)
    (case xx5_4 => k_is)
    (case xx5_5 => k_is)
    (case xx5_6 => k_is)
    (case xx5_7 => k_is)
    (case xx5_8 => k_is)
    (case xx6_1 => k_is)
    (case xx6_2 => k_is)
    (case xx6_3 => k_is)
    (case xx6_4 => k_is)
    (case xx6_5 => k_is)
    (case xx6_6 => k_is)
    (case xx6_7 => k_is)
    (case xx6_8 => k_is)
    (case xx7_1 => k_is)
    (case xx7_2 => k_is)
    (case xx7_3 => k_is)
    (case xx7_4 => k_is)
    (case xx7_5 => k_is)
    (case xx7_6 => k_is)
    (case xx7_7 => k_is)
    (case xx7_8 => k_is)
    (case xx8_1 => k_is)
    (case xx8_2 => k_is)
    (case xx8_3 => k_is)
    (case xx8_4 => k_is)
    (case xx8_5 => k_is)
    (case xx8_6 => k_is)
    (case xx8_7 => k_is)
    (case xx8_8 => k_is)
    (case z_abs => k_is)
    (case z_all => k_is)
    (case z_bool => k_is)
    (case z_dict => k_is)
    (case z_enumerate => k_is)
    (case z_int => k_is)
    (case z_isinstance => k_is)
    (case z_len => k_is)
    (case z_list => k_is)
    (case z_max => k_is)
    (case z_min => k_is)
    (case z_range => k_is)
    (case z_repr => k_is)
    (case z_set => k_is)
    (case z_sorted => k_is)
    (case z_sum => k_is)
    (case z_tuple => k_is)
    (case z_zip => k_is)
    (case z_GREATEST => k_is)
    (case z_LAST_LETTER => k_is)
    (case z_MOST_K => k_is)
    (case z_MOST_LETTERS => k_is)
    (case z_MOST_PARTS => k_is)
    (case z_MOST_ROWS => k_is)
    (case z_MOST_SOURCES => k_is)
    (case z_MOST_TOLD => k_is)
    (case z_MOST_VECTORS => k_is)
    (case pn51 => kernel_rfl)
    (case ph51 => kernel_rfl)
    (case pn52 => kernel_rfl)
    (case ph52 => kernel_rfl)
    (case pd51_52 => decide)
