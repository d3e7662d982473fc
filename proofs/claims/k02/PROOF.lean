import PyProof.Rows.All
import Wide.All
import OpenK.AllK
import Wide.FinOn
import PyProof.EqAt
import PyProof.EqKinds
import PyProof.TupleCall
import HandS.ForMost
import HandS.Exc
import HandS.ExcOwn
import HandS.CallSlots
import HandS.WordsExc
import HandS.Lambda
import HandS.TupAny
import HandS.Style
import HandS.Conv
import HandS.Wide
import HandS.TryOnly
import HandS.Zip
import KE.SortData
import PyProof.ReprRoads
import HandS.IsInst
import HandS.SortInts
import HandS.TupMul
import KE.GoesEnum
import HandS.TupSets
import HandS.TupLe
import KE.LtData
import PyProof.Rows.SumAny
import HandS.Ends
import HandS.EndBits
import HandS.ExcInit
import HandS.ExcIs
import HandS.ExcField
import KE.KExcIs
import HandS.Deep
import PyProof.Rows.SeqMore
import HandS.Gcd
import HandS.Star
import HandS.DictComp
import KE.KMathG
import HandS.Strs
import HandS.Dict
import PySem.Challenge.RW_touchrings_k02_places_seats_steps_and_pa
section
set_option Elab.async false
set_option linter.all false
set_option maxRecDepth 100000
set_option maxHeartbeats 1000000
set_option autoImplicit false
/-! ## A level of data over the hand layer: values without addresses, objects of one's own by number -/
namespace DL
open PySem PySem.Spec PyProof.Rows L2
abbrev St := L2.St

theorem nd_ixA {α : Type} {l : List α} (hN : l.Nodup) {i j : Nat} {x : α} (a : l[i]? = some x) (b : l[j]? = some x) : i = j := by
  obtain ⟨h1, e1⟩ := List.getElem?_eq_some_iff.mp a
  obtain ⟨h2, e2⟩ := List.getElem?_eq_some_iff.mp b
  exact (List.getElem_inj hN).mp (e1.trans e2.symm)
/-- a key as data -/
def kP : Key → PyData
  | .inl i => .int i
  | .inr x => .str x

mutual
/-- the value v is the data d, read in the heap G (which none will change) -/
inductive Rep (K : PySem.W.Frag) (G : Hp) : V → PyData → Prop
  | non : Rep K G .non .none
  | bl (b : Bool) : Rep K G (.bl b) (.bool b)
  | int (i : Int) : Rep K G (.int i) (.int i)
  | str (x : Str) : Rep K G (.str x) (.str x)
  | lst {a : Addr} {xs : List V} {ds : List PyData} : SqL K G a xs → Reps K G xs ds → Rep K G (.ref a) (.list ds)
  | tup {a : Addr} {xs : List V} {ds : List PyData} : G a = some (.tup xs) → Reps K G xs ds → Rep K G (.ref a) (.tuple ds)
  | dK {a : Addr} {kvs : List (Key × V)} {ds : List PyData} : G a = some (.dK kvs) → Reps K G (kvs.map (·.2)) ds → Rep K G (.ref a) (.dict ((kvs.map fun p => kP p.1).zip ds))
  | dT {a : Addr} {kvs : List (List Key × V)} {ds : List PyData} : G a = some (.dT kvs) → Reps K G (kvs.map (·.2)) ds → Rep K G (.ref a) (.dict ((.none, .none) :: (kvs.map fun p => .tuple (p.1.map kP)).zip ds))
inductive Reps (K : PySem.W.Frag) (G : Hp) : List V → List PyData → Prop
  | nil : Reps K G [] []
  | cons {v : V} {vs : List V} {d : PyData} {ds : List PyData} : Rep K G v d → Reps K G vs ds → Reps K G (v :: vs) (d :: ds)
end

section
variable {K : PySem.W.Frag} {G G' : Hp}
theorem same_sqT {a : Addr} {xs : List V} (e : Same G G') (h : SqT K G a xs) : SqT K G' a xs := by
  rcases h with (h | ⟨o, h⟩) | h
  · exact .inl (.inl (e _ _ h))
  · exact .inl (.inr ⟨o, e _ _ h⟩)
  · exact .inr h
mutual
theorem Rep.mono (e : Same G G') : ∀ {v : V} {d : PyData}, Rep K G v d → Rep K G' v d
  | _, _, .non => .non
  | _, _, .bl b => .bl b
  | _, _, .int i => .int i
  | _, _, .str x => .str x
  | _, _, .lst h r => .lst (e.seq h) (Reps.mono e r)
  | _, _, .tup h r => .tup (e _ _ h) (Reps.mono e r)
  | _, _, .dK h r => .dK (e _ _ h) (Reps.mono e r)
  | _, _, .dT h r => .dT (e _ _ h) (Reps.mono e r)
theorem Reps.mono (e : Same G G') : ∀ {v : List V} {d : List PyData}, Reps K G v d → Reps K G' v d
  | _, _, .nil => .nil
  | _, _, .cons h r => .cons (Rep.mono e h) (Reps.mono e r)
end
theorem Reps.length : ∀ {v : List V} {d : List PyData}, Reps K G v d → v.length = d.length
  | _, _, .nil => rfl
  | _, _, .cons _ r => by rw [List.length_cons, List.length_cons, Reps.length r]
theorem Reps.get : ∀ {v : List V} {d : List PyData}, Reps K G v d → ∀ {i : Nat} {x : PyData}, d[i]? = some x → ∃ u, v[i]? = some u ∧ Rep K G u x
  | _, _, .nil, i, x, h => by simp at h
  | _, _, .cons h r, 0, x, e => by simp at e; subst e; exact ⟨_, rfl, h⟩
  | _, _, .cons h r, i + 1, x, e => by
    obtain ⟨u, h1, h2⟩ := Reps.get r (i := i) (x := x) (by simpa using e)
    exact ⟨u, by simpa using h1, h2⟩
theorem Reps.getV : ∀ {v : List V} {d : List PyData}, Reps K G v d → ∀ {i : Nat} {x : V}, v[i]? = some x → ∃ u, d[i]? = some u ∧ Rep K G x u
  | _, _, .nil, i, x, h => by simp at h
  | _, _, .cons h r, 0, x, e => by simp at e; subst e; exact ⟨_, rfl, h⟩
  | _, _, .cons h r, i + 1, x, e => by
    obtain ⟨u, h1, h2⟩ := Reps.getV r (i := i) (x := x) (by simpa using e)
    exact ⟨u, by simpa using h1, h2⟩
theorem Reps.append : ∀ {v w : List V} {d e : List PyData}, Reps K G v d → Reps K G w e → Reps K G (v ++ w) (d ++ e)
  | _, _, _, _, .nil, h => h
  | _, _, _, _, .cons h r, q => .cons h (Reps.append r q)
theorem Reps.take : ∀ {v : List V} {d : List PyData} (n : Nat), Reps K G v d → Reps K G (v.take n) (d.take n)
  | _, _, 0, _ => .nil
  | _, _, _ + 1, .nil => .nil
  | _, _, n + 1, .cons h r => .cons h (Reps.take n r)
theorem Reps.drop : ∀ {v : List V} {d : List PyData} (n : Nat), Reps K G v d → Reps K G (v.drop n) (d.drop n)
  | _, _, 0, r => r
  | _, _, _ + 1, .nil => .nil
  | _, _, n + 1, .cons h r => Reps.drop n r
theorem Reps.reverse : ∀ {v : List V} {d : List PyData}, Reps K G v d → Reps K G v.reverse d.reverse
  | _, _, .nil => .nil
  | _, _, .cons h r => by
    rw [List.reverse_cons, List.reverse_cons]
    exact (Reps.reverse r).append (.cons h .nil)
end

/-! ### values and objects -/
/-- data, or one's own object by its number -/
inductive DV where
  | d (x : PyData)
  | o (k : Nat)
/-- an object of one's own, that may be changed -/
inductive OB where
  | lst (xs : List DV)
  | dk (kvs : List (Key × DV))
  | dt (kvs : List (List Key × DV))
  /-- a set of ints, its members as they came -/
  | st (xs : List Int)
  | gone
/-- the store: the slots of the names, the objects -/
structure S where
  sl : List (Option DV)
  ob : List OB
/-- an exception: its class, its fields (none: it has no dict of its own) -/
structure XD where
  cls : Addr
  fs : Option (List (Str × DV))

def RepV (K : PySem.W.Frag) (G : Hp) (as : List Addr) (v : V) : DV → Prop
  | .d x => Rep K G v x
  | .o k => ∃ a, as[k]? = some a ∧ v = .ref a
inductive RepVs (K : PySem.W.Frag) (G : Hp) (as : List Addr) : List V → List DV → Prop
  | nil : RepVs K G as [] []
  | cons {v : V} {vs : List V} {d : DV} {ds : List DV} : RepV K G as v d → RepVs K G as vs ds → RepVs K G as (v :: vs) (d :: ds)
def ObAt (K : PySem.W.Frag) (G H : Hp) (as : List Addr) (a : Addr) : OB → Prop
  | .lst xs => ∃ vs, H a = some (.lst vs) ∧ RepVs K G as vs xs
  | .dk kvs => ∃ ws : List (Key × V), H a = some (.dK ws) ∧ ws.map (·.1) = kvs.map (·.1) ∧ RepVs K G as (ws.map (·.2)) (kvs.map (·.2))
  | .dt kvs => ∃ ws : List (List Key × V), H a = some (.dT ws) ∧ ws.map (·.1) = kvs.map (·.1) ∧ RepVs K G as (ws.map (·.2)) (kvs.map (·.2))
  | .st xs => H a = some (.set (fun k => decide (k ∈ xs)) xs.length) ∧ xs.Nodup
  | .gone => True
/-- the tables of code objects that a law's lambdas need -/
class Tab0 where
  T : List (Addr × Str)
variable [Tab0]
def NoT (o : HO) : Prop := ∀ ps, o ≠ .tbl ps
/-- memory: F what is others' (kept), G what is known (kept), H all, as where one's own objects stand -/
structure Mem (K : PySem.W.Frag) (F G H : Hp) (as : List Addr) (ob : List OB) : Prop where
  gh : Same G H
  fh : Same F H
  gf : ∀ a o, F a = some o → G a = none
  nd : as.Nodup
  len : as.length = ob.length
  al : ∀ a ∈ as, ∃ o, H a = some o ∧ NoT o
  ft : ∀ a o, F a = some o → NoT o
  tb : LamX.Tabs Tab0.T H
  ofr : ∀ a ∈ as, F a = none
  own : ∀ (k : Nat) (a : Addr) (x : OB), as[k]? = some a → ob[k]? = some x → x ≠ OB.gone → G a = none
  at_ : ∀ (k : Nat) (a : Addr) (x : OB), as[k]? = some a → ob[k]? = some x → ObAt K G H as a x
structure Ok (K : PySem.W.Frag) (ρ : S) (σ : St) (F G H : Hp) (as : List Addr) : Prop where
  mem : Mem K F G H as ρ.ob
  sll : σ.length = ρ.sl.length
  sl : ∀ (i : Nat) (dv : DV), ρ.sl[i]? = some (some dv) → ∃ v, σ[i]? = some (some v) ∧ RepV K G as v dv
/-- what grows -/
structure Nxt (G : Hp) (as : List Addr) (G' : Hp) (as' : List Addr) : Prop where
  g : Same G G'
  a : ∃ r, as' = as ++ r
theorem Nxt.refl (G : Hp) (as : List Addr) : Nxt G as G as := ⟨Same.refl G, [], (List.append_nil as).symm⟩
theorem Nxt.trans {G G1 G2 : Hp} {as as1 as2 : List Addr} (x : Nxt G as G1 as1) (y : Nxt G1 as1 G2 as2) : Nxt G as G2 as2 := by
  obtain ⟨r, e⟩ := x.a
  obtain ⟨r', e'⟩ := y.a
  exact ⟨x.g.trans y.g, r ++ r', by rw [e', e, List.append_assoc]⟩
theorem Nxt.get {G G' : Hp} {as as' : List Addr} (x : Nxt G as G' as') {k : Nat} {a : Addr} (h : as[k]? = some a) : as'[k]? = some a := by
  obtain ⟨r, e⟩ := x.a
  rw [e, List.getElem?_append_left (List.getElem?_eq_some_iff.mp h).1]
  exact h
section
variable {K : PySem.W.Frag} {F G G' H : Hp} {as as' : List Addr}
theorem RepV.mono (n : Nxt G as G' as') {v : V} : ∀ {d : DV}, RepV K G as v d → RepV K G' as' v d
  | .d _, h => Rep.mono n.g h
  | .o _, ⟨a, h, e⟩ => ⟨a, n.get h, e⟩
theorem RepVs.mono (n : Nxt G as G' as') : ∀ {v : List V} {d : List DV}, RepVs K G as v d → RepVs K G' as' v d
  | _, _, .nil => .nil
  | _, _, .cons h r => .cons (RepV.mono n h) (RepVs.mono n r)
theorem RepVs.length : ∀ {v : List V} {d : List DV}, RepVs K G as v d → v.length = d.length
  | _, _, .nil => rfl
  | _, _, .cons _ r => by rw [List.length_cons, List.length_cons, RepVs.length r]
theorem RepVs.get : ∀ {v : List V} {d : List DV}, RepVs K G as v d → ∀ {i : Nat} {x : DV}, d[i]? = some x → ∃ u, v[i]? = some u ∧ RepV K G as u x
  | _, _, .nil, i, x, h => by simp at h
  | _, _, .cons h r, 0, x, e => by simp at e; subst e; exact ⟨_, rfl, h⟩
  | _, _, .cons h r, i + 1, x, e => by
    obtain ⟨u, h1, h2⟩ := RepVs.get r (i := i) (x := x) (by simpa using e)
    exact ⟨u, by simpa using h1, h2⟩
theorem RepVs.append : ∀ {v w : List V} {d e : List DV}, RepVs K G as v d → RepVs K G as w e → RepVs K G as (v ++ w) (d ++ e)
  | _, _, _, _, .nil, h => h
  | _, _, _, _, .cons h r, q => .cons h (RepVs.append r q)
theorem RepVs.of : ∀ {v : List V} {d : List PyData}, Reps K G v d → RepVs K G as v (d.map .d)
  | _, _, .nil => .nil
  | _, _, .cons h r => .cons h (RepVs.of r)
theorem RepVs.to : ∀ {v : List V} {d : List PyData}, RepVs K G as v (d.map .d) → Reps K G v d
  | _, [], h => by cases h; exact .nil
  | _, x :: r, h => by cases h with | cons a b => exact .cons a (RepVs.to b)
theorem RepVs.set {x : V} {dx : DV} (hx : RepV K G as x dx) : ∀ {v : List V} {d : List DV} (i : Nat), RepVs K G as v d → RepVs K G as (v.set i x) (d.set i dx)
  | _, _, _, .nil => .nil
  | _, _, 0, .cons _ r => .cons hx r
  | _, _, i + 1, .cons h r => .cons h (RepVs.set hx i r)
theorem RepVs.take : ∀ {v : List V} {d : List DV} (n : Nat), RepVs K G as v d → RepVs K G as (v.take n) (d.take n)
  | _, _, 0, _ => .nil
  | _, _, _ + 1, .nil => .nil
  | _, _, n + 1, .cons h r => .cons h (RepVs.take n r)
theorem RepVs.drop : ∀ {v : List V} {d : List DV} (n : Nat), RepVs K G as v d → RepVs K G as (v.drop n) (d.drop n)
  | _, _, 0, r => r
  | _, _, _ + 1, .nil => .nil
  | _, _, n + 1, .cons h r => RepVs.drop n r
theorem ObAt.mono (n : Nxt G as G' as') {a : Addr} {H H' : Hp} (hh : ∀ o, H a = some o → H' a = some o) : ∀ {x : OB}, ObAt K G H as a x → ObAt K G' H' as' a x
  | .lst _, ⟨vs, h, r⟩ => ⟨vs, hh _ h, r.mono n⟩
  | .dk _, ⟨vs, h, e, r⟩ => ⟨vs, hh _ h, e, r.mono n⟩
  | .dt _, ⟨vs, h, e, r⟩ => ⟨vs, hh _ h, e, r.mono n⟩
  | .st _, ⟨h, e⟩ => ⟨hh _ h, e⟩
  | .gone, _ => trivial
theorem Mem.fresh {ob : List OB} (m : Mem K F G H as ob) {p : Addr} (h : H p = none) : G p = none ∧ F p = none ∧ p ∉ as :=
  ⟨m.gh.free h, m.fh.free h, fun hm => by
    obtain ⟨o, e, _⟩ := m.al p hm
    rw [h] at e
    cases e⟩
/-- an object laid anew that is known from then on -/
theorem Mem.new {ob : List OB} (m : Mem K F G H as ob) {p : Addr} {o : HO} (h : H p = none) : Mem K F (upd G p o) (upd H p o) as ob := by
  obtain ⟨f1, f2, f3⟩ := m.fresh h
  have ne : ∀ b ∈ as, b ≠ p := fun b hb e => f3 (e ▸ hb)
  have g : Same G (upd G p o) := fun b x e => by
    rw [upd_ne (ne_of_none e f1)]
    exact e
  refine ⟨fun b x e => ?_, fun b x e => ?_, fun b x e => ?_, m.nd, m.len, fun b hb => ?_, m.ft, m.tb.ext fun b x e => by rw [upd_ne (ne_of_none e h)]; exact e, m.ofr, fun k b x e1 e2 e3 => ?_, fun k b x e1 e2 => ?_⟩
  · by_cases hb : b = p
    · subst hb
      rw [upd_same] at e ⊢
      exact e
    · rw [upd_ne hb] at e ⊢
      exact m.gh b x e
  · rw [upd_ne (ne_of_none e f2)]
    exact m.fh b x e
  · rw [upd_ne (ne_of_none e f2)]
    exact m.gf b x e
  · rw [upd_ne (ne b hb)]
    exact m.al b hb
  · rw [upd_ne (ne b (List.mem_of_getElem? e1))]
    exact m.own k b x e1 e2 e3
  · exact (m.at_ k b x e1 e2).mono ⟨g, [], (List.append_nil as).symm⟩ fun u q => by
      rw [upd_ne (ne b (List.mem_of_getElem? e1))]
      exact q
theorem same_new {G : Hp} {p : Addr} {o : HO} (h : G p = none) : Same G (upd G p o) := fun b x e => by
  rw [upd_ne (ne_of_none e h)]
  exact e
theorem Mem.nxt {ob : List OB} (m : Mem K F G H as ob) {p : Addr} {o : HO} (h : H p = none) : Nxt G as (upd G p o) as := ⟨same_new (m.fresh h).1, [], (List.append_nil as).symm⟩
/-- an object laid anew that is one's own -/
theorem Mem.mine {ob : List OB} (m : Mem K F G H as ob) {p : Addr} {o : HO} {x : OB} (h : H p = none) (hx : ObAt K G (upd H p o) (as ++ [p]) p x) (hno : NoT o := by intro _ h; cases h) : Mem K F G (upd H p o) (as ++ [p]) (ob ++ [x]) := by
  obtain ⟨f1, f2, f3⟩ := m.fresh h
  have ne : ∀ b ∈ as, b ≠ p := fun b hb e => f3 (e ▸ hb)
  have spl : ∀ {k b}, (as ++ [p])[k]? = some b → (as[k]? = some b ∧ k < as.length) ∨ (k = as.length ∧ b = p) := fun {k b} e => by
    by_cases hk : k < as.length
    · rw [List.getElem?_append_left hk] at e
      exact .inl ⟨e, hk⟩
    · rw [List.getElem?_append_right (by omega)] at e
      have : k - as.length = 0 := by
        have := (List.getElem?_eq_some_iff.mp e).1
        simp at this
        omega
      rw [this] at e
      simp at e
      exact .inr ⟨by omega, e.symm⟩
  refine ⟨fun b x e => ?_, fun b x e => ?_, m.gf, ?_, by rw [List.length_append, List.length_append, m.len]; rfl, fun b hb => ?_, m.ft, m.tb.ext fun b x e => by rw [upd_ne (ne_of_none e h)]; exact e, fun b hb => ?_, fun k b y e1 e2 e3 => ?_, fun k b y e1 e2 => ?_⟩
  · rw [upd_ne (ne_of_none e f1)]
    exact m.gh b x e
  · rw [upd_ne (ne_of_none e f2)]
    exact m.fh b x e
  · rw [List.nodup_append]
    exact ⟨m.nd, by simp, fun a ha b hb => by
      have : b = p := by simpa using hb
      subst this
      exact ne a ha⟩
  · by_cases hp : b = p
    · subst hp
      exact ⟨o, upd_same, hno⟩
    · rw [upd_ne hp]
      rcases List.mem_append.mp hb with hb | hb
      · exact m.al b hb
      · exact absurd (by simpa using hb) hp
  · rcases List.mem_append.mp hb with hb | hb
    · exact m.ofr b hb
    · have : b = p := by simpa using hb
      rw [this]
      exact f2
  · rcases spl e1 with ⟨e, hk⟩ | ⟨_, e⟩
    · rw [List.getElem?_append_left (by rw [← m.len]; exact hk)] at e2
      exact m.own k b y e e2 e3
    · rw [e]
      exact f1
  · rcases spl e1 with ⟨e, hk⟩ | ⟨ek, e⟩
    · rw [List.getElem?_append_left (by rw [← m.len]; exact hk)] at e2
      exact (m.at_ k b y e e2).mono ⟨Same.refl G, [p], rfl⟩ fun u q => by
        rw [upd_ne (ne b (List.mem_of_getElem? e))]
        exact q
    · subst e
      rw [List.getElem?_append_right (by rw [← m.len]; omega)] at e2
      have : k - ob.length = 0 := by rw [← m.len]; omega
      rw [this] at e2
      have e2 : some x = some y := e2
      cases e2
      exact hx
theorem tabs_wr {K : PySem.W.Frag} {G H : Hp} {as : List Addr} {T : List (Addr × Str)} {a : Addr} {o : HO} {x : OB} (t : LamX.Tabs T H) (hx : ObAt K G H as a x) (hg : x ≠ OB.gone) : LamX.Tabs T (upd H a o) := fun p hp => by
  obtain ⟨ps, h1, h2, h3⟩ := t p hp
  have ne : ∀ {b : Addr} {u : HO}, H b = some u → (∀ vs, u ≠ .lst vs) → (∀ ws, u ≠ .dK ws) → (∀ ws, u ≠ .dT ws) → (∀ S n, u ≠ .set S n) → b ≠ a := fun {b u} e n1 n2 n3 n4 z => by
    subst z
    match x, hx, hg with
    | .lst _, ⟨vs, h, _⟩, _ => rw [e] at h; exact n1 vs (Option.some.inj h)
    | .dk _, ⟨vs, h, _⟩, _ => rw [e] at h; exact n2 vs (Option.some.inj h)
    | .dt _, ⟨vs, h, _⟩, _ => rw [e] at h; exact n3 vs (Option.some.inj h)
    | .st _, ⟨h, _⟩, _ => rw [e] at h; exact n4 _ _ (Option.some.inj h)
    | .gone, _, hg => exact hg rfl
  refine ⟨ps, ?_, h2, fun pos cv hc => ?_⟩
  · rw [upd_ne (ne h1 (fun _ z => nomatch z) (fun _ z => nomatch z) (fun _ z => nomatch z) (fun _ _ z => nomatch z))]
    exact h1
  · obtain ⟨c, e1, e2⟩ := h3 pos cv hc
    refine ⟨c, e1, ?_⟩
    have no : ∀ u : HO, (∀ q, HO.ext q ≠ u) → LamX.CodeO c p.2 ≠ u := fun u n z => n _ z
    rw [upd_ne (ne e2 (fun _ => no _ fun _ z => nomatch z) (fun _ => no _ fun _ z => nomatch z) (fun _ => no _ fun _ z => nomatch z) (fun _ _ => no _ fun _ z => nomatch z))]
    exact e2
/-- one's own object is changed -/
theorem Mem.wr {ob : List OB} (m : Mem K F G H as ob) {k : Nat} {a : Addr} {o : HO} {x y : OB} (ha : as[k]? = some a) (hk : ob[k]? = some x) (hg : x ≠ OB.gone) (hx : ObAt K G (upd H a o) as a y) (hno : NoT o := by intro _ h; cases h) : Mem K F G (upd H a o) as (ob.set k y) := by
  have ga := m.own k a x ha hk hg
  have fa := m.ofr a (List.mem_of_getElem? ha)
  have dist : ∀ {j b}, as[j]? = some b → j ≠ k → b ≠ a := fun {j b} e hj e' => by
    subst e'
    exact hj (nd_ixA m.nd e ha)
  refine ⟨fun b x e => ?_, fun b x e => ?_, m.gf, m.nd, by rw [List.length_set]; exact m.len, fun b hb => ?_, m.ft, ?_, m.ofr, fun j b z e1 e2 e3 => ?_, fun j b z e1 e2 => ?_⟩
  · rw [upd_ne (ne_of_none e ga)]
    exact m.gh b x e
  · rw [upd_ne (ne_of_none e fa)]
    exact m.fh b x e
  · by_cases hb' : b = a
    · subst hb'
      exact ⟨o, upd_same, hno⟩
    · rw [upd_ne hb']
      exact m.al b hb
  · exact tabs_wr m.tb (m.at_ k a x ha hk) hg
  · by_cases hj : j = k
    · subst hj
      rw [ha] at e1
      cases e1
      exact ga
    · rw [List.getElem?_set_ne (Ne.symm hj)] at e2
      exact m.own j b z e1 e2 e3
  · by_cases hj : j = k
    · subst hj
      rw [ha] at e1
      cases e1
      rw [List.getElem?_set_self (List.getElem?_eq_some_iff.mp hk).1] at e2
      cases e2
      exact hx
    · rw [List.getElem?_set_ne (Ne.symm hj)] at e2
      exact (m.at_ j b z e1 e2).mono (Nxt.refl _ _) fun u q => by
        rw [upd_ne (dist e1 hj)]
        exact q
/-- one's own object is known from now on -/
theorem Mem.fz {ob : List OB} (m : Mem K F G H as ob) {k : Nat} {a : Addr} {o : HO} (ha : as[k]? = some a) (ho : H a = some o) (hga : G a = none) : Mem K F (upd G a o) H as (ob.set k .gone) := by
  have fa := m.ofr a (List.mem_of_getElem? ha)
  have g : Same G (upd G a o) := same_new hga
  have dist : ∀ {j b}, as[j]? = some b → j ≠ k → b ≠ a := fun {j b} e hj e' => by
    subst e'
    exact hj (nd_ixA m.nd e ha)
  refine ⟨fun b x e => ?_, m.fh, fun b x e => ?_, m.nd, by rw [List.length_set]; exact m.len, m.al, m.ft, m.tb, m.ofr, fun j b z e1 e2 e3 => ?_, fun j b z e1 e2 => ?_⟩
  · by_cases hb : b = a
    · subst hb
      rw [upd_same] at e
      cases e
      exact ho
    · rw [upd_ne hb] at e
      exact m.gh b x e
  · have : b ≠ a := fun e' => by
      rw [e', fa] at e
      cases e
    rw [upd_ne this]
    exact m.gf b x e
  · by_cases hj : j = k
    · subst hj
      have hl : j < ob.length := by
        have := (List.getElem?_eq_some_iff.mp ha).1
        rw [m.len] at this
        exact this
      rw [List.getElem?_set_self hl] at e2
      cases e2
      exact absurd rfl e3
    · rw [List.getElem?_set_ne (Ne.symm hj)] at e2
      rw [upd_ne (dist e1 hj)]
      exact m.own j b z e1 e2 e3
  · by_cases hj : j = k
    · subst hj
      have hl : j < ob.length := by
        have := (List.getElem?_eq_some_iff.mp ha).1
        rw [m.len] at this
        exact this
      rw [List.getElem?_set_self hl] at e2
      cases e2
      trivial
    · rw [List.getElem?_set_ne (Ne.symm hj)] at e2
      exact (m.at_ j b z e1 e2).mono ⟨g, [], (List.append_nil as).symm⟩ fun u q => q
end
end DL
end

section
set_option Elab.async false
set_option linter.all false
set_option maxRecDepth 100000
set_option maxHeartbeats 1000000
set_option autoImplicit false
namespace DL
variable [Tab0]
open PySem PySem.Spec PyProof.Rows L2

abbrev QD := DV → S → Prop
abbrev QX := XD → S → Prop
abbrev WE := S → QD → QX → Prop
abbrev WT := S → (Bool → S → Prop) → QX → Prop
abbrev WA := S → (List DV → S → Prop) → QX → Prop
structure DEnds where
  nx : S → Prop
  rt : QD
  bk : S → Prop
  ct : S → Prop
  xr : QX
abbrev WS := DEnds → S → Prop

def XRep (K : PySem.W.Frag) (G H : Hp) (as : List Addr) (d : Option Addr) : Option (List (Str × DV)) → Prop
  | none => d = none
  | some l => ∃ (dd : Addr) (ws : List (Str × V)), d = some dd ∧ H dd = some (.xd ws) ∧ ws.map (·.1) = l.map (·.1) ∧ RepVs K G as (ws.map (·.2)) (l.map (·.2))
def AccE (K : PySem.W.Frag) (F G : Hp) (as : List Addr) (σ : St) (W : WX) (X : QX) : Prop :=
  ∀ (xd : XD) (ρ' : S) (d : Option Addr) (G' H' : Hp) (as' : List Addr), X xd ρ' → Ok K ρ' σ F G' H' as' → Nxt G as G' as' → XRep K G' H' as' d xd.fs → W (.ref xd.cls) d σ H'
def AccS (K : PySem.W.Frag) (F G : Hp) (as : List Addr) (W : WX) (X : QX) : Prop :=
  ∀ (xd : XD) (ρ' : S) (σ' : St) (d : Option Addr) (G' H' : Hp) (as' : List Addr), X xd ρ' → Ok K ρ' σ' F G' H' as' → Nxt G as G' as' → XRep K G' H' as' d xd.fs → W (.ref xd.cls) d σ' H'
/-- what is wished behind a value -/
def Kv (K : PySem.W.Frag) (F G : Hp) (as : List Addr) (σ : St) (Q : QD) (C : VK) : Prop :=
  ∀ (dv : DV) (ρ' : S) (v : V) (G' H' : Hp) (as' : List Addr), Q dv ρ' → Ok K ρ' σ F G' H' as' → Nxt G as G' as' → RepV K G' as' v dv → C v H'
def DE (K : PySem.W.Frag) (t : WX → TE) (ρ : S) (Q : QD) (X : QX) : Prop :=
  ∀ (W : WX) (σ : St) (F G H : Hp) (as : List Addr), Ok K ρ σ F G H as → AccE K F G as σ W X → ∀ C : VK, Kv K F G as σ Q C → t W σ H C
def DT (K : PySem.W.Frag) (t : WX → TT) (ρ : S) (Q : Bool → S → Prop) (X : QX) : Prop :=
  ∀ (W : WX) (σ : St) (F G H : Hp) (as : List Addr), Ok K ρ σ F G H as → AccE K F G as σ W X → ∀ C : Bool → Hp → Prop,
    (∀ (b : Bool) (ρ' : S) (G' H' : Hp) (as' : List Addr), Q b ρ' → Ok K ρ' σ F G' H' as' → Nxt G as G' as' → C b H') → t W σ H C
def DA (K : PySem.W.Frag) (t : WX → TA) (ρ : S) (Q : List DV → S → Prop) (X : QX) : Prop :=
  ∀ (W : WX) (σ : St) (F G H : Hp) (as : List Addr), Ok K ρ σ F G H as → AccE K F G as σ W X → ∀ C : List V → Hp → Prop,
    (∀ (dvs : List DV) (ρ' : S) (vs : List V) (G' H' : Hp) (as' : List Addr), Q dvs ρ' → Ok K ρ' σ F G' H' as' → Nxt G as G' as' → RepVs K G' as' vs dvs → C vs H') → t W σ H C
structure LiftE (K : PySem.W.Frag) (F G : Hp) (as : List Addr) (E : DEnds) (D : Ends) : Prop where
  nx : ∀ (ρ' : S) (σ' : St) (G' H' : Hp) (as' : List Addr), E.nx ρ' → Ok K ρ' σ' F G' H' as' → Nxt G as G' as' → D.nx σ' H'
  rt : ∀ (dv : DV) (ρ' : S) (σ' : St) (v : V) (G' H' : Hp) (as' : List Addr), E.rt dv ρ' → Ok K ρ' σ' F G' H' as' → Nxt G as G' as' → RepV K G' as' v dv → D.rt v H'
  bk : ∀ (ρ' : S) (σ' : St) (G' H' : Hp) (as' : List Addr), E.bk ρ' → Ok K ρ' σ' F G' H' as' → Nxt G as G' as' → D.bk σ' H'
  ct : ∀ (ρ' : S) (σ' : St) (G' H' : Hp) (as' : List Addr), E.ct ρ' → Ok K ρ' σ' F G' H' as' → Nxt G as G' as' → D.ct σ' H'
def DS (K : PySem.W.Frag) (t : WX → TS) (ρ : S) (E : DEnds) : Prop :=
  ∀ (W : WX) (σ : St) (F G H : Hp) (as : List Addr), Ok K ρ σ F G H as → AccS K F G as W E.xr → ∀ D : Ends, LiftE K F G as E D → t W D σ H

section
variable {K : PySem.W.Frag} {F G G' : Hp} {as as' : List Addr} {σ : St} {W : WX} {X : QX}
theorem AccE.next (n : Nxt G as G' as') (h : AccE K F G as σ W X) : AccE K F G' as' σ W X := fun xd ρ' d G2 H2 as2 q o m r => h xd ρ' d G2 H2 as2 q o (n.trans m) r
theorem AccS.next (n : Nxt G as G' as') (h : AccS K F G as W X) : AccS K F G' as' W X := fun xd ρ' σ' d G2 H2 as2 q o m r => h xd ρ' σ' d G2 H2 as2 q o (n.trans m) r
theorem AccS.at (h : AccS K F G as W X) (σ : St) : AccE K F G as σ W X := fun xd ρ' d G2 H2 as2 q o m r => h xd ρ' σ d G2 H2 as2 q o m r
theorem Kv.next {Q : QD} {C : VK} (n : Nxt G as G' as') (h : Kv K F G as σ Q C) : Kv K F G' as' σ Q C := fun dv ρ' v G2 H2 as2 q o m r => h dv ρ' v G2 H2 as2 q o (n.trans m) r
theorem LiftE.next {E : DEnds} {D : Ends} (n : Nxt G as G' as') (h : LiftE K F G as E D) : LiftE K F G' as' E D :=
  ⟨fun ρ' σ' G2 H2 as2 q o m => h.nx ρ' σ' G2 H2 as2 q o (n.trans m), fun dv ρ' σ' v G2 H2 as2 q o m r => h.rt dv ρ' σ' v G2 H2 as2 q o (n.trans m) r,
   fun ρ' σ' G2 H2 as2 q o m => h.bk ρ' σ' G2 H2 as2 q o (n.trans m), fun ρ' σ' G2 H2 as2 q o m => h.ct ρ' σ' G2 H2 as2 q o (n.trans m)⟩
end

/-! ### the contexts in which a piece of text may run -/
structure Sta where
  P : Program
  w : World
  K : PySem.W.Frag
  mg : Str → Option Value
  base : Heap
  N : List Str
  sc : Scope
  k : Nat
  top : Bool
structure Good (T : Sta) (X : Cx) : Prop where
  P : X.prog = T.P
  w : X.w = T.w
  K : X.K = T.K
  mg : X.mg = T.mg
  base : X.base = T.base
  N : X.N = T.N
  sc : X.env.scope = T.sc
  calm : X.calm = true
  room : Room T.k X.A
  nd : T.N.Nodup
  fn : T.top = true → ∀ x, X.fn x = true
  po : PassesOwn (model X.prog X.w) X.A X.env X.xe
  gds : X.A.guards = some []

def PD (T : Sta) (e : Expr) (w : WE) : Prop := ∃ t : WX → TE, (∀ W X, Good T X → Takes X W → PE X e (t W)) ∧ ∀ ρ Q Xq, w ρ Q Xq → DE T.K t ρ Q Xq
def PDT (T : Sta) (e : Expr) (w : WT) : Prop := ∃ t : WX → TT, (∀ W X, Good T X → Takes X W → PT X e (t W)) ∧ ∀ ρ Q Xq, w ρ Q Xq → DT T.K t ρ Q Xq
def PDW (T : Sta) (e : Expr) (w : WT) : Prop := ∃ t : WX → TT, (∀ W X, Good T X → Takes X W → PW X e (t W)) ∧ ∀ ρ Q Xq, w ρ Q Xq → DT T.K t ρ Q Xq
def PDA (T : Sta) (es : List Expr) (w : WA) : Prop := ∃ t : WX → TA, (∀ W X, Good T X → Takes X W → PA X es (t W)) ∧ ∀ ρ Q Xq, w ρ Q Xq → DA T.K t ρ Q Xq
def PDS (T : Sta) (st : Stmt) (w : WS) : Prop := ∃ t : WX → TS, (∀ W X, Good T X → Takes X W → PS X st (t W)) ∧ ∀ ρ E, w E ρ → DS T.K t ρ E
def PDSs (T : Sta) (st : List Stmt) (w : WS) : Prop := ∃ t : WX → TS, (∀ W X, Good T X → Takes X W → PSs X st (t W)) ∧ ∀ ρ E, w E ρ → DS T.K t ρ E

def slot : List (Option DV) → Nat → Option DV
  | [], _ => none
  | x :: _, 0 => x
  | _ :: r, n + 1 => slot r n
theorem slot_get : ∀ {l : List (Option DV)} {i : Nat} {x : DV}, slot l i = some x → l[i]? = some (some x)
  | [], _, _, h => by cases h
  | y :: _, 0, x, h => by
    have h : y = some x := h
    rw [h]
    rfl
  | _ :: r, i + 1, x, h => by
    rw [List.getElem?_cons_succ]
    exact slot_get (l := r) h

section
variable {T : Sta} {pos : Pos} {a b c e : Expr} {es : List Expr} {wa wb wc we : WE} {w : WA} {wt wu : WT} {K : PySem.W.Frag}

/-! ### names, constants -/
def wVar (i : Nat) : WE := fun ρ Q _ => match slot ρ.sl i with
  | some dv => Q dv ρ
  | none => False
theorem de_var {i : Nat} {ρ : S} {Q : QD} {X : QX} (h : wVar i ρ Q X) : DE K (fun _ => tVar i) ρ Q X := by
  intro W σ F G H as ok _ C k
  unfold wVar at h
  cases hs : slot ρ.sl i with
  | none =>
    rw [hs] at h
    exact h.elim
  | some dv =>
    rw [hs] at h
    obtain ⟨v, e, r⟩ := ok.sl i dv (slot_get hs)
    exact ⟨v, e, k dv ρ v G H as h ok (Nxt.refl _ _) r⟩
theorem pd_var {x : Str} (i : Nat) (hN : T.N[i]? = some x := by rfl) (hv : Vis T.sc x := by first | exact Or.inl rfl | exact Or.inr (Or.inl rfl) | exact Or.inr (Or.inr rfl)) (hd : (x == ("__debug__" : Str)) = false := by decide)
    (hcd : (x == ("__classdict__" : Str)) = false := by decide) : PD T (.Name x pos) (wVar i) :=
  ⟨fun _ => tVar i, fun W X g _ => pe_var (by rw [g.N]; exact hN) (by rw [g.sc]; exact hv) hd hcd, fun _ _ _ h => de_var h⟩
/-- a value without an address -/
def scV : PyData → V
  | .none => .non
  | .bool b => .bl b
  | .int i => .int i
  | .str x => .str x
  | _ => .non
def isSc : PyData → Bool
  | .none | .bool _ | .int _ | .str _ => true
  | _ => false
theorem rep_sc {G : Hp} : ∀ {x : PyData}, isSc x = true → Rep K G (scV x) x
  | .none, _ => .non
  | .bool b, _ => .bl b
  | .int i, _ => .int i
  | .str x, _ => .str x
def wC (x : PyData) : WE := fun ρ Q _ => Q (.d x) ρ
theorem de_c {x : PyData} {ρ : S} {Q : QD} {X : QX} (hx : isSc x = true) (h : wC x ρ Q X) : DE K (fun _ => tC (scV x)) ρ Q X :=
  fun W σ F G H as ok _ C k => k (.d x) ρ _ G H as h ok (Nxt.refl _ _) (rep_sc hx)
theorem pd_int {i j} : PD T (.Constant (.int i) j pos) (wC (.int i)) := ⟨fun _ => tC (.int i), fun _ _ _ _ => pe_int, fun _ _ _ h => de_c (x := .int i) rfl h⟩
theorem pd_bl {i j} : PD T (.Constant (.bool i) j pos) (wC (.bool i)) := ⟨fun _ => tC (.bl i), fun _ _ _ _ => pe_bl, fun _ _ _ h => de_c (x := .bool i) rfl h⟩
theorem pd_non {j} : PD T (.Constant .none j pos) (wC .none) := ⟨fun _ => tC .non, fun _ _ _ _ => pe_non, fun _ _ _ h => de_c (x := .none) rfl h⟩
theorem pd_str {i j} : PD T (.Constant (.str i) j pos) (wC (.str i)) := ⟨fun _ => tC (.str i), fun _ _ _ _ => pe_str, fun _ _ _ h => de_c (x := .str i) rfl h⟩
theorem pd_globI {x : Str} {i : Int} (hg : T.sc.names.lookup x = some .globalImplicit) (hm : ∃ t, T.mg x = some (.int i t)) (hd : (x == ("__debug__" : Str)) = false := by decide) : PD T (.Name x pos) (wC (.int i)) := by
  obtain ⟨t, hm⟩ := hm
  exact ⟨fun _ => tC (.int i), fun _ X g _ => pe_glob (by show X.env.scope.names.lookup x = _; rw [g.sc]; exact hg) (by rw [g.mg]; exact hm) ⟨t, rfl⟩ hd, fun _ _ _ h => de_c (x := .int i) rfl h⟩

/-! ### operators by values -/
/-- the reading r of an operation, said of data: R -/
def OpD (K : PySem.W.Frag) (r : R2) (R : DV → DV → S → QD → Prop) : Prop :=
  ∀ (x y : DV) (ρ : S) (Q : QD), R x y ρ Q → ∀ (σ : St) (F G H : Hp) (as : List Addr) (v u : V), Ok K ρ σ F G H as → RepV K G as v x → RepV K G as u y → ∀ C : VK, Kv K F G as σ Q C → r v u H C
def UnD (K : PySem.W.Frag) (r : V → Hp → VK → Prop) (R : DV → S → QD → Prop) : Prop :=
  ∀ (x : DV) (ρ : S) (Q : QD), R x ρ Q → ∀ (σ : St) (F G H : Hp) (as : List Addr) (v : V), Ok K ρ σ F G H as → RepV K G as v x → ∀ C : VK, Kv K F G as σ Q C → r v H C
def CaD (K : PySem.W.Frag) (r : List V → Hp → VK → Prop) (R : List DV → S → QD → Prop) : Prop :=
  ∀ (x : List DV) (ρ : S) (Q : QD), R x ρ Q → ∀ (σ : St) (F G H : Hp) (as : List Addr) (v : List V), Ok K ρ σ F G H as → RepVs K G as v x → ∀ C : VK, Kv K F G as σ Q C → r v H C
def wOp (R : DV → DV → S → QD → Prop) (wa wb : WE) : WE := fun ρ Q X => wa ρ (fun x ρ1 => wb ρ1 (fun y ρ2 => R x y ρ2 Q) X) X
def wUn (R : DV → S → QD → Prop) (wa : WE) : WE := fun ρ Q X => wa ρ (fun x ρ1 => R x ρ1 Q) X
def wCa (R : List DV → S → QD → Prop) (w : WA) : WE := fun ρ Q X => w ρ (fun x ρ1 => R x ρ1 Q) X
theorem de_op {r : R2} {R : DV → DV → S → QD → Prop} {ta tb : WX → TE} (hr : OpD K r R) (ha : ∀ ρ Q X, wa ρ Q X → DE K ta ρ Q X) (hb : ∀ ρ Q X, wb ρ Q X → DE K tb ρ Q X) {ρ : S} {Q : QD} {X : QX} (h : wOp R wa wb ρ Q X) :
    DE K (fun W => tOp r (ta W) (tb W)) ρ Q X := by
  intro W σ F G H as ok acc C k
  refine ha _ _ _ h W σ F G H as ok acc _ fun x ρ1 v G1 H1 as1 h1 ok1 n1 r1 => ?_
  refine hb _ _ _ h1 W σ F G1 H1 as1 ok1 (acc.next n1) _ fun y ρ2 u G2 H2 as2 h2 ok2 n2 r2 => ?_
  exact hr x y ρ2 Q h2 σ F G2 H2 as2 v u ok2 (r1.mono n2) r2 C (k.next (n1.trans n2))
theorem de_un {r : V → Hp → VK → Prop} {R : DV → S → QD → Prop} {ta : WX → TE} (hr : UnD K r R) (ha : ∀ ρ Q X, wa ρ Q X → DE K ta ρ Q X) {ρ : S} {Q : QD} {X : QX} (h : wUn R wa ρ Q X) :
    DE K (fun W => tUn r (ta W)) ρ Q X := by
  intro W σ F G H as ok acc C k
  refine ha _ _ _ h W σ F G H as ok acc _ fun x ρ1 v G1 H1 as1 h1 ok1 n1 r1 => ?_
  exact hr x ρ1 Q h1 σ F G1 H1 as1 v ok1 r1 C (k.next n1)
theorem de_ca {r : List V → Hp → VK → Prop} {R : List DV → S → QD → Prop} {ta : WX → TA} (hr : CaD K r R) (ha : ∀ ρ Q X, w ρ Q X → DA K ta ρ Q X) {ρ : S} {Q : QD} {X : QX} (h : wCa R w ρ Q X) :
    DE K (fun W => tCB r (ta W)) ρ Q X := by
  intro W σ F G H as ok acc C k
  refine ha _ _ _ h W σ F G H as ok acc _ fun x ρ1 v G1 H1 as1 h1 ok1 n1 r1 => ?_
  exact hr x ρ1 Q h1 σ F G1 H1 as1 v ok1 r1 C (k.next n1)
theorem pd_op {op : Operator} {r : R2} {R : DV → DV → S → QD → Prop} (ho : ∀ X, X.K = T.K → X.calm = true → X.A.units + 64 < cLine → OpR X (binaryOp op) r) (hr : OpD T.K r R) (ha : PD T a wa) (hb : PD T b wb) : PD T (.BinOp a op b pos) (wOp R wa wb) := by
  obtain ⟨ta, ha, da⟩ := ha
  obtain ⟨tb, hb, db⟩ := hb
  exact ⟨fun W => tOp r (ta W) (tb W), fun W X g tk => pe_op (ho X g.K g.calm g.room.units) (ha W X g tk) (hb W X g tk), fun ρ Q X h => de_op hr da db h⟩
theorem pd_un {op : UnaryOp} {r : V → Hp → VK → Prop} {R : DV → S → QD → Prop} (ho : ∀ X, UnR X (unaryOp op) r) (hr : UnD T.K r R) (ha : PD T a wa) : PD T (.UnaryOp op a pos) (wUn R wa) := by
  obtain ⟨ta, ha, da⟩ := ha
  exact ⟨fun W => tUn r (ta W), fun W X g tk => pe_un (ho X) (ha W X g tk), fun ρ Q X h => de_un hr da h⟩
theorem pd_cmp {op : CmpOp} {r : R2} {R : DV → DV → S → QD → Prop} (ho : ∀ X, X.K = T.K → X.calm = true → X.A.units + 64 < cLine → OpR X (compareOp op) r) (hr : OpD T.K r R) (ha : PD T a wa) (hb : PD T b wb)
    (hm : behindInMarks op b = false := by first | exact nomark _ | rfl) : PD T (.Compare a [op] [b] pos) (wOp R wa wb) := by
  obtain ⟨ta, ha, da⟩ := ha
  obtain ⟨tb, hb, db⟩ := hb
  exact ⟨fun W => tOp r (ta W) (tb W), fun W X g tk => pe_cmpR (ho X g.K g.calm g.room.units) (ha W X g tk) (hb W X g tk) hm, fun ρ Q X h => de_op hr da db h⟩

/-! ### ints -/
def dII (C : Int → Int → Prop) (g : Int → Int → PyData) : DV → DV → S → QD → Prop := fun x y ρ Q => match x, y with
  | .d (.int i), .d (.int j) => C i j ∧ Q (.d (g i j)) ρ
  | _, _ => False
def dII0 (g : Int → Int → PyData) : DV → DV → S → QD → Prop := fun x y ρ Q => match x, y with
  | .d (.int i), .d (.int j) => Q (.d (g i j)) ρ
  | _, _ => False
theorem repI {G : Hp} {as : List Addr} {v : V} {i : Int} (r : RepV K G as v (.d (.int i))) : v = .int i := by
  have r : Rep K G v (.int i) := r
  cases r
  rfl
theorem repB {G : Hp} {as : List Addr} {v : V} {i : Bool} (r : RepV K G as v (.d (.bool i))) : v = .bl i := by
  have r : Rep K G v (.bool i) := r
  cases r
  rfl
theorem opd_I {C : Int → Int → Prop} {g : Int → Int → PyData} (hg : ∀ i j, isSc (g i j) = true) : OpD K (rI C fun i j => scV (g i j)) (dII C g) := by
  intro x y ρ Q h σ F G H as v u ok rx ry c k
  match x, y, h, rx, ry with
  | .d (.int i), .d (.int j), h, rx, ry =>
    obtain ⟨hc, h⟩ := h
    refine ⟨i, j, repI rx, repI ry, hc, k (.d (g i j)) ρ _ G H as h ok (Nxt.refl _ _) (rep_sc (hg i j))⟩
theorem opd_I0 {g : Int → Int → PyData} (hg : ∀ i j, isSc (g i j) = true) : OpD K (rI0 fun i j => scV (g i j)) (dII0 g) := by
  intro x y ρ Q h σ F G H as v u ok rx ry c k
  match x, y, h, rx, ry with
  | .d (.int i), .d (.int j), h, rx, ry =>
    exact ⟨i, j, repI rx, repI ry, k (.d (g i j)) ρ _ G H as h ok (Nxt.refl _ _) (rep_sc (hg i j))⟩
abbrev gAdd : Int → Int → PyData := fun i j => .int (i + j)
abbrev gSub : Int → Int → PyData := fun i j => .int (i - j)
abbrev gMul : Int → Int → PyData := fun i j => .int (i * j)
abbrev gMod : Int → Int → PyData := fun i j => .int (i % j)
abbrev gDiv : Int → Int → PyData := fun i j => .int (i / j)
abbrev gPow : Int → Int → PyData := fun i j => .int (i ^ j.toNat)
theorem pd_add (ha : PD T a wa) (hb : PD T b wb) : PD T (.BinOp a .Add b pos) (wOp (dII0 gAdd) wa wb) := pd_op (fun _ _ _ _ => op_add) (opd_I0 (g := gAdd) fun _ _ => rfl) ha hb
theorem pd_sub (ha : PD T a wa) (hb : PD T b wb) : PD T (.BinOp a .Sub b pos) (wOp (dII0 gSub) wa wb) := pd_op (fun _ _ _ _ => op_sub) (opd_I0 (g := gSub) fun _ _ => rfl) ha hb
theorem pd_mul (ha : PD T a wa) (hb : PD T b wb) : PD T (.BinOp a .Mult b pos) (wOp (dII CMul gMul) wa wb) := pd_op (fun _ _ _ _ => op_mul) (opd_I (g := gMul) fun _ _ => rfl) ha hb
theorem pd_mod (ha : PD T a wa) (hb : PD T b wb) : PD T (.BinOp a .Mod b pos) (wOp (dII (fun _ j => 0 < j) gMod) wa wb) := pd_op (fun _ _ _ _ => op_mod) (opd_I (g := gMod) fun _ _ => rfl) ha hb
theorem pd_fdiv (ha : PD T a wa) (hb : PD T b wb) : PD T (.BinOp a .FloorDiv b pos) (wOp (dII CDiv gDiv) wa wb) := pd_op (fun _ _ _ _ => op_fdiv) (opd_I (g := gDiv) fun _ _ => rfl) ha hb
theorem pd_pow (ha : PD T a wa) (hb : PD T b wb) : PD T (.BinOp a .Pow b pos) (wOp (dII CPow gPow) wa wb) := pd_op (fun _ _ _ _ => op_pow) (opd_I (g := gPow) fun _ _ => rfl) ha hb
abbrev gLt : Int → Int → PyData := fun i j => .bool (decide (i < j))
abbrev gLe : Int → Int → PyData := fun i j => .bool (decide (i ≤ j))
abbrev gGt : Int → Int → PyData := fun i j => .bool (decide (j < i))
abbrev gGe : Int → Int → PyData := fun i j => .bool (decide (j ≤ i))
theorem pd_lt (ha : PD T a wa) (hb : PD T b wb) : PD T (.Compare a [.Lt] [b] pos) (wOp (dII0 gLt) wa wb) := pd_cmp (fun _ _ _ _ => op_lt) (opd_I0 (g := gLt) fun _ _ => rfl) ha hb
theorem pd_le (ha : PD T a wa) (hb : PD T b wb) : PD T (.Compare a [.LtE] [b] pos) (wOp (dII0 gLe) wa wb) := pd_cmp (fun _ _ _ _ => op_le) (opd_I0 (g := gLe) fun _ _ => rfl) ha hb
theorem pd_gt (ha : PD T a wa) (hb : PD T b wb) : PD T (.Compare a [.Gt] [b] pos) (wOp (dII0 gGt) wa wb) := pd_cmp (fun _ _ _ _ => op_gt) (opd_I0 (g := gGt) fun _ _ => rfl) ha hb
theorem pd_ge (ha : PD T a wa) (hb : PD T b wb) : PD T (.Compare a [.GtE] [b] pos) (wOp (dII0 gGe) wa wb) := pd_cmp (fun _ _ _ _ => op_ge) (opd_I0 (g := gGe) fun _ _ => rfl) ha hb
def dNeg : DV → S → QD → Prop := fun x ρ Q => match x with
  | .d (.int i) => Q (.d (.int (-i))) ρ
  | _ => False
theorem pd_neg (ha : PD T a wa) : PD T (.UnaryOp .USub a pos) (wUn dNeg wa) := pd_un (fun _ => un_neg) (fun x ρ Q h σ F G H as v ok rx C k => by
  match x, h, rx with
  | .d (.int i), h, rx => exact ⟨i, repI rx, k (.d (.int (-i))) ρ _ G H as h ok (Nxt.refl _ _) (.int _)⟩) ha

/-! ### tests -/
def wB (wa : WE) : WT := fun ρ Q X => wa ρ (fun x ρ1 => match x with
  | .d (.bool b) => Q b ρ1
  | _ => False) X
theorem pdt_val (ha : PD T a wa) (he : ∀ env whole, isTrue a env whole = (do let v ← whole; standAt a.pos; holding [v] (truthy v)) := by intro _ _; rfl) : PDT T a (wB wa) := by
  obtain ⟨ta, ha, da⟩ := ha
  refine ⟨fun W => tB (ta W), fun W X g tk => pt_val (ha W X g tk) (he _), fun ρ Q X h W σ F G H as ok acc C k => ?_⟩
  refine da _ _ _ h W σ F G H as ok acc _ fun x ρ1 v G1 H1 as1 h1 ok1 n1 r1 => ?_
  match x, h1, r1 with
  | .d (.bool i), h1, r1 => exact ⟨i, repB r1, k i ρ1 G1 H1 as1 h1 ok1 n1⟩
/-- a comparison as a test -/
theorem pdt_cmp {op : CmpOp} {we : WE} (h : PD T (.Compare a [op] [b] pos) we) (he : ∀ X (t : TE), PE X (.Compare a [op] [b] pos) t → PT X (.Compare a [op] [b] pos) (tB t)) : PDT T (.Compare a [op] [b] pos) (wB we) := by
  obtain ⟨ta, ha, da⟩ := h
  refine ⟨fun W => tB (ta W), fun W X g tk => he X _ (ha W X g tk), fun ρ Q X h W σ F G H as ok acc C k => ?_⟩
  refine da _ _ _ h W σ F G H as ok acc _ fun x ρ1 v G1 H1 as1 h1 ok1 n1 r1 => ?_
  match x, h1, r1 with
  | .d (.bool i), h1, r1 => exact ⟨i, repB r1, k i ρ1 G1 H1 as1 h1 ok1 n1⟩
end
end DL
end

section
set_option Elab.async false
set_option linter.all false
set_option maxRecDepth 100000
set_option maxHeartbeats 1000000
set_option autoImplicit false
namespace DL
variable [Tab0]
open PySem PySem.Spec PyProof.Rows L2

section
variable {T : Sta} {pos : Pos} {a b c e : Expr} {es : List Expr} {wa wb wc we : WE} {w : WA} {wt wu : WT} {K : PySem.W.Frag}

/-! ### and, or, not -/
def wAnd (wa wb : WE) : WE := fun ρ Q X => wa ρ (fun x ρ1 => match x with
  | .d (.bool true) => wb ρ1 Q X
  | .d (.bool false) => Q (.d (.bool false)) ρ1
  | _ => False) X
def wOr (wa wb : WE) : WE := fun ρ Q X => wa ρ (fun x ρ1 => match x with
  | .d (.bool true) => Q (.d (.bool true)) ρ1
  | .d (.bool false) => wb ρ1 Q X
  | _ => False) X
def dNot : DV → S → QD → Prop := fun x ρ Q => match x with
  | .d (.bool b) => Q (.d (.bool (!b))) ρ
  | _ => False
theorem pd_one {op} (h : PD T a wa) : PD T (.BoolOp op [a] pos) wa := by
  obtain ⟨ta, ha, da⟩ := h
  exact ⟨ta, fun W X g tk => pe_one (ha W X g tk), da⟩
theorem pd_and (ha : PD T a wa) (hb : PD T (.BoolOp .And (b :: es) pos) wb) : PD T (.BoolOp .And (a :: b :: es) pos) (wAnd wa wb) := by
  obtain ⟨ta, ha, da⟩ := ha
  obtain ⟨tb, hb, db⟩ := hb
  refine ⟨fun W => tAndV (ta W) (tb W), fun W X g tk => pe_and (ha W X g tk) (hb W X g tk), fun ρ Q X h W σ F G H as ok acc C k => ?_⟩
  refine da _ _ _ h W σ F G H as ok acc _ fun x ρ1 v G1 H1 as1 h1 ok1 n1 r1 => ?_
  match x, h1, r1 with
  | .d (.bool true), h1, r1 => exact ⟨true, repB r1, iteT (db _ _ _ h1 W σ F G1 H1 as1 ok1 (acc.next n1) _ (k.next n1))⟩
  | .d (.bool false), h1, r1 => exact ⟨false, repB r1, iteF (k _ ρ1 _ G1 H1 as1 h1 ok1 n1 (.bl false))⟩
theorem pd_or (ha : PD T a wa) (hb : PD T (.BoolOp .Or (b :: es) pos) wb) : PD T (.BoolOp .Or (a :: b :: es) pos) (wOr wa wb) := by
  obtain ⟨ta, ha, da⟩ := ha
  obtain ⟨tb, hb, db⟩ := hb
  refine ⟨fun W => tOrV (ta W) (tb W), fun W X g tk => pe_or (ha W X g tk) (hb W X g tk), fun ρ Q X h W σ F G H as ok acc C k => ?_⟩
  refine da _ _ _ h W σ F G H as ok acc _ fun x ρ1 v G1 H1 as1 h1 ok1 n1 r1 => ?_
  match x, h1, r1 with
  | .d (.bool true), h1, r1 => exact ⟨true, repB r1, iteT (k _ ρ1 _ G1 H1 as1 h1 ok1 n1 (.bl true))⟩
  | .d (.bool false), h1, r1 => exact ⟨false, repB r1, iteF (db _ _ _ h1 W σ F G1 H1 as1 ok1 (acc.next n1) _ (k.next n1))⟩
theorem pd_not (ha : PD T a wa) : PD T (.UnaryOp .Not a pos) (wUn dNot wa) := by
  obtain ⟨ta, ha, da⟩ := ha
  refine ⟨fun W => tNotV (ta W), fun W X g tk => pe_not (ha W X g tk), fun ρ Q X h W σ F G H as ok acc C k => ?_⟩
  refine da _ _ _ h W σ F G H as ok acc _ fun x ρ1 v G1 H1 as1 h1 ok1 n1 r1 => ?_
  match x, h1, r1 with
  | .d (.bool b), h1, r1 => exact ⟨b, repB r1, k _ ρ1 _ G1 H1 as1 h1 ok1 n1 (.bl _)⟩
def wAndT (wt wu : WT) : WT := fun ρ Q X => wt ρ (fun b ρ1 => match b with
  | true => wu ρ1 Q X
  | false => Q false ρ1) X
def wOrT (wt wu : WT) : WT := fun ρ Q X => wt ρ (fun b ρ1 => match b with
  | true => Q true ρ1
  | false => wu ρ1 Q X) X
def wNotT (wt : WT) : WT := fun ρ Q X => wt ρ (fun b ρ1 => Q (!b) ρ1) X
theorem pdw_and1 (h : PDT T a wt) : PDW T (.BoolOp .And [a] pos) wt := by
  obtain ⟨ta, ha, da⟩ := h
  exact ⟨ta, fun W X g tk => pw_and1 (ha W X g tk), da⟩
theorem pdw_or1 (h : PDT T a wt) : PDW T (.BoolOp .Or [a] pos) wt := by
  obtain ⟨ta, ha, da⟩ := h
  exact ⟨ta, fun W X g tk => pw_or1 (ha W X g tk), da⟩
theorem pdw_and (ha : PDT T a wt) (hb : PDW T (.BoolOp .And (b :: es) pos) wu) : PDW T (.BoolOp .And (a :: b :: es) pos) (wAndT wt wu) := by
  obtain ⟨ta, ha, da⟩ := ha
  obtain ⟨tb, hb, db⟩ := hb
  refine ⟨fun W => tAnd (ta W) (tb W), fun W X g tk => pw_and (ha W X g tk) (hb W X g tk), fun ρ Q X h W σ F G H as ok acc C k => ?_⟩
  refine da _ _ _ h W σ F G H as ok acc _ fun x ρ1 G1 H1 as1 h1 ok1 n1 => ?_
  cases x with
  | true => exact iteT (db _ _ _ h1 W σ F G1 H1 as1 ok1 (acc.next n1) _ fun b ρ2 G2 H2 as2 q o m => k b ρ2 G2 H2 as2 q o (n1.trans m))
  | false => exact iteF (k false ρ1 G1 H1 as1 h1 ok1 n1)
theorem pdw_or (ha : PDT T a wt) (hb : PDW T (.BoolOp .Or (b :: es) pos) wu) : PDW T (.BoolOp .Or (a :: b :: es) pos) (wOrT wt wu) := by
  obtain ⟨ta, ha, da⟩ := ha
  obtain ⟨tb, hb, db⟩ := hb
  refine ⟨fun W => tOr (ta W) (tb W), fun W X g tk => pw_or (ha W X g tk) (hb W X g tk), fun ρ Q X h W σ F G H as ok acc C k => ?_⟩
  refine da _ _ _ h W σ F G H as ok acc _ fun x ρ1 G1 H1 as1 h1 ok1 n1 => ?_
  cases x with
  | true => exact iteT (k true ρ1 G1 H1 as1 h1 ok1 n1)
  | false => exact iteF (db _ _ _ h1 W σ F G1 H1 as1 ok1 (acc.next n1) _ fun b ρ2 G2 H2 as2 q o m => k b ρ2 G2 H2 as2 q o (n1.trans m))
theorem PDW.pt (h : PDW T a wt) : PDT T a wt := by
  obtain ⟨ta, ha, da⟩ := h
  exact ⟨ta, fun W X g tk => (ha W X g tk).pt, da⟩
theorem pdt_not (h : PDT T a wt) : PDT T (.UnaryOp .Not a pos) (wNotT wt) := by
  obtain ⟨ta, ha, da⟩ := h
  refine ⟨fun W => tNot (ta W), fun W X g tk => pt_not (ha W X g tk), fun ρ Q X h W σ F G H as ok acc C k => ?_⟩
  exact da _ _ _ h W σ F G H as ok acc _ fun x ρ1 G1 H1 as1 h1 ok1 n1 => k _ ρ1 G1 H1 as1 h1 ok1 n1
def wIfE (wt : WT) (wa wb : WE) : WE := fun ρ Q X => wt ρ (fun b ρ1 => match b with
  | true => wa ρ1 Q X
  | false => wb ρ1 Q X) X
theorem pd_ifE (hc : PDT T c wt) (ha : PD T a wa) (hb : PD T b wb) : PD T (.IfExp c a b pos) (wIfE wt wa wb) := by
  obtain ⟨tc, hc, dc⟩ := hc
  obtain ⟨ta, ha, da⟩ := ha
  obtain ⟨tb, hb, db⟩ := hb
  refine ⟨fun W => tIf (tc W) (ta W) (tb W), fun W X g tk => pe_ifExp (hc W X g tk) (ha W X g tk) (hb W X g tk), fun ρ Q X h W σ F G H as ok acc C k => ?_⟩
  refine dc _ _ _ h W σ F G H as ok acc _ fun x ρ1 G1 H1 as1 h1 ok1 n1 => ?_
  cases x with
  | true => exact iteT (da _ _ _ h1 W σ F G1 H1 as1 ok1 (acc.next n1) _ (k.next n1))
  | false => exact iteF (db _ _ _ h1 W σ F G1 H1 as1 ok1 (acc.next n1) _ (k.next n1))

/-! ### argument lists, displays -/
def wNil : WA := fun ρ Q _ => Q [] ρ
def wCons (wa : WE) (w : WA) : WA := fun ρ Q X => wa ρ (fun x ρ1 => w ρ1 (fun xs ρ2 => Q (x :: xs) ρ2) X) X
theorem pda_nil : PDA T [] wNil := ⟨fun _ => tNil, fun _ _ _ _ => pa_nil, fun ρ Q X h W σ F G H as ok acc C k => k [] ρ [] G H as h ok (Nxt.refl _ _) .nil⟩
theorem pda_cons (ha : PD T e wa) (hr : PDA T es w) (hs : ∀ env, starEach (e :: es) env = (false, eval e env) :: starEach es env := by intro _; rfl) : PDA T (e :: es) (wCons wa w) := by
  obtain ⟨ta, ha, da⟩ := ha
  obtain ⟨tr, hr, dr⟩ := hr
  refine ⟨fun W => tCons (ta W) (tr W), fun W X g tk => pa_cons (ha W X g tk) (hr W X g tk) (hs _), fun ρ Q X h W σ F G H as ok acc C k => ?_⟩
  refine da _ _ _ h W σ F G H as ok acc _ fun x ρ1 v G1 H1 as1 h1 ok1 n1 r1 => ?_
  refine dr _ _ _ h1 W σ F G1 H1 as1 ok1 (acc.next n1) _ fun xs ρ2 vs G2 H2 as2 h2 ok2 n2 r2 => ?_
  exact k (x :: xs) ρ2 (v :: vs) G2 H2 as2 h2 ok2 (n1.trans n2) (.cons (r1.mono n2) r2)
/-- all of them data -/
def allD : List DV → Option (List PyData)
  | [] => some []
  | .d x :: r => match allD r with
    | some l => some (x :: l)
    | none => none
  | .o _ :: _ => none
theorem allD_eq : ∀ {l : List DV} {ds : List PyData}, allD l = some ds → l = ds.map .d
  | [], ds, h => by
    have h : some [] = some ds := h
    cases h
    rfl
  | .d x :: r, ds, h => by
    unfold allD at h
    cases e : allD r with
    | none =>
      rw [e] at h
      cases h
    | some l =>
      rw [e] at h
      cases h
      rw [allD_eq e]
      rfl
  | .o _ :: _, ds, h => by cases h
def wTup (w : WA) : WE := fun ρ Q X => w ρ (fun xs ρ1 => match allD xs with
  | some ds => ds.length ≤ sizeLine ∧ Q (.d (.tuple ds)) ρ1
  | none => False) X
section
variable {F G H : Hp} {as : List Addr} {ρ : S} {σ : St}
theorem Ok.new (ok : Ok K ρ σ F G H as) {p : Addr} {o : HO} (h : H p = none) : Ok K ρ σ F (upd G p o) (upd H p o) as :=
  ⟨ok.mem.new h, ok.sll, fun i dv e => by
    obtain ⟨v, e1, r⟩ := ok.sl i dv e
    exact ⟨v, e1, r.mono (ok.mem.nxt h)⟩⟩
theorem Ok.nxt (ok : Ok K ρ σ F G H as) {p : Addr} {o : HO} (h : H p = none) : Nxt G as (upd G p o) as := ok.mem.nxt h
theorem Ok.mine (ok : Ok K ρ σ F G H as) {p : Addr} {o : HO} {x : OB} (h : H p = none) (hx : ObAt K G (upd H p o) (as ++ [p]) p x) (hno : NoT o := by intro _ h; cases h) : Ok K ⟨ρ.sl, ρ.ob ++ [x]⟩ σ F G (upd H p o) (as ++ [p]) :=
  ⟨ok.mem.mine h hx hno, ok.sll, fun i dv e => by
    obtain ⟨v, e1, r⟩ := ok.sl i dv e
    exact ⟨v, e1, r.mono ⟨Same.refl G, [p], rfl⟩⟩⟩
theorem Ok.wr (ok : Ok K ρ σ F G H as) {k : Nat} {a : Addr} {o : HO} {x y : OB} (ha : as[k]? = some a) (hk : ρ.ob[k]? = some x) (hg : x ≠ OB.gone) (hx : ObAt K G (upd H a o) as a y) (hno : NoT o := by intro _ h; cases h) : Ok K ⟨ρ.sl, ρ.ob.set k y⟩ σ F G (upd H a o) as :=
  ⟨ok.mem.wr ha hk hg hx hno, ok.sll, ok.sl⟩
/-- new data -/
theorem Kv.data {Q : QD} {C : VK} {p : Addr} {o : HO} {x : PyData} (k : Kv K F G as σ Q C) (ok : Ok K ρ σ F G H as) (h : H p = none) (q : Q (.d x) ρ) (r : Rep K (upd G p o) (.ref p) x) : C (.ref p) (upd H p o) :=
  k (.d x) ρ (.ref p) (upd G p o) (upd H p o) as q (ok.new h) (ok.nxt h) r
theorem Kv.same {Q : QD} {C : VK} {v : V} {x : DV} (k : Kv K F G as σ Q C) (ok : Ok K ρ σ F G H as) (q : Q x ρ) (r : RepV K G as v x) : C v H := k x ρ v G H as q ok (Nxt.refl _ _) r
end
theorem pd_tup {x1} (h : PDA T es w) : PD T (.Tuple es x1 pos) (wTup w) := by
  obtain ⟨ta, ha, da⟩ := h
  refine ⟨fun W => tTup (ta W), fun W X g tk => pe_tup (ha W X g tk), fun ρ Q X h W σ F G H as ok acc C k => ?_⟩
  refine da _ _ _ h W σ F G H as ok acc _ fun xs ρ1 vs G1 H1 as1 h1 ok1 n1 r1 => ?_
  cases e : allD xs with
  | none =>
    rw [e] at h1
    exact h1.elim
  | some ds =>
    rw [e] at h1
    have e' := allD_eq e
    subst e'
    have r := r1.to
    refine ⟨by rw [r.length]; exact h1.1, fun p hp => (k.next n1).data ok1 hp h1.2 (.tup upd_same (r.mono (same_new (ok1.mem.fresh hp).1)))⟩
/-- a list of one's own -/
def wLst (w : WA) : WE := fun ρ Q X => w ρ (fun xs ρ1 => xs.length ≤ sizeLine ∧ Q (.o ρ1.ob.length) ⟨ρ1.sl, ρ1.ob ++ [.lst xs]⟩) X
theorem get_last {α : Type} (l : List α) (x : α) : (l ++ [x])[l.length]? = some x := by simp
theorem pd_lst (h : PDA T es w) : PD T (.List es pos) (wLst w) := by
  obtain ⟨ta, ha, da⟩ := h
  refine ⟨fun W => tLst (ta W), fun W X g tk => pe_lst (ha W X g tk), fun ρ Q X h W σ F G H as ok acc C k => ?_⟩
  refine da _ _ _ h W σ F G H as ok acc _ fun xs ρ1 vs G1 H1 as1 h1 ok1 n1 r1 => ⟨by rw [r1.length]; exact h1.1, fun p hp => ?_⟩
  refine k _ _ _ G1 _ (as1 ++ [p]) h1.2 (ok1.mine (x := .lst xs) hp ⟨vs, upd_same, r1.mono ⟨Same.refl _, [p], rfl⟩⟩) (n1.trans ⟨Same.refl _, [p], rfl⟩) ⟨p, ?_, rfl⟩
  rw [← ok1.mem.len]
  exact get_last _ _

/-! ### subscripts -/
def obK (ρ : S) (k : Nat) : OB := match ρ.ob[k]? with
  | some x => x
  | none => .gone
def dIx : DV → DV → S → QD → Prop := fun x y ρ Q => match x, y with
  | .d (.tuple ds), .d (.int i) => ∃ z, atI ds i = some z ∧ Q (.d z) ρ
  | .d (.list ds), .d (.int i) => ∃ z, atI ds i = some z ∧ Q (.d z) ρ
  | .o k, .d (.int i) => match obK ρ k with
    | .lst xs => ∃ z, atI xs i = some z ∧ Q z ρ
    | _ => False
  | _, _ => False
theorem repTt {G : Hp} {as : List Addr} {v : V} {ds : List PyData} (r : RepV K G as v (.d (.tuple ds))) : ∃ a xs, v = .ref a ∧ G a = some (.tup xs) ∧ Reps K G xs ds := by
  have r : Rep K G v (.tuple ds) := r
  cases r with
  | tup h q => exact ⟨_, _, rfl, h, q⟩
theorem repT {G : Hp} {as : List Addr} {v : V} {ds : List PyData} (r : RepV K G as v (.d (.tuple ds))) : ∃ a xs, v = .ref a ∧ SqT K G a xs ∧ Reps K G xs ds := by
  obtain ⟨a, xs, e, h, q⟩ := repTt r
  exact ⟨a, xs, e, SqT.of h, q⟩
theorem repL {G : Hp} {as : List Addr} {v : V} {ds : List PyData} (r : RepV K G as v (.d (.list ds))) : ∃ a xs, v = .ref a ∧ SqL K G a xs ∧ Reps K G xs ds := by
  have r : Rep K G v (.list ds) := r
  cases r with
  | lst h q => exact ⟨_, _, rfl, h, q⟩
theorem obK_get {ρ : S} {k : Nat} {x : OB} (h : obK ρ k = x) (hx : x ≠ .gone) : ρ.ob[k]? = some x := by
  unfold obK at h
  cases e : ρ.ob[k]? with
  | none =>
    rw [e] at h
    exact absurd h.symm hx
  | some y =>
    rw [e] at h
    have h : y = x := h
    rw [h]
theorem repO {F G H : Hp} {as : List Addr} {ρ : S} {σ : St} {v : V} {k : Nat} {x : OB} (ok : Ok K ρ σ F G H as) (r : RepV K G as v (.o k)) (h : obK ρ k = x) (hx : x ≠ .gone) : ∃ a, v = .ref a ∧ as[k]? = some a ∧ ρ.ob[k]? = some x ∧ ObAt K G H as a x := by
  obtain ⟨a, e1, e2⟩ := r
  exact ⟨a, e2, e1, obK_get h hx, ok.mem.at_ k a x e1 (obK_get h hx)⟩
theorem atI_rep {α β : Type} {R : α → β → Prop} {xs : List α} {ds : List β} (hl : xs.length = ds.length) (h : ∀ (i : Nat) (x : β), ds[i]? = some x → ∃ u, xs[i]? = some u ∧ R u x) {i : Int} {z : β} (e : atI ds i = some z) : ∃ u, atI xs i = some u ∧ R u z := by
  unfold atI at e ⊢
  rw [hl]
  cases q : ixN ds.length i with
  | none =>
    rw [q] at e
    cases e
  | some j =>
    rw [q] at e
    obtain ⟨u, h1, h2⟩ := h j z e
    exact ⟨u, h1, h2⟩
theorem opd_ix : OpD K (rIx K) dIx := by
  intro x y ρ Q h σ F G H as v u ok rx ry C k
  match x, y, h, rx, ry with
  | .d (.tuple ds), .d (.int i), ⟨z, e, q⟩, rx, ry =>
    obtain ⟨a, xs, rfl, hs, r⟩ := repT rx
    obtain ⟨u', e1, r1⟩ := atI_rep (R := Rep K G) r.length (fun i x => r.get) e
    exact .inr (.inl ⟨a, xs, i, u', rfl, repI ry, same_sqT ok.mem.gh hs, e1, k.same ok q r1⟩)
  | .d (.list ds), .d (.int i), ⟨z, e, q⟩, rx, ry =>
    obtain ⟨a, xs, rfl, hs, r⟩ := repL rx
    obtain ⟨u', e1, r1⟩ := atI_rep (R := Rep K G) r.length (fun i x => r.get) e
    exact .inl ⟨a, xs, i, u', rfl, repI ry, ok.mem.gh.seq hs, e1, k.same ok q r1⟩
  | .o n, .d (.int i), h, rx, ry =>
    unfold dIx at h
    cases e : obK ρ n with
    | lst xs =>
      have h : ∃ z, atI xs i = some z ∧ Q z ρ := by
        simp only [e] at h
        exact h
      obtain ⟨z, e1, q⟩ := h
      obtain ⟨a, rfl, _, _, vs, hv, r⟩ := repO ok rx e (by intro z; cases z)
      obtain ⟨u', e2, r1⟩ := atI_rep (R := RepV K G as) r.length (fun i x => r.get) e1
      exact .inl ⟨a, vs, i, u', rfl, repI ry, SqL.of hv, e2, k.same ok q r1⟩
    | dk _ => simp only [e] at h
    | dt _ => simp only [e] at h
    | st _ => simp only [e] at h
    | gone => simp only [e] at h
theorem pd_ix (ha : PD T a wa) (hb : PD T b wb) (hs : PlainIx b := by exact fun _ _ => rfl) : PD T (.Subscript a b pos) (wOp dIx wa wb) := by
  obtain ⟨ta, ha, da⟩ := ha
  obtain ⟨tb, hb, db⟩ := hb
  exact ⟨fun W => tOp (rIx T.K) (ta W) (tb W), fun W X g tk => pe_ix (by rw [← g.K]; exact ix_seq) (ha W X g tk) (hb W X g tk) hs, fun ρ Q X h => de_op opd_ix da db h⟩

/-! ### slices -/
abbrev WO := S → (Option Int → S → Prop) → QX → Prop
def DO (K : PySem.W.Frag) (t : WX → TO) (ρ : S) (Q : Option Int → S → Prop) (X : QX) : Prop :=
  ∀ (W : WX) (σ : St) (F G H : Hp) (as : List Addr), Ok K ρ σ F G H as → AccE K F G as σ W X → ∀ C : Option Int → Hp → Prop,
    (∀ (b : Option Int) (ρ' : S) (G' H' : Hp) (as' : List Addr), Q b ρ' → Ok K ρ' σ F G' H' as' → Nxt G as G' as' → C b H') → t W σ H C
def PDO (T : Sta) (e : Option Expr) (w : WO) : Prop := ∃ t : WX → TO, (∀ W X, Good T X → Takes X W → PO X e (t W)) ∧ ∀ ρ Q X, w ρ Q X → DO T.K t ρ Q X
def wNoP : WO := fun ρ Q _ => Q none ρ
def wPart (wa : WE) : WO := fun ρ Q X => wa ρ (fun x ρ1 => match x with
  | .d (.int i) => Q (some i) ρ1
  | _ => False) X
theorem pdo_none : PDO T none wNoP := ⟨fun _ => tNoPart, fun _ _ _ _ => po_none, fun ρ Q X h W σ F G H as ok acc C k => k none ρ G H as h ok (Nxt.refl _ _)⟩
theorem pdo_some (ha : PD T a wa) : PDO T (some a) (wPart wa) := by
  obtain ⟨ta, ha, da⟩ := ha
  refine ⟨fun W => tPart (ta W), fun W X g tk => po_some (ha W X g tk), fun ρ Q X h W σ F G H as ok acc C k => ?_⟩
  refine da _ _ _ h W σ F G H as ok acc _ fun x ρ1 v G1 H1 as1 h1 ok1 n1 r1 => ?_
  match x, h1, r1 with
  | .d (.int i), h1, r1 => exact ⟨i, repI r1, k (some i) ρ1 G1 H1 as1 h1 ok1 n1⟩
def cutD {α : Type} (xs : List α) (lo hi : Option Int) : List α := (xs.drop (HT.sIx xs.length 0 lo)).take (HT.sIx xs.length xs.length hi - HT.sIx xs.length 0 lo)
theorem cut_rep {G : Hp} {vs : List V} {ds : List PyData} (r : Reps K G vs ds) (lo hi : Option Int) : Reps K G (cutV vs lo hi) (cutD ds lo hi) := by
  unfold cutV cutD
  rw [r.length]
  exact (r.drop _).take _
theorem cut_repV {G : Hp} {as : List Addr} {vs : List V} {ds : List DV} (r : RepVs K G as vs ds) (lo hi : Option Int) : RepVs K G as (cutV vs lo hi) (cutD ds lo hi) := by
  unfold cutV cutD
  rw [r.length]
  exact (r.drop _).take _
def rSlE (K : PySem.W.Frag) : V → Option Int → Option Int → Hp → VK → Prop := fun x lo hi H Q => rSlA K x lo hi H Q ∨ rSlL K x lo hi H Q
/-- a slice: of a tuple a tuple, of a list a new one, of one's own -/
def dSl (x : DV) (lo hi : Option Int) (ρ : S) (Q : QD) : Prop := match x with
  | .d (.tuple ds) => Q (.d (.tuple (cutD ds lo hi))) ρ
  | .d (.list ds) => Q (.o ρ.ob.length) ⟨ρ.sl, ρ.ob ++ [.lst ((cutD ds lo hi).map .d)]⟩
  | .o k => match obK ρ k with
    | .lst xs => Q (.o ρ.ob.length) ⟨ρ.sl, ρ.ob ++ [.lst (cutD xs lo hi)]⟩
    | _ => False
  | _ => False
def wSl (wa : WE) (wl wh : WO) : WE := fun ρ Q X => wa ρ (fun x ρ1 => wl ρ1 (fun lo ρ2 => wh ρ2 (fun hi ρ3 => dSl x lo hi ρ3 Q) X) X) X
theorem whole_cut {α : Type} (xs : List α) (lo hi : Option Int) (h : HT.sIx xs.length 0 lo = 0 ∧ HT.sIx xs.length xs.length hi = xs.length) : cutD xs lo hi = xs := by
  unfold cutD
  rw [h.1, h.2]
  simp
theorem mineL {F G H : Hp} {as : List Addr} {ρ : S} {σ : St} {Q : QD} {C : VK} {p : Addr} {vs : List V} {xs : List DV} (k : Kv K F G as σ Q C) (ok : Ok K ρ σ F G H as) (hp : H p = none) (r : RepVs K G as vs xs) (q : Q (.o ρ.ob.length) ⟨ρ.sl, ρ.ob ++ [.lst xs]⟩) :
    C (.ref p) (upd H p (.lst vs)) := by
  refine k _ _ _ G _ (as ++ [p]) q (ok.mine (x := .lst xs) hp ⟨vs, upd_same, r.mono ⟨Same.refl _, [p], rfl⟩⟩) ⟨Same.refl _, [p], rfl⟩ ⟨p, ?_, rfl⟩
  rw [← ok.mem.len]
  exact get_last _ _
theorem pd_slice {lo hi : Option Expr} {p2 : Pos} {wl wh : WO} (ha : PD T a wa) (hl : PDO T lo wl) (hh : PDO T hi wh) : PD T (.Subscript a (.Slice lo hi none p2) pos) (wSl wa wl wh) := by
  obtain ⟨ta, ha, da⟩ := ha
  obtain ⟨tl, hl, dl⟩ := hl
  obtain ⟨th, hh, dh⟩ := hh
  refine ⟨fun W => tSl (rSlE T.K) (ta W) (tl W) (th W), fun W X g tk => pe_slice (by unfold rSlE; rw [← g.K]; exact SlR.or sl_tupA sl_list) (ha W X g tk) (hl W X g tk) (hh W X g tk), fun ρ Q X h W σ F G H as ok acc C k => ?_⟩
  refine da _ _ _ h W σ F G H as ok acc _ fun x ρ1 v G1 H1 as1 h1 ok1 n1 r1 => ?_
  refine dl _ _ _ h1 W σ F G1 H1 as1 ok1 (acc.next n1) _ fun lo ρ2 G2 H2 as2 h2 ok2 n2 => ?_
  refine dh _ _ _ h2 W σ F G2 H2 as2 ok2 (acc.next (n1.trans n2)) _ fun hi ρ3 G3 H3 as3 h3 ok3 n3 => ?_
  have r3 := r1.mono (n2.trans n3)
  have k3 := k.next ((n1.trans n2).trans n3)
  match x, h3, r3 with
  | .d (.tuple ds), h3, r3 =>
    obtain ⟨a, xs, rfl, hs0, r⟩ := repTt r3
    have hs : SqT T.K G3 a xs := SqT.of hs0
    refine .inl ⟨a, xs, rfl, same_sqT ok3.mem.gh hs, fun hw => ?_, fun _ p hp => ?_⟩
    · have e : cutD ds lo hi = ds := whole_cut ds lo hi (by rw [← r.length]; exact hw)
      have h3 : Q (.d (.tuple (cutD ds lo hi))) ρ3 := h3
      rw [e] at h3
      exact k3.same ok3 h3 (.tup hs0 r)
    · exact k3.data ok3 hp h3 (.tup upd_same ((cut_rep r lo hi).mono (same_new (ok3.mem.fresh hp).1)))
  | .d (.list ds), h3, r3 =>
    obtain ⟨a, xs, rfl, hs, r⟩ := repL r3
    exact .inr ⟨a, xs, rfl, ok3.mem.gh.seq hs, fun p hp => mineL k3 ok3 hp (RepVs.of (cut_rep r lo hi)) h3⟩
  | .o n, h3, r3 =>
    unfold dSl at h3
    cases e : obK ρ3 n with
    | lst xs =>
      have h3 : Q (.o ρ3.ob.length) ⟨ρ3.sl, ρ3.ob ++ [.lst (cutD xs lo hi)]⟩ := by
        simp only [e] at h3
        exact h3
      obtain ⟨a, rfl, _, _, vs, hv, r⟩ := repO ok3 r3 e (by intro z; cases z)
      exact .inr ⟨a, vs, rfl, SqL.of hv, fun p hp => mineL k3 ok3 hp (cut_repV r lo hi) h3⟩
    | dk _ => simp only [e] at h3
    | dt _ => simp only [e] at h3
    | st _ => simp only [e] at h3
    | gone => simp only [e] at h3

/-! ### calls of what is built in -/
theorem pd_callB {r : List V → Hp → VK → Prop} {R : List DV → S → QD → Prop} {x : Str} {id : String} {p : Pos} (hc : ∀ X, X.K = T.K → X.w = T.w → X.prog = T.P → X.calm = true → X.A.units + 64 < cLine → X.A.guards = some [] → CallR X (.builtin id) r) (hr : CaD T.K r R)
    (hg : T.sc.names.lookup x = some .globalImplicit) (hm : T.mg x = none) (hv : bootBuiltins x = some (.builtin id)) (ha : PDA T (e :: es) w) (hn : x ≠ "__name__" := by decide) (hdb : (x == ("__debug__" : Str)) = false := by decide)
    (he : ∀ env, starEach (e :: es) env = (false, eval e env) :: starEach es env := by intro _; rfl) (hpl : ∀ env, (backTo pos (starEach es env)).any (·.1) = false := by intro _; rfl) : PD T (.Call (.Name x p) (e :: es) [] pos) (wCa R w) := by
  obtain ⟨ta, ha, da⟩ := ha
  exact ⟨fun W => tCB r (ta W), fun W X g tk => pe_callB (hc X g.K g.w g.P g.calm g.room.units g.gds) (by show X.env.scope.names.lookup x = _; rw [g.sc]; exact hg) (by rw [g.mg]; exact hm) hv (ha W X g tk) hn hdb (he _) (hpl _), fun ρ Q X h => de_ca hr da h⟩
theorem pd_callTy {r : List V → Hp → VK → Prop} {R : List DV → S → QD → Prop} {x : Str} {id : String} {p : Pos} (hc : ∀ X, X.K = T.K → X.w = T.w → X.prog = T.P → X.calm = true → X.A.units + 64 < cLine → X.A.guards = some [] → CallR X (.type id) r) (hr : CaD T.K r R)
    (hg : T.sc.names.lookup x = some .globalImplicit) (hm : T.mg x = none) (hv : bootBuiltins x = some (.type id)) (ha : PDA T (e :: es) w) (hn : x ≠ "__name__" := by decide) (hdb : (x == ("__debug__" : Str)) = false := by decide)
    (he : ∀ env, starEach (e :: es) env = (false, eval e env) :: starEach es env := by intro _; rfl) (hpl : ∀ env, (backTo pos (starEach es env)).any (·.1) = false := by intro _; rfl) : PD T (.Call (.Name x p) (e :: es) [] pos) (wCa R w) := by
  obtain ⟨ta, ha, da⟩ := ha
  exact ⟨fun W => tCB r (ta W), fun W X g tk => pe_callTy (hc X g.K g.w g.P g.calm g.room.units g.gds) (by show X.env.scope.names.lookup x = _; rw [g.sc]; exact hg) (by rw [g.mg]; exact hm) hv (ha W X g tk) hn hdb (he _) (hpl _), fun ρ Q X h => de_ca hr da h⟩
end
end DL
end

section
set_option Elab.async false
set_option linter.all false
set_option maxRecDepth 100000
set_option maxHeartbeats 1000000
set_option autoImplicit false
namespace DL
variable [Tab0]
open PySem PySem.Spec PyProof.Rows L2

/-! ### defs, known to be called where no repr is under way -/
structure FnG (P : Program) (w : World) (K : PySem.W.Frag) (mg : Str → Option Value) (base : Heap) (k : Nat) (f : Addr) (fd : FuncData) (ps : List Str) (sp : Sp) : Prop where
  len : ∀ vs H Q E, sp vs H Q E → vs.length = ps.length
  run : ∀ (A : Around), A.guards = some [] → Room k A → ∀ (outer : List Env) (s : Shared) (H : Hp), Env0 P w K mg base A outer s H → ∀ (args : Args) (us : List Value) (vs : List V), BindsTo s fd args (ps.zip us) → Vals vs us →
    ∀ (Q : VK) (E : XK), sp vs H Q E → codeAny (model P w) A (.call (.ref f) args) (CR (L2.CX P w) outer P w H s Q E) s
section
variable {P : Program} {w : World} {K : PySem.W.Frag} {mg : Str → Option Value} {base : Heap}
theorem FnG.up {j k : Nat} {f : Addr} {fd : FuncData} {ps : List Str} {sp : Sp} (F : FnG P w K mg base j f fd ps sp) (h : j ≤ k) : FnG P w K mg base k f fd ps sp :=
  ⟨F.len, fun A g r => F.run A g (r.mono h)⟩
/-- a def's body -/
theorem fng_mk {x qual : Str} {st : Stmt} {f : Addr} {fd : FuncData} {N ps : List Str} {k : Nat} {sp : Sp} (F : Fun K x qual st f fd) (S : FnScope N ps (defScope st)) (len : ∀ vs H Q E, sp vs H Q E → vs.length = ps.length)
    (body : ∀ (cdv : Value) (A : Around) (outer : List Env) (s : Shared) (H : Hp) (vs : List V) (Q : VK) (E : XK), A.guards = some [] → Room k (A.deeper (envOfC qual (defScope st) s.heap.objs.size f cdv)) → sp vs H Q E →
      ∃ t, PSs (cxOf (L2.CX P w) P w K mg base N qual (defScope st) f cdv A outer s H E) (defBody st) t ∧ t { nx := fun _ H' => Q .non H', rt := Q } (L2.start N vs) H) : FnG P w K mg base (k + 1) f fd ps sp := by
  obtain ⟨oc, od, kV, doc, pm, an, cdv, ct, osl, rfl, lk, hcd⟩ := F.ex
  refine ⟨len, fun A gA room outer s H e0 args us vs bnd rv Q E h => ?_⟩
  have keepB : ∀ (b : Addr) (o : Obj), base.get? b = some o → s.heap.get? b = some o := fun b o e => (e0.bs b o e).1
  have inK : K.In s.heap := e0.mod.kin.keeps keepB
  have nolim : s.heap.NoLimit := e0.mod.nolimit.keeps keepB
  refine codeAny_call_function room.depth (inK _ _ lk) rfl S.co S.gen rfl (PySem.W.codeRec_of inK hcd) (bnd _ _ _ _ ?_)
  refine wpAny_newFunctionEnv_cells S.kind (fun y hy => ?_) fun env he s1 made => ?_
  · have hp : y.1 ∈ ps := (List.of_mem_zip (a := y.1) (b := y.2) hy).1
    exact (S.par y.1 hp).elim (fun q => .inl q) fun q => .inr ⟨q, PySem.W.cellsFrom_some _ _ _ (.inl q)⟩
  · subst he
    obtain ⟨t, run, hq⟩ := body cdv A outer s H vs Q E gA (room.deeper _) h
    have I0 : Inv (cxOf (L2.CX P w) P w K mg base N qual (defScope st) f cdv A outer s H E) [] (L2.start N vs) H s1 := inv_start S room.hd e0 (len _ _ _ _ h) rv made
    refine ⟨nolim.keeps made.toInCall.keep, codeAny_func (wpAny_mono (run.run [] s1 _ H _ I0 hq) (fun fl s2 done => ?_) fun _ _ z => z)⟩
    cases fl with
    | brk => exact (done.choose_spec.choose_spec.2 : False).elim
    | cont => exact (done.choose_spec.choose_spec.2 : False).elim
    | next =>
      obtain ⟨_, H2, J, q⟩ := done
      exact ⟨V.non, H2, J.os, J.bare, J.base, J.hok, rfl, q⟩
    | ret u =>
      obtain ⟨v, _, H2, J, r2, q⟩ := done
      exact ⟨v, H2, J.os, J.bare, J.base, J.hok, r2, q⟩
end
section
variable {X : Cx} {k : Nat} {f : Addr} {fd : FuncData} {ps : List Str} {sp : Sp} {dvs : List V} {ds : List Value} {W : WX}
theorem run_g {pins : List (Addr × Obj)} {σ : St} {H : Hp} {s : Shared} {Q : VK} {us : List Value} {vs : List V} (F : FnG X.prog X.w X.K X.mg X.base k f fd ps sp) (gA : X.A.guards = some []) (room : Room k X.A) (bnd : Binds X.K fd ps ds) (dv : Vals dvs ds) (tk : Takes X W)
    (I : Inv X pins σ H s) (rv : Vals vs us) (h : sp (vs ++ dvs) H Q (L2.WE W σ)) : wpAny (model X.prog X.w) X.A (call (.ref f) us) (EP X pins σ Q) X.xe s := by
  have all : Vals (vs ++ dvs) (us ++ ds) := rv.append dv
  have n : (us ++ ds).length = ps.length := all.length ▸ F.len _ _ _ _ h
  refine wpAny_call (codeAny_mono (F.run X.A gA room X.stack s H I.env0 ⟨us, []⟩ _ _ (bnd s us I.kIn n) all Q _ h) fun r s2 out => ?_)
  match r, out with
  | .error e, out => exact passAt tk σ pins H s e s2 I out
  | .ok (.ret u), out => exact I.after out
def tCallG (sp : Sp) (dvs : List V) (W : WX) (t : TA) : TE := fun σ H Q => t σ H fun vs H1 => sp (vs ++ dvs) H1 Q (L2.WE W σ)
theorem pe_callG {x : Str} {p pos : Pos} {e : Expr} {es : List Expr} {t : TA} (F : FnG X.prog X.w X.K X.mg X.base k f fd ps sp) (gA : X.A.guards = some []) (room : Room k X.A) (gl : Gl X x) (hm : X.mg x = some (.ref f)) (kp : PySem.W.keepIn X.K (.ref f) = true) (bnd : Binds X.K fd ps ds) (dv : Vals dvs ds)
    (tk : Takes X W) (ha : PA X (e :: es) t) (h1 : (x == ("__debug__" : Str)) = false) (h2 : starEach (e :: es) X.env = (false, eval e X.env) :: starEach es X.env) (h3 : (backTo pos (starEach es X.env)).any (·.1) = false) :
    PE X (.Call (.Name x p) (e :: es) [] pos) (tCallG sp dvs W t) := by
  constructor
  intro pins s σ H Q I h
  apply wpAny_Call_Name_kw
  apply ld_glob I gl hm _ h1
  refine PySem.W.callWith_K (h₀ := X.base) I.ok.mod.kin kp (thn (ha.run pos pins s σ H _ I h) ?_) h2 h3
  rintro us s1 ⟨vs, H1, I1, rv, q⟩
  exact ⟨I1.kIn, run_g F gA room bnd dv tk I1 rv q⟩
end
/-! ### what a def promises, of data: arguments, objects, what is wished of the value and the objects behind, of an exception -/
abbrev DSp := List DV → List OB → (DV → List OB → Prop) → (XD → List OB → Prop) → Prop
def SpD (K : PySem.W.Frag) (n : Nat) (sp : DSp) : Sp := fun vs H Q E => ∃ (F G : Hp) (as : List Addr) (dvs : List DV) (ob : List OB) (R : DV → List OB → Prop) (X : XD → List OB → Prop),
  Mem K F G H as ob ∧ RepVs K G as vs dvs ∧ dvs.length = n ∧ sp dvs ob R X ∧
  (∀ (dv : DV) (ob' : List OB) (v : V) (G' H' : Hp) (as' : List Addr), R dv ob' → Mem K F G' H' as' ob' → Nxt G as G' as' → RepV K G' as' v dv → Q v H') ∧
  (∀ (xd : XD) (ob' : List OB) (d : Option Addr) (G' H' : Hp) (as' : List Addr), X xd ob' → Mem K F G' H' as' ob' → Nxt G as G' as' → XRep K G' H' as' d xd.fs → E (.ref xd.cls) d H')
def startS (N : List Str) (dvs : List DV) : List (Option DV) := dvs.map some ++ List.replicate (N.length - dvs.length) none
def ends (R : DV → List OB → Prop) (X : XD → List OB → Prop) : DEnds := ⟨fun ρ' => R (.d .none) ρ'.ob, fun dv ρ' => R dv ρ'.ob, fun _ => False, fun _ => False, fun xd ρ' => X xd ρ'.ob⟩

section
variable {P : Program} {w0 : World} {K : PySem.W.Frag} {mg : Str → Option Value} {base : Heap}
theorem start_ok {F G H : Hp} {as : List Addr} {N : List Str} {vs : List V} {dvs : List DV} {ob : List OB} (m : Mem K F G H as ob) (r : RepVs K G as vs dvs) : Ok K ⟨startS N dvs, ob⟩ (L2.start N vs) F G H as := by
  refine ⟨m, ?_, fun i dv e => ?_⟩
  · unfold startS L2.start
    rw [List.length_append, List.length_append, List.length_map, List.length_map, List.length_replicate, List.length_replicate, r.length]
  · have e : (startS N dvs)[i]? = some (some dv) := e
    unfold startS at e
    unfold L2.start
    by_cases hi : i < dvs.length
    · rw [List.getElem?_append_left (by rw [List.length_map]; exact hi), List.getElem?_map] at e
      cases q : dvs[i]? with
      | none =>
        rw [q] at e
        cases e
      | some x =>
        rw [q] at e
        cases e
        obtain ⟨u, h1, h2⟩ := r.get q
        refine ⟨u, ?_, h2⟩
        rw [List.getElem?_append_left (by rw [List.length_map, r.length]; exact hi), List.getElem?_map, h1]
        rfl
    · rw [List.getElem?_append_right (by rw [List.length_map]; omega)] at e
      have := List.mem_of_getElem? e
      rw [List.mem_replicate] at this
      cases this.2
theorem ok_def {x qual : Str} {st : Stmt} {f : Addr} {fd : FuncData} {N ps : List Str} {k : Nat} {sp : DSp} {w : WS} (F : Fun K x qual st f fd) (S : FnScope N ps (defScope st))
    (hb : PDSs ⟨P, w0, K, mg, base, N, defScope st, k, true⟩ (defBody st) w) (hsp : ∀ dvs ob R X, dvs.length = ps.length → sp dvs ob R X → w (ends R X) ⟨startS N dvs, ob⟩) :
    FnG P w0 K mg base (k + 1) f fd ps (SpD K ps.length sp) := by
  obtain ⟨t, ht, hd⟩ := hb
  refine fng_mk F S (fun vs H Q E h => ?_) (fun cdv A outer s H vs Q E hga hr h => ?_)
  · obtain ⟨F, G, as, dvs, ob, R, X, _, r, l, _⟩ := h
    rw [r.length]
    exact l
  · obtain ⟨F, G, as, dvs, ob, R, X, m, r, l, hs, hR, hX⟩ := h
    refine ⟨t fun cls d _ H => E cls d H, ht _ _ ⟨rfl, rfl, rfl, rfl, rfl, rfl, rfl, rfl, hr, S.nd, fun _ _ => rfl, passes_of rfl, hga⟩ (takes_of rfl rfl rfl rfl), ?_⟩
    refine hd _ _ (hsp dvs ob R X l hs) _ _ F G H as (start_ok m r) (fun xd ρ' σ' d G' H' as' q o n xr => hX xd _ d G' H' as' q o.mem n xr) _ ⟨?_, ?_, ?_, ?_⟩
    · exact fun ρ' σ' G' H' as' q o n => hR _ _ _ G' H' as' q o.mem n .non
    · exact fun dv ρ' σ' v G' H' as' q o n rv => hR _ _ _ G' H' as' q o.mem n rv
    · exact fun ρ' σ' G' H' as' q o n => q.elim
    · exact fun ρ' σ' G' H' as' q o n => q.elim
end

/-! ### the call of a def -/
open Classical in
/-- what of H a callee with the objects as may not touch -/
noncomputable def rest (G H : Hp) (as : List Addr) : Hp := fun a => if G a = none ∧ a ∉ as ∧ (∀ o, H a = some o → NoT o) then H a else none
theorem rest_le {G H : Hp} {as : List Addr} : Same (rest G H as) H := fun a o e => by
  unfold rest at e
  split at e
  · exact e
  · cases e
theorem rest_gf {G H : Hp} {as : List Addr} (a : Addr) (o : HO) (e : rest G H as a = some o) : G a = none := by
  unfold rest at e
  split at e
  · rename_i h
    exact h.1
  · cases e
theorem rest_ft {G H : Hp} {as : List Addr} (a : Addr) (o : HO) (e : rest G H as a = some o) : NoT o := by
  unfold rest at e
  split at e
  · rename_i h
    exact h.2.2 o e
  · cases e
theorem rest_as {G H : Hp} {as : List Addr} {a : Addr} (h : a ∈ as) : rest G H as a = none := by
  unfold rest
  rw [if_neg fun z => z.2.1 h]
theorem rest_get {G H : Hp} {as : List Addr} {a : Addr} {o : HO} (hg : G a = none) (h : a ∉ as) (e : H a = some o) (n : NoT o) : rest G H as a = some o := by
  unfold rest
  rw [if_pos ⟨hg, h, fun u q => by rw [e] at q; cases q; exact n⟩]
  exact e

/-- objects of one's own named below n -/
def belV (n : Nat) : DV → Bool
  | .d _ => true
  | .o k => decide (k < n)
def belB (n : Nat) : OB → Bool
  | .lst xs => xs.all (belV n)
  | .dk kvs => kvs.all fun p => belV n p.2
  | .dt kvs => kvs.all fun p => belV n p.2
  | .st _ => true
  | .gone => true
section
variable {K : PySem.W.Frag} {F G G' H H' : Hp} {as as' : List Addr}
theorem RepV.cut {n : Nat} (h : ∀ k, k < n → as'[k]? = as[k]?) {v : V} : ∀ {x : DV}, belV n x = true → RepV K G as v x → RepV K G as' v x
  | .d _, _, r => r
  | .o k, b, ⟨a, e, q⟩ => ⟨a, by rw [h k (of_decide_eq_true b)]; exact e, q⟩
theorem RepVs.cut {n : Nat} (h : ∀ k, k < n → as'[k]? = as[k]?) : ∀ {v : List V} {x : List DV}, x.all (belV n) = true → RepVs K G as v x → RepVs K G as' v x
  | _, _, _, .nil => .nil
  | _, _, b, .cons r rs => by
    rw [List.all_cons, Bool.and_eq_true] at b
    exact .cons (r.cut h b.1) (RepVs.cut h b.2 rs)
theorem ObAt.cut {n : Nat} (h : ∀ k, k < n → as'[k]? = as[k]?) {a : Addr} : ∀ {x : OB}, belB n x = true → ObAt K G H as a x → ObAt K G H as' a x
  | .lst _, b, ⟨vs, e, r⟩ => ⟨vs, e, r.cut h b⟩
  | .dk kvs, b, ⟨vs, e, e2, r⟩ => ⟨vs, e, e2, r.cut h (by simpa [belB, List.all_map] using b)⟩
  | .dt kvs, b, ⟨vs, e, e2, r⟩ => ⟨vs, e, e2, r.cut h (by simpa [belB, List.all_map] using b)⟩
  | .st _, _, r => r
  | .gone, _, _ => trivial
theorem take_get {α : Type} {l : List α} {n k : Nat} (h : k < n) : (l.take n)[k]? = l[k]? := by
  rw [List.getElem?_take_of_lt h]
/-- into the call: the first n objects go along -/
theorem Mem.into {ob : List OB} (m : Mem K F G H as ob) (n : Nat) (hb : (ob.take n).all (belB n) = true) : Mem K (rest G H (as.take n)) G H (as.take n) (ob.take n) := by
  refine ⟨m.gh, rest_le, rest_gf, m.nd.sublist (List.take_sublist _ _), by rw [List.length_take, List.length_take, m.len], fun a ha => m.al a (List.mem_of_mem_take ha), rest_ft, m.tb, fun a ha => rest_as ha, fun k a x e1 e2 e3 => ?_, fun k a x e1 e2 => ?_⟩
  · have hk : k < n := by
      have := (List.getElem?_eq_some_iff.mp e1).1
      rw [List.length_take] at this
      omega
    rw [take_get hk] at e1 e2
    exact m.own k a x e1 e2 e3
  · have hk : k < n := by
      have := (List.getElem?_eq_some_iff.mp e1).1
      rw [List.length_take] at this
      omega
    have hx : belB n x = true := List.all_eq_true.mp hb x (List.mem_of_getElem? e2)
    rw [take_get hk] at e1 e2
    exact (m.at_ k a x e1 e2).cut (fun j hj => take_get hj) hx
/-- behind the call -/
theorem Mem.outof {ob ob' : List OB} {n : Nat} (m : Mem K F G H as ob) (hn : n ≤ ob.length) (m' : Mem K (rest G H (as.take n)) G' H' as' ob') (x : Nxt G (as.take n) G' as') (hl : n ≤ ob'.length) (hb : (ob'.take n).all (belB n) = true) :
    Mem K F G' H' as (ob'.take n ++ ob.drop n) := by
  have hna : n ≤ as.length := by rw [m.len]; exact hn
  obtain ⟨r, er⟩ := x.a
  have pre : ∀ k, k < n → as[k]? = as'[k]? := fun k hk => by
    rw [er, List.getElem?_append_left (by rw [List.length_take]; omega), take_get hk]
  have stay : ∀ a o, H a = some o → a ∉ as.take n → NoT o → H' a = some o := fun a o e ha hn => by
    cases q : G a with
    | some o' =>
      have e1 := m.gh a o' q
      rw [e] at e1
      cases e1
      exact m'.gh a o (x.g a o q)
    | none => exact m'.fh a o (rest_get q ha e hn)
  have spl : ∀ {k : Nat} {y : OB}, (ob'.take n ++ ob.drop n)[k]? = some y → (k < n ∧ ob'[k]? = some y) ∨ (n ≤ k ∧ ob[k]? = some y) := fun {k y} e => by
    have l1 : (ob'.take n).length = n := by rw [List.length_take]; omega
    by_cases hk : k < n
    · rw [List.getElem?_append_left (by omega), take_get hk] at e
      exact .inl ⟨hk, e⟩
    · rw [List.getElem?_append_right (by omega), l1, List.getElem?_drop] at e
      refine .inr ⟨by omega, ?_⟩
      rw [show n + (k - n) = k by omega] at e
      exact e
  have far : ∀ {k : Nat} {a : Addr}, as[k]? = some a → n ≤ k → a ∉ as.take n := fun {k a} e hk hm => by
    obtain ⟨j, hj⟩ := List.getElem?_of_mem hm
    have jl : j < n := by
      have := (List.getElem?_eq_some_iff.mp hj).1
      rw [List.length_take] at this
      omega
    rw [take_get jl] at hj
    have := nd_ixA m.nd e hj
    omega
  refine ⟨m'.gh, fun a o e => ?_, fun a o e => ?_, m.nd, ?_, fun a ha => ?_, m.ft, m'.tb, m.ofr, fun k a y e1 e2 e3 => ?_, fun k a y e1 e2 => ?_⟩
  · exact stay a o (m.fh a o e) (fun hm => by
      rw [m.ofr a (List.mem_of_mem_take hm)] at e
      cases e) (m.ft a o e)
  · have hm : a ∉ as.take n := fun hm => by
      rw [m.ofr a (List.mem_of_mem_take hm)] at e
      cases e
    exact m'.gf a o (rest_get (m.gf a o e) hm (m.fh a o e) (m.ft a o e))
  · rw [List.length_append, List.length_take, List.length_drop, m.len]
    omega
  · obtain ⟨o, e, hno⟩ := m.al a ha
    by_cases hm : a ∈ as.take n
    · exact m'.al a (by rw [er]; exact List.mem_append_left _ hm)
    · exact ⟨o, stay a o e hm hno, hno⟩
  · rcases spl e2 with ⟨hk, e⟩ | ⟨hk, e⟩
    · exact m'.own k a y (by rw [← pre k hk]; exact e1) e e3
    · obtain ⟨o, eo, hno⟩ := m.al a (List.mem_of_getElem? e1)
      exact m'.gf a o (rest_get (m.own k a y e1 e e3) (far e1 hk) eo hno)
  · rcases spl e2 with ⟨hk, e⟩ | ⟨hk, e⟩
    · have hx : belB n y = true := by
        have l1 : (ob'.take n)[k]? = some y := by rw [take_get hk]; exact e
        exact List.all_eq_true.mp hb y (List.mem_of_getElem? l1)
      exact (m'.at_ k a y (by rw [← pre k hk]; exact e1) e).cut pre hx
    · exact (m.at_ k a y e1 e).mono ⟨x.g, [], (List.append_nil as).symm⟩ fun o q => stay a o q (far e1 hk) (by
        obtain ⟨u, eu, hno⟩ := m.al a (List.mem_of_getElem? e1)
        rw [q] at eu
        cases eu
        exact hno)
end

def isD : DV → Bool
  | .d _ => true
  | .o _ => false
def xdD (xd : XD) : Bool := match xd.fs with
  | none => true
  | some l => l.all fun p => isD p.2
section
variable {K : PySem.W.Frag} {F G G' H H' : Hp} {as as' : List Addr}
theorem RepV.data {v : V} : ∀ {x : DV}, isD x = true → RepV K G as v x → RepV K G as' v x
  | .d _, _, r => r
theorem RepVs.data : ∀ {v : List V} {x : List DV}, x.all isD = true → RepVs K G as v x → RepVs K G as' v x
  | _, _, _, .nil => .nil
  | _, _, b, .cons r rs => by
    rw [List.all_cons, Bool.and_eq_true] at b
    exact .cons (r.data b.1) (RepVs.data b.2 rs)
theorem XRep.data {d : Option Addr} {xd : XD} (h : xdD xd = true) (r : XRep K G H as d xd.fs) : XRep K G H as' d xd.fs := by
  unfold xdD at h
  cases e : xd.fs with
  | none =>
    rw [e] at r
    exact r
  | some l =>
    rw [e] at r h
    obtain ⟨dd, ws, e1, e2, e3, e4⟩ := r
    exact ⟨dd, ws, e1, e2, e3, e4.data (by simpa [List.all_map] using h)⟩
end
/-- what a call is worth: the first n objects go along; data come back -/
def callD (n : Nat) (sp : DSp) (xs : List DV) (ρ1 : S) (Q : QD) (X : QX) : Prop := xs.all (belV n) = true ∧ n ≤ ρ1.ob.length ∧ (ρ1.ob.take n).all (belB n) = true ∧
  sp xs (ρ1.ob.take n) (fun dv ob' => isD dv = true ∧ n ≤ ob'.length ∧ (ob'.take n).all (belB n) = true ∧ Q dv ⟨ρ1.sl, ob'.take n ++ ρ1.ob.drop n⟩)
    (fun xd ob' => xdD xd = true ∧ n ≤ ob'.length ∧ (ob'.take n).all (belB n) = true ∧ X xd ⟨ρ1.sl, ob'.take n ++ ρ1.ob.drop n⟩)
def wCall (n : Nat) (sp : DSp) (w : WA) : WE := fun ρ Q X => w ρ (fun xs ρ1 => callD n sp xs ρ1 Q X) X
/-- .. with keywords alone: the parameter j has the keyword number pi[j] -/
def wCallK (n : Nat) (sp : DSp) (pi : List Nat) (w : WA) : WE := fun ρ Q X => w ρ (fun xs ρ1 => xs.length = pi.length ∧ callD n sp (pi.map fun j => xs.getD j (.d .none)) ρ1 Q X) X
/-- what a def's promise is, with all that its call wants -/
structure Def (T : Sta) (x : Str) (st : Stmt) (ps : List Str) (sp : DSp) : Prop where
  ex : ∃ (k : Nat) (f : Addr) (fd : FuncData), k ≤ T.k ∧ FnG T.P T.w T.K T.mg T.base k f fd ps (SpD T.K ps.length sp) ∧ T.mg x = some (.ref f) ∧ PySem.W.keepIn T.K (.ref f) = true ∧ Binds T.K fd ps [] ∧ Fun T.K x x st f fd
  len : ∀ ys ob R X, sp ys ob R X → ys.length = ps.length
section
variable {T : Sta} {pos : Pos} {a b c e : Expr} {es : List Expr} {wa wb wc we : WE} {w : WA} {wt wu : WT}
theorem take_len {α : Type} {l : List α} {n : Nat} (h : n ≤ l.length) : (l.take n).length = n := by rw [List.length_take]; omega
theorem callD_ok {K : PySem.W.Frag} {n m : Nat} {sp : DSp} {xs : List DV} {ρ1 : S} {Q : QD} {X : QX} {W : WX} {C : VK} {σ : St} {F G1 H1 : Hp} {as1 : List Addr} {vs : List V} (ok1 : Ok K ρ1 σ F G1 H1 as1) (acc : AccE K F G1 as1 σ W X) (kk : Kv K F G1 as1 σ Q C) (r1 : RepVs K G1 as1 vs xs)
    (hm : xs.length = m) (h1 : callD n sp xs ρ1 Q X) : SpD K m sp vs H1 C (L2.WE W σ) := by
  obtain ⟨b1, b2, b3, hs⟩ := h1
  have pre : ∀ k, k < n → (as1.take n)[k]? = as1[k]? := fun k hk => take_get hk
  refine ⟨rest G1 H1 (as1.take n), G1, as1.take n, xs, ρ1.ob.take n, _, _, ok1.mem.into n b3, r1.cut pre b1, hm, hs, fun dv ob' v G' H' as' q m' n' rv => ?_, fun xd ob' d G' H' as' q m' n' rx => ?_⟩
  · obtain ⟨q1, q2, q3, q4⟩ := q
    have m2 := ok1.mem.outof b2 m' n' q2 q3
    refine kk dv _ v G' H' as1 q4 ⟨m2, ok1.sll, fun i dx e => ?_⟩ ⟨n'.g, [], (List.append_nil _).symm⟩ (rv.data q1)
    obtain ⟨u, e1, r⟩ := ok1.sl i dx e
    exact ⟨u, e1, r.mono ⟨n'.g, [], (List.append_nil _).symm⟩⟩
  · obtain ⟨q1, q2, q3, q4⟩ := q
    have m2 := ok1.mem.outof b2 m' n' q2 q3
    refine acc xd _ d G' H' as1 q4 ⟨m2, ok1.sll, fun i dx e => ?_⟩ ⟨n'.g, [], (List.append_nil _).symm⟩ (XRep.data q1 rx)
    obtain ⟨u, e1, r⟩ := ok1.sl i dx e
    exact ⟨u, e1, r.mono ⟨n'.g, [], (List.append_nil _).symm⟩⟩
theorem pd_call {x : Str} {p : Pos} {ps : List Str} {st : Stmt} {sp : DSp} (n : Nat) (D : Def T x st ps sp) (hg : T.sc.names.lookup x = some .globalImplicit) (ha : PDA T (e :: es) w)
    (hdb : (x == ("__debug__" : Str)) = false := by decide) (he : ∀ env, starEach (e :: es) env = (false, eval e env) :: starEach es env := by intro _; rfl) (hpl : ∀ env, (backTo pos (starEach es env)).any (·.1) = false := by intro _; rfl) :
    PD T (.Call (.Name x p) (e :: es) [] pos) (wCall n sp w) := by
  obtain ⟨⟨k, f, fd, hk, Fn, hm, hkp, hb, _⟩, hlen⟩ := D
  obtain ⟨ta, ha, da⟩ := ha
  refine ⟨fun W => tCallG (SpD T.K ps.length sp) [] W (ta W), fun W X g tk => ?_, fun ρ Q X h W σ F G H as ok acc C kk => ?_⟩
  · obtain ⟨h1, h2, h3, h4, h5, h6, h7, h8, h9, h10, h11, h12, h13⟩ := g
    have ha' := ha W X ⟨h1, h2, h3, h4, h5, h6, h7, h8, h9, h10, h11, h12, h13⟩ tk
    obtain ⟨TP, Tw, TK, Tmg, Tb, TN, Tsc, Tk, Tt⟩ := T
    simp only at h1 h2 h3 h4 h5 h6 h7 h8 h9 h10 h11 h12 h13 hk Fn hm hkp hb hg
    subst h1 h2 h3 h4 h5 h6 h7
    exact pe_callG Fn h13 (h9.mono hk) hg hm hkp hb .nil tk ha' hdb (he _) (hpl _)
  · refine da _ _ _ h W σ F G H as ok acc _ fun xs ρ1 vs G1 H1 as1 h1 ok1 n1 r1 => ?_
    show SpD T.K ps.length sp (vs ++ []) H1 C (L2.WE W σ)
    rw [List.append_nil]
    exact callD_ok ok1 (acc.next n1) (kk.next n1) r1 (hlen _ _ _ _ h1.2.2.2) h1

/-! ### keywords alone -/
def PDK (T : Sta) (kws : List Keyword) (w : WA) : Prop := ∃ t : WX → TA, (∀ W X, Good T X → Takes X W → PK X kws (t W)) ∧ ∀ ρ Q X, w ρ Q X → DA T.K t ρ Q X
theorem pdk_nil : PDK T [] (fun ρ Q _ => Q [] ρ) := ⟨fun _ => tNil, fun _ _ _ _ => pk_nil, fun ρ Q X h W σ F G H as ok acc C k => k [] ρ [] G H as h ok (Nxt.refl _ _) .nil⟩
theorem pdk_cons {nm : Option Str} {kpos : Pos} {kws : List Keyword} (ha : PD T e wa) (hr : PDK T kws w) : PDK T (⟨nm, e, kpos⟩ :: kws) (fun ρ Q X => wa ρ (fun x ρ1 => w ρ1 (fun xs ρ2 => Q (x :: xs) ρ2) X) X) := by
  obtain ⟨ta, ha, da⟩ := ha
  obtain ⟨tr, hr, dr⟩ := hr
  refine ⟨fun W => tCons (ta W) (tr W), fun W X g tk => pk_cons (ha W X g tk) (hr W X g tk), fun ρ Q X h W σ F G H as ok acc C k => ?_⟩
  refine da _ _ _ h W σ F G H as ok acc _ fun x ρ1 v G1 H1 as1 h1 ok1 n1 r1 => ?_
  refine dr _ _ _ h1 W σ F G1 H1 as1 ok1 (acc.next n1) _ fun xs ρ2 vs G2 H2 as2 h2 ok2 n2 r2 => ?_
  exact k (x :: xs) ρ2 (v :: vs) G2 H2 as2 h2 ok2 (n1.trans n2) (.cons (r1.mono n2) r2)
def tCallGK (sp : Sp) (pi : List Nat) (W : WX) (t : TA) : TE := fun σ H Q => t σ H fun vs H1 => vs.length = pi.length ∧ sp (pi.map fun j => vs.getD j .non) H1 Q (L2.WE W σ)
theorem vals_getD {vs : List V} {us : List Value} (r : Vals vs us) (j : Nat) : RelV (vs.getD j .non) (us.getD j .none) := by
  rw [List.getD_eq_getElem?_getD, List.getD_eq_getElem?_getD]
  cases e : vs[j]? with
  | none =>
    have : us[j]? = none := by
      rw [List.getElem?_eq_none_iff] at e ⊢
      rw [← r.length]
      exact e
    rw [this]
    rfl
  | some v =>
    obtain ⟨u, h1, h2⟩ := r.get e
    rw [h1]
    exact h2
theorem vals_pi {vs : List V} {us : List Value} (r : Vals vs us) : ∀ pi : List Nat, Vals (pi.map fun j => vs.getD j .non) (pi.map fun j => us.getD j .none)
  | [] => .nil
  | j :: pi => .cons (vals_getD r j) (vals_pi r pi)
theorem pe_callGK {X : Cx} {k : Nat} {f : Addr} {fd : FuncData} {ps ks : List Str} {sp : Sp} {W : WX} {x : Str} {p pos : Pos} {kws : List Keyword} {t : TA} {pi : List Nat} (F : FnG X.prog X.w X.K X.mg X.base k f fd ps sp) (gA : X.A.guards = some []) (room : Room k X.A) (gl : Gl X x) (hm : X.mg x = some (.ref f))
    (kp : PySem.W.keepIn X.K (.ref f) = true) (bnd : ∀ (s : Shared) (us : List Value), us.length = pi.length → BindsTo s fd ⟨[], ks.zip us⟩ (ps.zip (pi.map fun j => us.getD j .none))) (tk : Takes X W) (hk : PK X kws t) (h1 : (x == ("__debug__" : Str)) = false)
    (hall : (backToKw pos (keywordEach kws X.env)).all (·.1.isSome) = true) (hks : (backToKw pos (keywordEach kws X.env)).filterMap (·.1) = ks) (hpl : ((backTo pos (starEach [] X.env)).any (·.1) || (backToKw pos (keywordEach kws X.env)).any (·.1.isNone)) = false) :
    PE X (.Call (.Name x p) [] kws pos) (tCallGK sp pi W t) := by
  constructor
  intro pins s σ H Q I h
  refine wpAny_Call_Name_kw (ld_glob I gl hm ?_ h1)
  refine PySem.W.callWith_KW0 (h₀ := X.base) I.ok.mod.kin kp hall (thn (hk.run pos pins s σ H _ I h) ?_) hpl
  rintro us s1 ⟨vs, H1, I1, rv, hl, q⟩
  refine ⟨I1.kIn, ?_⟩
  rw [hks]
  show wpAny (model X.prog X.w) X.A (call (.ref f) ([] ++ []) (ks.zip us)) (EP X pins σ Q) X.xe s1
  have ul : us.length = pi.length := by rw [← rv.length]; exact hl
  have rp := vals_pi rv pi
  refine wpAny_call (codeAny_mono (F.run X.A gA room X.stack s1 H1 I1.env0 ⟨[], ks.zip us⟩ _ _ (bnd s1 us ul) rp Q _ q) fun r s2 out => ?_)
  match r, out with
  | .error e, out => exact passAt tk σ pins H1 s1 e s2 I1 out
  | .ok (.ret u), out => exact I1.after out
theorem repVs_getD {K : PySem.W.Frag} {G : Hp} {as : List Addr} {vs : List V} {xs : List DV} (r : RepVs K G as vs xs) (j : Nat) : RepV K G as (vs.getD j .non) (xs.getD j (.d .none)) := by
  rw [List.getD_eq_getElem?_getD, List.getD_eq_getElem?_getD]
  cases e : xs[j]? with
  | none =>
    have : vs[j]? = none := by
      rw [List.getElem?_eq_none_iff] at e ⊢
      rw [r.length]
      exact e
    rw [this]
    exact .non
  | some v =>
    obtain ⟨u, h1, h2⟩ := r.get e
    rw [h1]
    exact h2
theorem repVs_pi {K : PySem.W.Frag} {G : Hp} {as : List Addr} {vs : List V} {xs : List DV} (r : RepVs K G as vs xs) : ∀ pi : List Nat, RepVs K G as (pi.map fun j => vs.getD j .non) (pi.map fun j => xs.getD j (.d .none))
  | [] => .nil
  | j :: pi => .cons (repVs_getD r j) (repVs_pi r pi)
theorem pd_callK {x : Str} {p : Pos} {ps ks : List Str} {st : Stmt} {sp : DSp} {kws : List Keyword} (n : Nat) (pi : List Nat) (D : Def T x st ps sp) (hg : T.sc.names.lookup x = some .globalImplicit) (ha : PDK T kws w)
    (hb : ∀ (kV doc pm : Value) (an : Option Addr) (cdv ct : Value) (us : List Value), us.length = pi.length → bindArgs (PySem.W.fnOf x x (defArgs st) (defBody st) (defScope st) .none kV doc pm an cdv ct) ⟨[], ks.zip us⟩ = pure (ps.zip (pi.map fun j => us.getD j .none)))
    (hks : ∀ env, (backToKw pos (keywordEach kws env)).filterMap (·.1) = ks := by intro _; rfl) (hall : ∀ env, (backToKw pos (keywordEach kws env)).all (·.1.isSome) = true := by intro _; rfl)
    (hpl : ∀ env, ((backTo pos (starEach [] env)).any (·.1) || (backToKw pos (keywordEach kws env)).any (·.1.isNone)) = false := by intro _; rfl) (hdb : (x == ("__debug__" : Str)) = false := by decide) :
    PD T (.Call (.Name x p) [] kws pos) (wCallK n sp pi w) := by
  obtain ⟨⟨k, f, fd, hk, Fn, hm, hkp, _, Fu⟩, hlen⟩ := D
  obtain ⟨ta, ha, da⟩ := ha
  refine ⟨fun W => tCallGK (SpD T.K ps.length sp) pi W (ta W), fun W X g tk => ?_, fun ρ Q X h W σ F G H as ok acc C kk => ?_⟩
  · obtain ⟨h1, h2, h3, h4, h5, h6, h7, h8, h9, h10, h11, h12, h13⟩ := g
    have ha' := ha W X ⟨h1, h2, h3, h4, h5, h6, h7, h8, h9, h10, h11, h12, h13⟩ tk
    obtain ⟨TP, Tw, TK, Tmg, Tb, TN, Tsc, Tk, Tt⟩ := T
    simp only at h1 h2 h3 h4 h5 h6 h7 h8 h9 h10 h11 h12 h13 hk Fn hm hkp Fu hg
    subst h1 h2 h3 h4 h5 h6 h7
    obtain ⟨oc, od, kV, doc, pm, an, cdv, ct, osl, rfl, _, _⟩ := Fu.ex
    exact pe_callGK Fn h13 (h9.mono hk) hg hm hkp (fun s us hl => .of_eq (hb kV doc pm an cdv ct us hl)) tk ha' hdb (hall _) (hks _) (hpl _)
  · refine da _ _ _ h W σ F G H as ok acc _ fun xs ρ1 vs G1 H1 as1 h1 ok1 n1 r1 => ⟨by rw [r1.length]; exact h1.1, ?_⟩
    exact callD_ok ok1 (acc.next n1) (kk.next n1) (repVs_pi r1 pi) (hlen _ _ _ _ h1.2.2.2.2) h1.2
end
end DL
end

section
set_option Elab.async false
set_option linter.all false
set_option maxRecDepth 100000
set_option maxHeartbeats 1000000
set_option autoImplicit false
namespace DL
variable [Tab0]
open PySem PySem.Spec PyProof.Rows L2

section
variable {T : Sta} {pos : Pos} {a b c e : Expr} {es : List Expr} {wa wb wc we : WE} {w : WA} {wt wu : WT} {st : Stmt} {rest : List Stmt} {w1 w2 w3 : WS} {K : PySem.W.Frag}

/-! ### blocks -/
def wNext : WS := fun E ρ => E.nx ρ
def wSeq (w u : WS) : WS := fun E ρ => w { E with nx := fun ρ' => u E ρ' } ρ
theorem pdss_nil : PDSs T [] wNext := ⟨fun _ => tNext, fun _ _ _ _ => pss_nil, fun ρ E h W σ F G H as ok acc D l => l.nx ρ σ G H as h ok (Nxt.refl _ _)⟩
theorem pdss_one (h : PDS T st w1) : PDSs T [st] w1 := by
  obtain ⟨t, ht, d⟩ := h
  exact ⟨t, fun W X g tk => pss_one (ht W X g tk), d⟩
theorem pdss_cons (h1 : PDS T st w1) (h2 : PDSs T rest w2) : PDSs T (st :: rest) (wSeq w1 w2) := by
  obtain ⟨t1, ht1, d1⟩ := h1
  obtain ⟨t2, ht2, d2⟩ := h2
  refine ⟨fun W => tSeq (t1 W) (t2 W), fun W X g tk => pss_cons (ht1 W X g tk) (ht2 W X g tk), fun ρ E h W σ F G H as ok acc D l => ?_⟩
  exact d1 ρ { E with nx := fun ρ' => w2 E ρ' } h W σ F G H as ok acc { D with nx := t2 W D }
    ⟨fun ρ' σ' G' H' as' q o n => d2 ρ' E q W σ' F G' H' as' o (acc.next n) D (l.next n), l.rt, l.bk, l.ct⟩
def wPass : WS := fun E ρ => E.nx ρ
def wBrk : WS := fun E ρ => E.bk ρ
def wCont : WS := fun E ρ => E.ct ρ
theorem pds_pass : PDS T (.Pass pos) wPass := ⟨fun _ => tNext, fun _ _ _ _ => ps_pass, fun ρ E h W σ F G H as ok acc D l => l.nx ρ σ G H as h ok (Nxt.refl _ _)⟩
theorem pds_break : PDS T (.Break pos) wBrk := ⟨fun _ => tBreak, fun _ _ _ _ => ps_break, fun ρ E h W σ F G H as ok acc D l => l.bk ρ σ G H as h ok (Nxt.refl _ _)⟩
theorem pds_continue : PDS T (.Continue pos) wCont := ⟨fun _ => tCont, fun _ _ _ _ => ps_continue, fun ρ E h W σ F G H as ok acc D l => l.ct ρ σ G H as h ok (Nxt.refl _ _)⟩
def wRet (wa : WE) : WS := fun E ρ => wa ρ E.rt E.xr
theorem pds_ret (ha : PD T a wa) : PDS T (.Return (some a) pos) (wRet wa) := by
  obtain ⟨t, ht, d⟩ := ha
  exact ⟨fun W => tRet (t W), fun W X g tk => ps_ret (ht W X g tk), fun ρ E h W σ F G H as ok acc D l =>
    d _ _ _ h W σ F G H as ok (acc.at σ) _ fun dv ρ' v G' H' as' q o n r => l.rt dv ρ' σ v G' H' as' q o n r⟩
def wExp (wa : WE) : WS := fun E ρ => wa ρ (fun _ ρ' => E.nx ρ') E.xr
theorem pds_expr (ha : PD T a wa) (hs : ∀ env, swapsWith a none pos.line env = pure false := by intro _; rfl) : PDS T (.Expr a pos) (wExp wa) := by
  obtain ⟨t, ht, d⟩ := ha
  exact ⟨fun W => tDrop (t W), fun W X g tk => ps_expr (ht W X g tk) (hs _), fun ρ E h W σ F G H as ok acc D l =>
    d _ _ _ h W σ F G H as ok (acc.at σ) _ fun dv ρ' v G' H' as' q o n r => l.nx ρ' σ G' H' as' q o n⟩
def wIf (wt : WT) (w1 w2 : WS) : WS := fun E ρ => wt ρ (fun b ρ' => match b with
  | true => w1 E ρ'
  | false => w2 E ρ') E.xr
theorem pds_if {t1 t2 : List Stmt} (hc : PDT T c wt) (ha : PDSs T t1 w1) (hb : PDSs T t2 w2) : PDS T (.If c t1 t2 pos) (wIf wt w1 w2) := by
  obtain ⟨tc, hc, dc⟩ := hc
  obtain ⟨ta, ha, da⟩ := ha
  obtain ⟨tb, hb, db⟩ := hb
  refine ⟨fun W => tIfS (tc W) (ta W) (tb W), fun W X g tk => ps_if (hc W X g tk) (ha W X g tk) (hb W X g tk), fun ρ E h W σ F G H as ok acc D l => ?_⟩
  refine dc _ _ _ h W σ F G H as ok (acc.at σ) _ fun x ρ1 G1 H1 as1 h1 ok1 n1 => ?_
  cases x with
  | true => exact iteT (da _ _ h1 W σ F G1 H1 as1 ok1 (acc.next n1) D (l.next n1))
  | false => exact iteF (db _ _ h1 W σ F G1 H1 as1 ok1 (acc.next n1) D (l.next n1))
/-- code that is not come to -/
def wNever : WS := fun _ _ => False
theorem pds_never : PDS T st wNever := ⟨fun _ => tNever, fun _ _ _ _ => ps_never, fun ρ E h => h.elim⟩
theorem pdss_never {sts : List Stmt} : PDSs T sts wNever := ⟨fun _ => tNever, fun _ _ _ _ => pss_never, fun ρ E h => h.elim⟩

/-! ### targets -/
abbrev WG := DV → S → (S → Prop) → Prop
abbrev WGs := List PyData → S → (S → Prop) → Prop
def Wi (js : List Nat) (σ σ' : St) : Prop := ∀ vs : List Nat, (∀ j ∈ js, j ∈ vs) → wipe σ' vs = wipe σ vs
theorem wipe_get : ∀ (vs : List Nat) (σ : St) (i : Nat), (wipe σ vs)[i]? = if i ∈ vs ∧ i < σ.length then some none else σ[i]?
  | [], σ, i => by simp [wipe]
  | v :: vs, σ, i => by
    unfold wipe
    have hl : (wipe σ vs).length = σ.length := wipe_length σ vs
    by_cases h : v = i
    · subst h
      by_cases h2 : v < σ.length
      · rw [List.getElem?_set_self (by rw [hl]; exact h2), if_pos ⟨List.mem_cons_self, h2⟩]
      · rw [if_neg (fun z => h2 z.2), List.getElem?_eq_none (by rw [List.length_set, hl]; omega), List.getElem?_eq_none (by omega)]
    · rw [List.getElem?_set_ne h, wipe_get vs σ i]
      have : (i ∈ v :: vs) ↔ i ∈ vs := by simp [Ne.symm h]
      simp only [this]
theorem wi_set {i : Nat} {σ : St} {x : Option V} : Wi [i] σ (σ.set i x) := fun vs h => by
  have hi : i ∈ vs := h i (by simp)
  apply List.ext_getElem?
  intro j
  rw [wipe_get, wipe_get, List.length_set]
  by_cases e : i = j
  · subst e
    by_cases h2 : i < σ.length
    · rw [if_pos ⟨hi, h2⟩, if_pos ⟨hi, h2⟩]
    · rw [if_neg (fun z => h2 z.2), if_neg (fun z => h2 z.2), List.getElem?_eq_none (by rw [List.length_set]; omega), List.getElem?_eq_none (by omega)]
  · rw [List.getElem?_set_ne e]
theorem wi_nil {σ : St} : Wi [] σ σ := fun _ _ => rfl
theorem Wi.trans {js ks : List Nat} {σ σ1 σ2 : St} (a : Wi js σ σ1) (b : Wi ks σ1 σ2) : Wi (js ++ ks) σ σ2 := fun vs h => (b vs fun j hj => h j (List.mem_append_right _ hj)).trans (a vs fun j hj => h j (List.mem_append_left _ hj))
def DG (K : PySem.W.Frag) (g : TG) (wg : WG) (js : List Nat) : Prop := ∀ (dv : DV) (ρ : S) (Q : S → Prop), wg dv ρ Q → ∀ (σ : St) (F G H : Hp) (as : List Addr) (v : V), Ok K ρ σ F G H as → RepV K G as v dv → ∀ C : L2.St → Hp → Prop,
  (∀ (ρ' : S) (σ' : St) (G' H' : Hp) (as' : List Addr), Q ρ' → Ok K ρ' σ' F G' H' as' → Nxt G as G' as' → Wi js σ σ' → C σ' H') → g v σ H C
def DGs (K : PySem.W.Frag) (g : TGs) (wg : WGs) (js : List Nat) : Prop := ∀ (ds : List PyData) (ρ : S) (Q : S → Prop), wg ds ρ Q → ∀ (σ : St) (F G H : Hp) (as : List Addr) (vs : List V), Ok K ρ σ F G H as → Reps K G vs ds → ∀ C : L2.St → Hp → Prop,
  (∀ (ρ' : S) (σ' : St) (G' H' : Hp) (as' : List Addr), Q ρ' → Ok K ρ' σ' F G' H' as' → Nxt G as G' as' → Wi js σ σ' → C σ' H') → g vs σ H C
def PDG (T : Sta) (tg : Expr) (wg : WG) (js : List Nat) : Prop := ∃ g : TG, (∀ X, Good T X → PG X tg g) ∧ DG T.K g wg js
def PDGs (T : Sta) (tg : List Expr) (wg : WGs) (js : List Nat) : Prop := ∃ g : TGs, (∀ X, Good T X → PGs X tg g) ∧ DGs T.K g wg js
theorem Ok.set {F G H : Hp} {as : List Addr} {ρ : S} {σ : St} {v : V} {dv : DV} (ok : Ok K ρ σ F G H as) (i : Nat) (r : RepV K G as v dv) : Ok K ⟨ρ.sl.set i (some dv), ρ.ob⟩ (σ.set i (some v)) F G H as := by
  refine ⟨ok.mem, by rw [List.length_set, List.length_set]; exact ok.sll, fun j dx e => ?_⟩
  have e : (ρ.sl.set i (some dv))[j]? = some (some dx) := e
  by_cases h : i = j
  · subst h
    have hl : i < ρ.sl.length := by
      have := (List.getElem?_eq_some_iff.mp e).1
      rwa [List.length_set] at this
    rw [List.getElem?_set_self hl] at e
    cases e
    exact ⟨v, by rw [List.getElem?_set_self (by rw [ok.sll]; exact hl)], r⟩
  · rw [List.getElem?_set_ne h] at e
    obtain ⟨u, e1, r1⟩ := ok.sl j dx e
    exact ⟨u, by rw [List.getElem?_set_ne h]; exact e1, r1⟩
def wgName (i : Nat) : WG := fun dv ρ Q => Q ⟨ρ.sl.set i (some dv), ρ.ob⟩
/-- a name of the def that is stored: all of a def's body may, a comprehension its own -/
def Sto (T : Sta) (x : Str) : Prop := (T.sc.names.lookup x = some .local) ∨ (T.top = true ∧ T.sc.names.lookup x = some .cell)
theorem Sto.loc {x : Str} (h : Sto T x) {X : Cx} (g : Good T X) : Loc X.env.scope x ∧ (X.fn x = true ∨ X.env.scope.names.lookup x = some .local) := by
  rw [g.sc]
  rcases h with h | ⟨h1, h2⟩
  · exact ⟨.inl h, .inr h⟩
  · exact ⟨.inr h2, .inl (g.fn h1 x)⟩
theorem pdg_name {x : Str} (i : Nat) (hN : T.N[i]? = some x := by rfl) (hx : Sto T x := by first | exact Or.inl rfl | exact Or.inr ⟨rfl, rfl⟩) : PDG T (.Name x pos) (wgName i) [i] :=
  ⟨gName i, fun X g => pg_name (by rw [g.N]; exact g.nd) (by rw [g.N]; exact hN) (hx.loc g).1 (hx.loc g).2, fun dv ρ Q h σ F G H as v ok r C k => k _ _ G H as h (ok.set i r) (Nxt.refl _ _) wi_set⟩
def wgNil : WGs := fun ds ρ Q => match ds with
  | [] => Q ρ
  | _ => False
def wgCons (wg : WG) (wr : WGs) : WGs := fun ds ρ Q => match ds with
  | x :: r => wg (.d x) ρ fun ρ1 => wr r ρ1 Q
  | [] => False
theorem pdgs_nil : PDGs T [] wgNil [] := ⟨gNil, fun _ _ => pgs_nil, fun ds ρ Q h σ F G H as vs ok r C k => by
  match ds, h, r with
  | [], h, .nil => exact ⟨rfl, k ρ σ G H as h ok (Nxt.refl _ _) wi_nil⟩⟩
theorem pdgs_cons {wg : WG} {wr : WGs} {js ks : List Nat} (h1 : PDG T e wg js) (h2 : PDGs T es wr ks) (hs : ∀ env, (assignEach (e :: es) env).map (·.2) = assign e env :: (assignEach es env).map (·.2) := by intro _; rfl) : PDGs T (e :: es) (wgCons wg wr) (js ++ ks) := by
  obtain ⟨g, hg, dg⟩ := h1
  obtain ⟨gs, hgs, dgs⟩ := h2
  refine ⟨gCons g gs, fun X gd => pgs_cons (hg X gd) (hgs X gd) (hs _), fun ds ρ Q h σ F G H as vs ok r C k => ?_⟩
  match ds, h, r with
  | x :: ds, h, .cons (v := v) (vs := vs) r1 rr =>
    refine ⟨v, vs, rfl, dg (.d x) ρ _ h σ F G H as v ok r1 _ fun ρ1 σ1 G1 H1 as1 q1 ok1 n1 w1 => ?_⟩
    exact dgs ds ρ1 Q q1 σ1 F G1 H1 as1 vs ok1 (rr.mono n1.g) _ fun ρ2 σ2 G2 H2 as2 q2 ok2 n2 w2 => k ρ2 σ2 G2 H2 as2 q2 ok2 (n1.trans n2) (w1.trans w2)
def wgTup (n : Nat) (wr : WGs) : WG := fun dv ρ Q => match dv with
  | .d (.tuple ds) => ds.length = n ∧ wr ds ρ Q
  | _ => False
theorem pdg_tup {k n : Nat} {wr : WGs} {js : List Nat} (h : PDGs T es wr js) (hn : ∀ env, (assignEach es env).length = n := by intro _; rfl) (hst : ∀ env, (assignEach es env).findIdx? (·.1) = none := by intro _; rfl) : PDG T (.Tuple es k pos) (wgTup n wr) js := by
  obtain ⟨gs, hgs, dgs⟩ := h
  refine ⟨gTup T.K n gs, fun X gd => by rw [← gd.K]; exact pg_tup gd.calm (hgs X gd) (hn _) (hst _), fun dv ρ Q h σ F G H as v ok r C kk => ?_⟩
  match dv, h, r with
  | .d (.tuple ds), ⟨hl, h⟩, r =>
    obtain ⟨a, xs, rfl, hs, rr⟩ := repT r
    exact ⟨a, xs, rfl, same_sqT ok.mem.gh hs, by rw [rr.length]; exact hl, dgs ds ρ Q h σ F G H as xs ok rr C kk⟩
/-- unpacking a list: of data, or one's own whose items are data -/
def wgLst (n : Nat) (wr : WGs) : WG := fun dv ρ Q => match dv with
  | .d (.list ds) => ds.length = n ∧ wr ds ρ Q
  | .o k => match obK ρ k with
    | .lst xs => match allD xs with
      | some ds => ds.length = n ∧ wr ds ρ Q
      | none => False
    | _ => False
  | _ => False
theorem pdg_lst {k n : Nat} {wr : WGs} {js : List Nat} (h : PDGs T es wr js) (hn : ∀ env, (assignEach es env).length = n := by intro _; rfl) (hst : ∀ env, (assignEach es env).findIdx? (·.1) = none := by intro _; rfl) : PDG T (.Tuple es k pos) (wgLst n wr) js := by
  obtain ⟨gs, hgs, dgs⟩ := h
  refine ⟨gLst T.K n gs, fun X gd => by rw [← gd.K]; exact pg_lst gd.calm (hgs X gd) (hn _) (hst _), fun dv ρ Q h σ F G H as v ok r C kk => ?_⟩
  match dv, h, r with
  | .d (.list ds), ⟨hl, h⟩, r =>
    obtain ⟨a, xs, rfl, hs, rr⟩ := repL r
    exact ⟨a, xs, rfl, ok.mem.gh.seq hs, by rw [rr.length]; exact hl, dgs ds ρ Q h σ F G H as xs ok rr C kk⟩
  | .o n, h, r =>
    unfold wgLst at h
    cases e : obK ρ n with
    | lst xs =>
      simp only [e] at h
      cases e2 : allD xs with
      | none =>
        simp only [e2] at h
      | some ds =>
        simp only [e2] at h
        obtain ⟨a, rfl, _, _, vs, hv, rr⟩ := repO ok r e (by intro z; cases z)
        have e3 := allD_eq e2
        subst e3
        exact ⟨a, vs, rfl, SqL.of hv, by rw [rr.to.length]; exact h.1, dgs ds ρ Q h.2 σ F G H as vs ok rr.to C kk⟩
    | dk _ => simp only [e] at h
    | dt _ => simp only [e] at h
    | st _ => simp only [e] at h
    | gone => simp only [e] at h
def wAsg (wa : WE) (wg : WG) : WS := fun E ρ => wa ρ (fun dv ρ1 => wg dv ρ1 E.nx) E.xr
theorem pds_set {x : Str} {pos' : Pos} (i : Nat) (ha : PD T a wa) (hN : T.N[i]? = some x := by rfl) (hx : Sto T x := by first | exact Or.inl rfl | exact Or.inr ⟨rfl, rfl⟩) (hs : ∀ env, swapsWith a (some (.Name x pos')) pos.line env = pure false := by intro _; rfl) :
    PDS T (.Assign [.Name x pos'] a pos) (wAsg wa (wgName i)) := by
  obtain ⟨t, ht, d⟩ := ha
  refine ⟨fun W => tAsg (t W) (gName i), fun W X g tk => ps_set (by rw [g.N]; exact g.nd) (by rw [g.N]; exact hN) (hx.loc g).1 (ht W X g tk) (hs _) (hx.loc g).2, fun ρ E h W σ F G H as ok acc D l => ?_⟩
  exact d _ _ _ h W σ F G H as ok (acc.at σ) _ fun dv ρ' v G' H' as' q o n r => l.nx _ _ G' H' as' q (o.set i r) n
theorem pds_asg {tg : Expr} {wg : WG} {js : List Nat} (ha : PD T a wa) (hg : PDG T tg wg js) (hs : ∀ env, swapsWithSole [tg] a pos.line env = pure false := by intro _; rfl) (hw : ∀ env, swappedStores [tg] a env = pure none := by intro _; rfl)
    (h1 : ∀ env, (assignEach [tg] env).map (·.2) = [assign tg env] := by intro _; rfl) : PDS T (.Assign [tg] a pos) (wAsg wa wg) := by
  obtain ⟨t, ht, d⟩ := ha
  obtain ⟨g, hg, dg⟩ := hg
  refine ⟨fun W => tAsg (t W) g, fun W X gd tk => ps_asg (ht W X gd tk) (hg X gd) (hs _) (hw _) (h1 _), fun ρ E h W σ F G H as ok acc D l => ?_⟩
  refine d _ _ _ h W σ F G H as ok (acc.at σ) _ fun dv ρ' v G' H' as' q o n r => ?_
  exact dg dv ρ' _ q σ F G' H' as' v o r _ fun ρ2 σ2 G2 H2 as2 q2 o2 n2 _ => l.nx ρ2 σ2 G2 H2 as2 q2 o2 (n.trans n2)
/-- a, b = e, e' : both written, no tuple is made -/
def wPar (i j : Nat) (w : WA) : WS := fun E ρ => w ρ (fun xs ρ1 => match xs with
  | [x, y] => E.nx ⟨(ρ1.sl.set i (some x)).set j (some y), ρ1.ob⟩
  | _ => False) E.xr
theorem pds_par {x y : Str} {px py pt : Pos} {kt k2 : Nat} {pt2 : Pos} (i j : Nat) (ha : PDA T [a, b] w) (hi : T.N[i]? = some x := by rfl) (hj : T.N[j]? = some y := by rfl) (hij : i ≠ j := by decide) (hx : T.sc.names.lookup x = some .local := by rfl) (hy : T.sc.names.lookup y = some .local := by rfl)
    (hw : ∀ env : Env, env.scope = T.sc → swappedStores [.Tuple [.Name x px, .Name y py] kt pt] (.Tuple [a, b] k2 pt2) env = pure (some [x, y])) (hs : ∀ env, swapsWithSole [.Tuple [.Name x px, .Name y py] kt pt] (.Tuple [a, b] k2 pt2) pos.line env = pure false := by intro _; rfl) :
    PDS T (.Assign [.Tuple [.Name x px, .Name y py] kt pt] (.Tuple [a, b] k2 pt2) pos) (wPar i j w) := by
  obtain ⟨t, ht, d⟩ := ha
  refine ⟨fun W => tPar i j (t W), fun W X g tk => ps_par g.calm (by rw [g.N]; exact g.nd) (by rw [g.N]; exact hi) (by rw [g.N]; exact hj) hij (by rw [g.sc]; exact hx) (by rw [g.sc]; exact hy) (ht W X g tk) (hw _ g.sc) (hs _), fun ρ E h W σ F G H as ok acc D l => ?_⟩
  refine d _ _ _ h W σ F G H as ok (acc.at σ) _ fun dvs ρ' vs G' H' as' q o n r => ?_
  match dvs, q, r with
  | [x, y], q, .cons (v := v) r1 (.cons (v := u) r2 .nil) => exact ⟨v, u, rfl, l.nx _ _ G' H' as' q ((o.set i r1).set j r2) n⟩
end
end DL
end

section
set_option Elab.async false
set_option linter.all false
set_option maxRecDepth 100000
set_option maxHeartbeats 1000000
set_option autoImplicit false
namespace DL
variable [Tab0]
open PySem PySem.Spec PyProof.Rows L2

/-! ### what is walked -/
structure ItOk (K : PySem.W.Frag) (G : Hp) (J : It) (xs : List PyData) : Prop where
  go : ∀ (i : Nat) (H : Hp), i < xs.length → Same G H → J.go i H
  stop : ∀ H : Hp, Same G H → J.stop xs.length H
  yld : ∀ (i : Nat) (d : PyData), xs[i]? = some d → ∀ (F G' H : Hp) (as : List Addr) (ob : List OB), Same G G' → Mem K F G' H as ob → ∀ (x : V) (H' : Hp), J.yld i H x H' → ∃ G'' : Hp, Mem K F G'' H' as ob ∧ Same G' G'' ∧ Rep K G'' x d
abbrev WI := S → (List PyData → S → Prop) → QX → Prop
def DI (K : PySem.W.Frag) (t : WX → TI) (ρ : S) (Q : List PyData → S → Prop) (X : QX) : Prop :=
  ∀ (W : WX) (σ : St) (F G H : Hp) (as : List Addr), Ok K ρ σ F G H as → AccE K F G as σ W X → ∀ R : It → Hp → Prop,
    (∀ (xs : List PyData) (ρ' : S) (G' H' : Hp) (as' : List Addr) (J : It), Q xs ρ' → Ok K ρ' σ F G' H' as' → Nxt G as G' as' → ItOk K G' J xs → R J H') → t W σ H R
def PDI (T : Sta) (tg e : Expr) (w : WI) : Prop := ∃ t : WX → TI, (∀ W X, Good T X → Takes X W → PI X tg e (t W)) ∧ ∀ ρ Q X, w ρ Q X → DI T.K t ρ Q X
section
variable {K : PySem.W.Frag} {G : Hp} {a b : Addr} {xs ys : List V} {ds es : List PyData}
theorem same_inj {vs ws : List V} (h : vs = ws) : vs = ws := h
theorem it_list (h : SqL K G a xs) (r : Reps K G xs ds) : ItOk K G (Itl K a) ds := by
  refine ⟨fun i H hi e => ?_, fun H e => ⟨xs, e.seq h, by rw [r.length]; exact Nat.le_refl _⟩, fun i d hd F G' H as ob e m x H' y => ?_⟩
  · have hx : i < xs.length := by rw [r.length]; exact hi
    exact ⟨xs, xs[i], e.seq h, by simp [hx]⟩
  · obtain ⟨rfl, y⟩ := y
    obtain ⟨u, e1, r1⟩ := r.get hd
    have := y xs (m.gh.seq (e.seq h))
    rw [e1] at this
    cases this
    exact ⟨G', m, Same.refl _, r1.mono e⟩
theorem it_tup (h : SqT K G a xs) (r : Reps K G xs ds) : ItOk K G (Itt K a) ds := by
  refine ⟨fun i H hi e => ?_, fun H e => ⟨xs, same_sqT e h, by rw [r.length]; exact Nat.le_refl _⟩, fun i d hd F G' H as ob e m x H' y => ?_⟩
  · have hx : i < xs.length := by rw [r.length]; exact hi
    exact ⟨xs, xs[i], same_sqT e h, by simp [hx]⟩
  · obtain ⟨rfl, y⟩ := y
    obtain ⟨u, e1, r1⟩ := r.get hd
    have := y xs (same_sqT m.gh (same_sqT e h))
    rw [e1] at this
    cases this
    exact ⟨G', m, Same.refl _, r1.mono e⟩
/-- lo, lo + 1, .., n of them -/
def rng (lo : Int) (n : Nat) : List PyData := (List.range n).map fun i => .int (lo + (i : Nat))
theorem rng_len (lo : Int) (n : Nat) : (rng lo n).length = n := by simp [rng]
theorem rng_get {lo : Int} {n i : Nat} {d : PyData} (h : (rng lo n)[i]? = some d) : i < n ∧ d = .int (lo + (i : Nat)) := by
  unfold rng at h
  rw [List.getElem?_map] at h
  by_cases hi : i < n
  · rw [List.getElem?_range hi] at h
    cases h
    exact ⟨hi, rfl⟩
  · rw [List.getElem?_eq_none (by rw [List.length_range]; omega)] at h
    cases h
theorem it_rng (lo : Int) (n : Nat) : ItOk K G (Itr lo n) (rng lo n) := by
  refine ⟨fun i H hi e => by rw [rng_len] at hi; exact hi, fun H e => by rw [rng_len]; exact Nat.le_refl _, fun i d hd F G' H as ob e m x H' y => ?_⟩
  obtain ⟨rfl, rfl⟩ := y
  obtain ⟨_, rfl⟩ := rng_get hd
  exact ⟨G', m, Same.refl _, .int _⟩
/-- pairs -/
def zipP : List PyData → List PyData → List PyData := List.zipWith fun x y => .tuple [x, y]
theorem new_pair {F G H : Hp} {as : List Addr} {ob : List OB} {T : Addr} {x y : V} {d e : PyData} (m : Mem K F G H as ob) (hT : H T = none) (r1 : Rep K G x d) (r2 : Rep K G y e) :
    ∃ G'' : Hp, Mem K F G'' (upd H T (.tup [x, y])) as ob ∧ Same G G'' ∧ Rep K G'' (.ref T) (.tuple [d, e]) := by
  have s := same_new (o := .tup [x, y]) (m.fresh hT).1
  exact ⟨_, m.new hT, s, .tup upd_same (.cons (r1.mono s) (.cons (r2.mono s) .nil))⟩
theorem zip_get : ∀ {xs ys : List PyData} {i : Nat} {d : PyData}, (zipP xs ys)[i]? = some d → ∃ x y, xs[i]? = some x ∧ ys[i]? = some y ∧ d = .tuple [x, y]
  | [], _, i, d, h => by simp [zipP] at h
  | _ :: _, [], i, d, h => by simp [zipP] at h
  | x :: _, y :: _, 0, d, h => by
    simp [zipP] at h
    exact ⟨x, y, rfl, rfl, h.symm⟩
  | x :: xs, y :: ys, i + 1, d, h => by
    obtain ⟨u, v, h1, h2, h3⟩ := zip_get (xs := xs) (ys := ys) (i := i) (d := d) (by simpa [zipP] using h)
    exact ⟨u, v, by simpa using h1, by simpa using h2, h3⟩
theorem zip_len {xs ys : List PyData} : (zipP xs ys).length = min xs.length ys.length := by simp [zipP]
theorem it_zipT (h1 : SqT K G a xs) (r1 : Reps K G xs ds) (h2 : SqT K G b ys) (r2 : Reps K G ys es) : ItOk K G (RZ.ItzT K a b) (zipP ds es) := by
  refine ⟨fun i H hi e => ?_, fun H e => ?_, fun i d hd F G' H as ob e m x H' y => ?_⟩
  · rw [zip_len] at hi
    have hx : i < xs.length := by rw [r1.length]; omega
    have hy : i < ys.length := by rw [r2.length]; omega
    exact ⟨xs, ys, xs[i], ys[i], same_sqT e h1, same_sqT e h2, by simp [hx], by simp [hy]⟩
  · refine ⟨xs, ys, same_sqT e h1, same_sqT e h2, ?_⟩
    rw [zip_len, r1.length, r2.length]
    omega
  · obtain ⟨T, x1, x2, rfl, nT, rfl, f1, f2⟩ := y
    obtain ⟨u1, u2, e1, e2, rfl⟩ := zip_get hd
    obtain ⟨v1, q1, z1⟩ := r1.get e1
    obtain ⟨v2, q2, z2⟩ := r2.get e2
    have p1 := f1 xs (same_sqT m.gh (same_sqT e h1))
    have p2 := f2 ys (same_sqT m.gh (same_sqT e h2))
    rw [q1] at p1
    rw [q2] at p2
    cases p1
    cases p2
    exact new_pair m nT (z1.mono e) (z2.mono e)
theorem it_zipL (h1 : SqL K G a xs) (r1 : Reps K G xs ds) (h2 : SqL K G b ys) (r2 : Reps K G ys es) : ItOk K G (Itz K a b) (zipP ds es) := by
  refine ⟨fun i H hi e => ?_, fun H e => ?_, fun i d hd F G' H as ob e m x H' y => ?_⟩
  · rw [zip_len] at hi
    have hx : i < xs.length := by rw [r1.length]; omega
    have hy : i < ys.length := by rw [r2.length]; omega
    exact ⟨xs, ys, xs[i], ys[i], e.seq h1, e.seq h2, by simp [hx], by simp [hy]⟩
  · refine ⟨xs, ys, e.seq h1, e.seq h2, ?_⟩
    rw [zip_len, r1.length, r2.length]
    omega
  · obtain ⟨T, x1, x2, rfl, nT, rfl, f1, f2⟩ := y
    obtain ⟨u1, u2, e1, e2, rfl⟩ := zip_get hd
    obtain ⟨v1, q1, z1⟩ := r1.get e1
    obtain ⟨v2, q2, z2⟩ := r2.get e2
    have p1 := f1 xs (m.gh.seq (e.seq h1))
    have p2 := f2 ys (m.gh.seq (e.seq h2))
    rw [q1] at p1
    rw [q2] at p2
    cases p1
    cases p2
    exact new_pair m nT (z1.mono e) (z2.mono e)
theorem it_enumL (h : SqL K G a xs) (r : Reps K G xs ds) : ItOk K G (Ite K a) (zipP (rng 0 ds.length) ds) := by
  have hl : (zipP (rng 0 ds.length) ds).length = ds.length := by rw [zip_len, rng_len]; omega
  refine ⟨fun i H hi e => ?_, fun H e => ?_, fun i d hd F G' H as ob e m x H' y => ?_⟩
  · rw [hl] at hi
    have hx : i < xs.length := by rw [r.length]; exact hi
    exact ⟨xs, xs[i], e.seq h, by simp [hx]⟩
  · rw [hl]
    exact ⟨xs, e.seq h, by rw [r.length]; exact Nat.le_refl _⟩
  · obtain ⟨T, x1, rfl, nT, rfl, f1⟩ := y
    obtain ⟨u1, u2, e1, e2, rfl⟩ := zip_get hd
    obtain ⟨_, rfl⟩ := rng_get e1
    obtain ⟨v2, q2, z2⟩ := r.get e2
    have p2 := f1 xs (m.gh.seq (e.seq h))
    rw [q2] at p2
    cases p2
    rw [Int.zero_add]
    exact new_pair m nT (.int _) (z2.mono e)
end
section
variable {T : Sta} {pos p : Pos} {a b c e tg : Expr} {es : List Expr} {wa wb wc we : WE} {w : WA} {wt wu : WT} {st : Stmt} {rest : List Stmt} {w1 w2 w3 : WS} {K : PySem.W.Frag}
/-- over data: a tuple, a list -/
def wiT (wa : WE) : WI := fun ρ Q X => wa ρ (fun x ρ1 => match x with
  | .d (.tuple ds) => Q ds ρ1
  | _ => False) X
def wiL (wa : WE) : WI := fun ρ Q X => wa ρ (fun x ρ1 => match x with
  | .d (.list ds) => Q ds ρ1
  | _ => False) X
theorem pdi_tup (ha : PD T a wa) : PDI T tg a (wiT wa) := by
  obtain ⟨t, ht, d⟩ := ha
  refine ⟨fun W => iTup T.K (t W), fun W X g tk => by rw [← g.K]; exact pi_tup (ht W X g tk), fun ρ Q X h W σ F G H as ok acc R k => ?_⟩
  refine d _ _ _ h W σ F G H as ok acc _ fun x ρ1 v G1 H1 as1 h1 ok1 n1 r1 => ?_
  match x, h1, r1 with
  | .d (.tuple ds), h1, r1 =>
    obtain ⟨a, xs, rfl, hs, r⟩ := repT r1
    exact ⟨a, rfl, ⟨xs, same_sqT ok1.mem.gh hs⟩, k ds ρ1 G1 H1 as1 _ h1 ok1 n1 (it_tup hs r)⟩
theorem pdi_list (ha : PD T a wa) : PDI T tg a (wiL wa) := by
  obtain ⟨t, ht, d⟩ := ha
  refine ⟨fun W => iList T.K (t W), fun W X g tk => by rw [← g.K]; exact pi_list (ht W X g tk), fun ρ Q X h W σ F G H as ok acc R k => ?_⟩
  refine d _ _ _ h W σ F G H as ok acc _ fun x ρ1 v G1 H1 as1 h1 ok1 n1 r1 => ?_
  match x, h1, r1 with
  | .d (.list ds), h1, r1 =>
    obtain ⟨a, xs, rfl, hs, r⟩ := repL r1
    exact ⟨a, rfl, ⟨xs, ok1.mem.gh.seq hs⟩, k ds ρ1 G1 H1 as1 _ h1 ok1 n1 (it_list hs r)⟩
def RgB (i : Int) : Prop := -(2 ^ 62) ≤ i ∧ i < 2 ^ 62
def wiR1 (w : WA) : WI := fun ρ Q X => w ρ (fun xs ρ1 => match xs with
  | [.d (.int j)] => RgB j ∧ Q (rng 0 j.toNat) ρ1
  | _ => False) X
def wiR2 (w : WA) : WI := fun ρ Q X => w ρ (fun xs ρ1 => match xs with
  | [.d (.int i), .d (.int j)] => RgB i ∧ RgB j ∧ Q (rng i (j - i).toNat) ρ1
  | _ => False) X
theorem pdi_range1 (ha : PDA T [a] w) (hg : T.sc.names.lookup ("range" : Str) = some .globalImplicit) (hm : T.mg "range" = none) (hs : ∀ env, starEach [a] env = [(false, eval a env)] := by intro _; rfl) : PDI T tg (.Call (.Name "range" p) [a] [] pos) (wiR1 w) := by
  obtain ⟨t, ht, d⟩ := ha
  refine ⟨fun W => iRng1 (t W), fun W X g tk => pi_range1 (by show X.env.scope.names.lookup _ = _; rw [g.sc]; exact hg) (by rw [g.mg]; exact hm) (ht W X g tk) (hs _), fun ρ Q X h W σ F G H as ok acc R k => ?_⟩
  refine d _ _ _ h W σ F G H as ok acc _ fun x ρ1 v G1 H1 as1 h1 ok1 n1 r1 => ?_
  match x, h1, r1 with
  | [.d (.int j)], ⟨hj, h1⟩, .cons (v := v) q .nil =>
    have := repI q
    subst this
    exact ⟨j, rfl, hj.1, hj.2, k _ ρ1 G1 H1 as1 _ h1 ok1 n1 (it_rng 0 _)⟩
theorem pdi_range2 (ha : PDA T [a, b] w) (hg : T.sc.names.lookup ("range" : Str) = some .globalImplicit) (hm : T.mg "range" = none) (hs : ∀ env, starEach [a, b] env = [(false, eval a env), (false, eval b env)] := by intro _; rfl) (hs2 : ∀ env, starEach [b] env = [(false, eval b env)] := by intro _; rfl) :
    PDI T tg (.Call (.Name "range" p) [a, b] [] pos) (wiR2 w) := by
  obtain ⟨t, ht, d⟩ := ha
  refine ⟨fun W => iRng2 (t W), fun W X g tk => pi_range2 (by show X.env.scope.names.lookup _ = _; rw [g.sc]; exact hg) (by rw [g.mg]; exact hm) (ht W X g tk) (hs _) (hs2 _), fun ρ Q X h W σ F G H as ok acc R k => ?_⟩
  refine d _ _ _ h W σ F G H as ok acc _ fun x ρ1 v G1 H1 as1 h1 ok1 n1 r1 => ?_
  match x, h1, r1 with
  | [.d (.int i), .d (.int j)], ⟨hi, hj, h1⟩, .cons (v := v) q (.cons (v := u) q2 .nil) =>
    have := repI q
    subst this
    have := repI q2
    subst this
    exact ⟨i, j, rfl, ⟨hi.1, hi.2, hj.1, hj.2⟩, k _ ρ1 G1 H1 as1 _ h1 ok1 n1 (it_rng i _)⟩
def wiZip (w : WA) : WI := fun ρ Q X => w ρ (fun xs ρ1 => match xs with
  | [.d (.tuple ds), .d (.tuple es)] => Q (zipP ds es) ρ1
  | [.d (.list ds), .d (.list es)] => Q (zipP ds es) ρ1
  | _ => False) X
theorem pdi_zip {elts : List Expr} {kk : Nat} {tpos : Pos} (ha : PDA T [a, b] w) (hg : T.sc.names.lookup ("zip" : Str) = some .globalImplicit) (hm : T.mg "zip" = none)
    (hs : ∀ env, starEach [a, b] env = (false, eval a env) :: starEach [b] env := by intro _; rfl) (hpl : ∀ env, (backTo pos (starEach [b] env)).any (·.1) = false := by intro _; rfl) : PDI T (.Tuple elts kk tpos) (.Call (.Name "zip" p) [a, b] [] pos) (wiZip w) := by
  obtain ⟨t, ht, d⟩ := ha
  refine ⟨fun W => RZ.iZipA T.K (t W), fun W X g tk => by rw [← g.K]; exact RZ.pi_zipA (by show X.env.scope.names.lookup _ = _; rw [g.sc]; exact hg) (by rw [g.mg]; exact hm) (ht W X g tk) (hs _) (hpl _), fun ρ Q X h W σ F G H as ok acc R k => ?_⟩
  refine d _ _ _ h W σ F G H as ok acc _ fun x ρ1 v G1 H1 as1 h1 ok1 n1 r1 => ?_
  match x, h1, r1 with
  | [.d (.tuple ds), .d (.tuple es)], h1, .cons (v := v) q (.cons (v := u) q2 .nil) =>
    obtain ⟨a, xs, rfl, hs, r⟩ := repT q
    obtain ⟨b, ys, rfl, hs2, r2⟩ := repT q2
    exact ⟨a, b, xs, ys, rfl, .inr ⟨same_sqT ok1.mem.gh hs, same_sqT ok1.mem.gh hs2, k _ ρ1 G1 H1 as1 _ h1 ok1 n1 (it_zipT hs r hs2 r2)⟩⟩
  | [.d (.list ds), .d (.list es)], h1, .cons (v := v) q (.cons (v := u) q2 .nil) =>
    obtain ⟨a, xs, rfl, hs, r⟩ := repL q
    obtain ⟨b, ys, rfl, hs2, r2⟩ := repL q2
    exact ⟨a, b, xs, ys, rfl, .inl ⟨ok1.mem.gh.seq hs, ok1.mem.gh.seq hs2, k _ ρ1 G1 H1 as1 _ h1 ok1 n1 (it_zipL hs r hs2 r2)⟩⟩
/-! ### for -/
def wFor (wi : WI) (wg : WG) (wb : WS) : WS := fun E ρ => wi ρ (fun xs ρ1 => ∃ I : Nat → S → Prop, I 0 ρ1 ∧
  (∀ (i : Nat) (x : PyData) (ρ' : S), xs[i]? = some x → I i ρ' → wg (.d x) ρ' fun ρ2 => wb { E with nx := I (i + 1), ct := I (i + 1), bk := E.nx } ρ2) ∧ (∀ ρ' : S, I xs.length ρ' → E.nx ρ')) E.xr
theorem pds_for {iter : Expr} {body : List Stmt} {wi : WI} {wg : WG} {js : List Nat} {wb : WS} (hi : PDI T tg iter wi) (hg : PDG T tg wg js) (hb : PDSs T body wb)
    (hs : ∀ env x, foldedSetIterable iter env x = pure x := by intro _ _; rfl) : PDS T (.For tg iter body [] pos) (wFor wi wg wb) := by
  obtain ⟨ti, hti, di⟩ := hi
  obtain ⟨g, hg, dg⟩ := hg
  obtain ⟨tb, htb, db⟩ := hb
  refine ⟨fun W => tFor (ti W) g (tb W), fun W X gd tk => ps_for gd.po gd.calm (hti W X gd tk) (hg X gd) (htb W X gd tk) (hs _), fun ρ E h W σ F G H as ok acc D l => ?_⟩
  refine di _ _ _ h W σ F G H as ok (acc.at σ) _ fun xs ρ1 G1 H1 as1 J h1 ok1 n1 it => ?_
  obtain ⟨I, h0, hst, hd⟩ := h1
  refine ⟨fun i m σ H => m = xs.length - i ∧ i ≤ xs.length ∧ ∃ ρ' G' as', I i ρ' ∧ Ok T.K ρ' σ F G' H as' ∧ Nxt G1 as1 G' as', ⟨xs.length, by simp, Nat.zero_le _, ρ1, G1, as1, h0, ok1, Nxt.refl _ _⟩, ?_⟩
  rintro i m σ2 H2 ⟨rfl, hi, ρ2, G2, as2, hI, ok2, n2⟩
  by_cases hlt : i < xs.length
  · refine .inr ⟨it.go i H2 hlt (n2.g.trans ok2.mem.gh), fun σ' H' => xs.length - (i + 1) = xs.length - (i + 1) ∧ i + 1 ≤ xs.length ∧ ∃ ρ' G' as', I (i + 1) ρ' ∧ Ok T.K ρ' σ' F G' H' as' ∧ Nxt G1 as1 G' as', fun σ' H' hN => ⟨xs.length - (i + 1), by omega, hN⟩, fun x H' y => ?_⟩
    have hx : xs[i]? = some xs[i] := by simp [hlt]
    obtain ⟨G3, m3, s3, r3⟩ := it.yld i _ hx F G2 H2 as2 ρ2.ob n2.g ok2.mem x H' y
    have ok3 : Ok T.K ρ2 σ2 F G3 H' as2 := ⟨m3, ok2.sll, fun j dv e => by
      obtain ⟨u, e1, r⟩ := ok2.sl j dv e
      exact ⟨u, e1, r.mono ⟨s3, [], (List.append_nil _).symm⟩⟩⟩
    have n3 : Nxt G as G3 as2 := (n1.trans n2).trans ⟨s3, [], (List.append_nil _).symm⟩
    refine dg (.d xs[i]) ρ2 _ (hst i _ ρ2 hx hI) σ2 F G3 H' as2 x ok3 r3 _ fun ρ4 σ4 G4 H4 as4 q4 ok4 n4 _ => ?_
    refine db _ _ q4 W σ4 F G4 H4 as4 ok4 (acc.next (n3.trans n4)) _ ⟨?_, ?_, ?_, ?_⟩
    · exact fun ρ' σ' G' H' as' q o n => ⟨rfl, hlt, ρ', G', as', q, o, ((n2.trans ⟨s3, [], (List.append_nil _).symm⟩).trans n4).trans n⟩
    · exact fun dv ρ' σ' v G' H' as' q o n r => l.rt dv ρ' σ' v G' H' as' q o ((n3.trans n4).trans n) r
    · exact fun ρ' σ' G' H' as' q o n => l.nx ρ' σ' G' H' as' q o ((n3.trans n4).trans n)
    · exact fun ρ' σ' G' H' as' q o n => ⟨rfl, hlt, ρ', G', as', q, o, ((n2.trans ⟨s3, [], (List.append_nil _).symm⟩).trans n4).trans n⟩
  · have e : i = xs.length := by omega
    subst e
    exact .inl ⟨it.stop H2 (n2.g.trans ok2.mem.gh), l.nx ρ2 σ2 G2 H2 as2 (hd ρ2 hI) ok2 (n1.trans n2)⟩
end
end DL
end

section
set_option Elab.async false
set_option linter.all false
set_option maxRecDepth 100000
set_option maxHeartbeats 1000000
set_option autoImplicit false
namespace DL
variable [Tab0]
open PySem PySem.Spec PyProof.Rows L2

def wipeS (sl : List (Option DV)) : List Nat → List (Option DV)
  | [] => sl
  | v :: vs => (wipeS sl vs).set v none
section
variable {K : PySem.W.Frag} {F G H : Hp} {as : List Addr} {ρ : S} {σ : St} {ob : List OB}
theorem Ok.setN (ok : Ok K ρ σ F G H as) (i : Nat) : Ok K ⟨ρ.sl.set i none, ρ.ob⟩ (σ.set i none) F G H as := by
  refine ⟨ok.mem, by rw [List.length_set, List.length_set]; exact ok.sll, fun j dx e => ?_⟩
  have e : (ρ.sl.set i none)[j]? = some (some dx) := e
  by_cases h : i = j
  · subst h
    have hl : i < ρ.sl.length := by
      have := (List.getElem?_eq_some_iff.mp e).1
      rwa [List.length_set] at this
    rw [List.getElem?_set_self hl] at e
    cases e
  · rw [List.getElem?_set_ne h] at e
    obtain ⟨u, e1, r1⟩ := ok.sl j dx e
    exact ⟨u, by rw [List.getElem?_set_ne h]; exact e1, r1⟩
theorem Ok.wipe (ok : Ok K ρ σ F G H as) : ∀ vs : List Nat, Ok K ⟨wipeS ρ.sl vs, ρ.ob⟩ (L2.wipe σ vs) F G H as
  | [] => ok
  | v :: vs => (Ok.wipe ok vs).setN v
theorem Ok.to {G' H' : Hp} {as' : List Addr} (ok : Ok K ρ σ F G H as) (m : Mem K F G' H' as' ob) (n : Nxt G as G' as') : Ok K ⟨ρ.sl, ob⟩ σ F G' H' as' :=
  ⟨m, ok.sll, fun j dx e => by
    obtain ⟨u, e1, r1⟩ := ok.sl j dx e
    exact ⟨u, e1, r1.mono n⟩⟩
/-- one's own objects from n on are forgotten -/
theorem Mem.trim (m : Mem K F G H as ob) (n : Nat) (hb : (ob.take n).all (belB n) = true) : Mem K F G H (as.take n) (ob.take n) := by
  have lt : ∀ {k : Nat} {a : Addr}, (as.take n)[k]? = some a → k < n := fun {k a} e => by
    have := (List.getElem?_eq_some_iff.mp e).1
    rw [List.length_take] at this
    omega
  refine ⟨m.gh, m.fh, m.gf, m.nd.sublist (List.take_sublist _ _), by rw [List.length_take, List.length_take, m.len], fun a ha => m.al a (List.mem_of_mem_take ha), m.ft, m.tb, fun a ha => m.ofr a (List.mem_of_mem_take ha), fun k a x e1 e2 e3 => ?_, fun k a x e1 e2 => ?_⟩
  · have hk := lt e1
    rw [take_get hk] at e1 e2
    exact m.own k a x e1 e2 e3
  · have hk := lt e1
    have hx : belB n x = true := List.all_eq_true.mp hb x (List.mem_of_getElem? e2)
    rw [take_get hk] at e1 e2
    exact (m.at_ k a x e1 e2).cut (fun j hj => take_get hj) hx
end
def blkT (T : Sta) (scope : Scope) : Sta := { T with sc := relS scope T.sc, top := false }
theorem Good.blk {T : Sta} {X : Cx} (g : Good T X) (s : Shared) (H : Hp) (scope : Scope) (cl : List (Str × Addr)) (C : Addr) (fp : List Addr) : Good (blkT T scope) (X.blk s H scope (compEnvC scope cl C X.env) fp) :=
  ⟨g.P, g.w, g.K, g.mg, g.base, g.N, by rw [show (X.blk s H scope (compEnvC scope cl C X.env) fp).env.scope = relS scope X.env.scope from rfl, g.sc] <;> rfl, g.calm, g.room, g.nd, (fun h => nomatch h), PassesOwn.never, g.gds⟩
def W0 : WX := fun _ _ _ _ => False
def X0 : QX := fun _ _ => False
theorem acc0 {K : PySem.W.Frag} {F G : Hp} {as : List Addr} {σ : St} : AccE K F G as σ W0 X0 := fun _ _ _ _ _ _ h => h.elim

/-- a clause's tests -/
def PDTs (T : Sta) (es : List Expr) (w : WT) : Prop := ∃ t : TT, (∀ X, Good T X → Takes X W0 → PTs X es t) ∧ ∀ ρ Q, w ρ Q X0 → DT T.K (fun _ => t) ρ Q X0
def wYes : WT := fun ρ Q _ => Q true ρ
section
variable {T : Sta} {pos p : Pos} {a b c e tg elt iter : Expr} {es ifs : List Expr} {wa wb wc we : WE} {w : WA} {wt wu : WT} {K : PySem.W.Frag}
theorem pdts_nil : PDTs T [] wYes := ⟨tYes, fun _ _ _ => pts_nil, fun ρ Q h W σ F G H as ok acc C k => k true ρ G H as h ok (Nxt.refl _ _)⟩
theorem pdts_one (h : PDT T c wt) : PDTs T [c] wt := by
  obtain ⟨t, ht, d⟩ := h
  exact ⟨t W0, fun X g tk => pts_one (ht W0 X g tk), fun ρ Q h W σ F G H as ok acc C k => d ρ Q X0 h W0 σ F G H as ok acc0 C k⟩

/-! ### list comprehensions -/
def wLc (wi : WI) (wg : WG) (wt : WT) (we : WE) (vs : List Nat) : WE := fun ρ Q X => wi ρ (fun xs ρ1 => ∃ I : Nat → List OB → List PyData → Prop, I 0 ρ1.ob [] ∧
  (∀ (i : Nat) (x : PyData) (ob : List OB) (acc : List PyData), xs[i]? = some x → I i ob acc → ob.length = ρ1.ob.length → wg (.d x) ⟨wipeS ρ1.sl vs, ob ++ [.lst (acc.map .d)]⟩ fun ρ2 => wt ρ2 (fun b ρ3 => match b with
    | true => we ρ3 (fun y ρ4 => acc.length < sizeLine ∧ ∃ (dy : PyData) (ob' ex : List OB), y = .d dy ∧ ρ4.ob = ob' ++ .lst (acc.map .d) :: ex ∧ ob'.length = ρ1.ob.length ∧ (ex = [] ∨ ob'.all (belB (ob'.length + 1)) = true) ∧ I (i + 1) ob' (acc ++ [dy])) X0
    | false => ∃ (ob' : List OB), ρ3.ob = ob' ++ [.lst (acc.map .d)] ∧ ob'.length = ρ1.ob.length ∧ I (i + 1) ob' acc) X0) ∧
  (∀ (ob : List OB) (acc : List PyData), I xs.length ob acc → ob.length = ρ1.ob.length → Q (.o ob.length) ⟨ρ1.sl, ob ++ [.lst (acc.map .d)]⟩)) X
theorem get_mid {α : Type} (l : List α) (x : α) (r : List α) : (l ++ x :: r)[l.length]? = some x := by simp
theorem bel_data (n : Nat) (l : List PyData) : belB n (.lst (l.map .d)) = true := by
  show (l.map DV.d).all (belV n) = true
  rw [List.all_map]
  exact List.all_eq_true.mpr fun _ _ => rfl
theorem de_lc {ti : WX → TI} {wi : WI} {g : TG} {wg : WG} {js vs : List Nat} {tt : TT} {te : TE} (di : ∀ ρ Q X, wi ρ Q X → DI K ti ρ Q X) (dg : DG K g wg js) (dt : ∀ ρ Q, wt ρ Q X0 → DT K (fun _ => tt) ρ Q X0)
    (de : ∀ ρ Q, we ρ Q X0 → DE K (fun _ => te) ρ Q X0) (hj : ∀ j ∈ js, j ∈ vs) {ρ : S} {Q : QD} {X : QX} (h : wLc wi wg wt we vs ρ Q X) : DE K (fun W => tLc (ti W) g tt te vs) ρ Q X := by
  intro W σ F G H as ok acc C k
  refine di _ _ _ h W σ F G H as ok acc _ fun xs ρ1 G1 H1 as1 J h1 ok1 n1 it D hD => ?_
  obtain ⟨I, h0, hst, hd⟩ := h1
  have al : as1.length = ρ1.ob.length := ok1.mem.len
  have ok0 : Ok K ⟨ρ1.sl, ρ1.ob ++ [.lst ([].map .d)]⟩ σ F G1 (upd H1 D (.lst [])) (as1 ++ [D]) := ok1.mine (x := .lst []) hD ⟨[], upd_same, .nil⟩
  have nD : Nxt G1 as1 G1 (as1 ++ [D]) := ⟨Same.refl _, [D], rfl⟩
  refine ⟨fun i m H => m = xs.length - i ∧ i ≤ xs.length ∧ ∃ (G' : Hp) (ob : List OB) (ac : List PyData), I i ob ac ∧ ob.length = ρ1.ob.length ∧ Ok K ⟨ρ1.sl, ob ++ [.lst (ac.map .d)]⟩ σ F G' H (as1 ++ [D]) ∧ Same G1 G',
    ⟨xs.length, by simp, Nat.zero_le _, G1, ρ1.ob, [], h0, rfl, ok0, Same.refl _⟩, ?_⟩
  rintro i m H2 ⟨rfl, hi, G2, ob, ac, hI, hl, ok2, s2⟩
  by_cases hlt : i < xs.length
  · refine .inr ⟨it.go i H2 hlt (s2.trans ok2.mem.gh), fun H' => i + 1 ≤ xs.length ∧ ∃ (G' : Hp) (ob : List OB) (ac : List PyData), I (i + 1) ob ac ∧ ob.length = ρ1.ob.length ∧ Ok K ⟨ρ1.sl, ob ++ [.lst (ac.map .d)]⟩ σ F G' H' (as1 ++ [D]) ∧ Same G1 G',
      fun H' hN => ⟨xs.length - (i + 1), by omega, rfl, hN⟩, fun x H' y => ?_⟩
    have hx : xs[i]? = some xs[i] := by simp [hlt]
    obtain ⟨G3, m3, s3, r3⟩ := it.yld i _ hx F G2 H2 _ _ s2 ok2.mem x H' y
    have ok3 : Ok K ⟨ρ1.sl, ob ++ [.lst (ac.map .d)]⟩ σ F G3 H' (as1 ++ [D]) := ok2.to m3 ⟨s3, [], (List.append_nil _).symm⟩
    refine dg (.d xs[i]) _ _ (hst i _ ob ac hx hI hl) (L2.wipe σ vs) F G3 H' (as1 ++ [D]) x (ok3.wipe vs) r3 _ fun ρ4 σ4 G4 H4 as4 q4 ok4 n4 w4 => ?_
    refine ⟨?_, ?_⟩
    · rw [w4 vs hj]
      apply List.ext_getElem?
      intro j
      rw [wipe_get, wipe_get, wipe_length]
      by_cases hv : j ∈ vs ∧ j < σ.length
      · rw [if_pos hv, if_pos hv]
      · rw [if_neg hv, if_neg hv]
    refine dt _ _ q4 W0 σ4 F G4 H4 as4 ok4 acc0 _ fun b ρ5 G5 H5 as5 q5 ok5 n5 => ?_
    have n45 := n4.trans n5
    cases b with
    | false =>
      refine iteF ?_
      obtain ⟨ob', e5, hl5, hI5⟩ := q5
      refine ⟨hlt, G5, ob', ac, hI5, hl5, ?_, (s2.trans s3).trans n45.g⟩
      obtain ⟨r, er⟩ := n45.a
      have : r = [] := by
        have e1 := ok5.mem.len
        rw [er, e5, List.length_append, List.length_append, List.length_append] at e1
        simp only [List.length_cons, List.length_nil] at e1
        exact List.length_eq_zero_iff.mp (by omega)
      rw [this, List.append_nil] at er
      subst er
      rw [← e5]
      exact ok3.to ok5.mem n45
    | true =>
      refine iteT ?_
      refine de _ _ q5 W0 σ4 F G5 H5 as5 ok5 acc0 _ fun y ρ6 v G6 H6 as6 q6 ok6 n6 r6 => ?_
      obtain ⟨hz, dy, ob', ex, rfl, e6, hl6, hex, hI6⟩ := q6
      have n46 := n45.trans n6
      obtain ⟨r, er⟩ := n46.a
      have hN : (as1 ++ [D])[ob'.length]? = some D := by rw [hl6, ← al]; exact get_last _ _
      have hN6 : as6[ob'.length]? = some D := n46.get hN
      have ho6 : ρ6.ob[ob'.length]? = some (.lst (ac.map .d)) := by rw [e6]; exact get_mid _ _ _
      obtain ⟨avs, ha, hr⟩ := ok6.mem.at_ _ _ _ hN6 ho6
      have hra := hr.to
      refine ⟨avs, ha, by rw [hra.length]; exact hz, hlt, G6, ob', ac ++ [dy], hI6, hl6, ?_, (s2.trans s3).trans n46.g⟩
      have rv : Rep K G6 v dy := r6
      have m7 := ok6.mem.wr (o := .lst (avs ++ [v])) (y := .lst ((ac ++ [dy]).map .d)) hN6 ho6 (by intro z; cases z) ⟨avs ++ [v], upd_same, RepVs.of (hra.append (.cons rv .nil))⟩
      have e7 : ρ6.ob.set ob'.length (.lst ((ac ++ [dy]).map .d)) = ob' ++ .lst ((ac ++ [dy]).map .d) :: ex := by
        rw [e6, List.set_append_right _ _ (Nat.le_refl _), Nat.sub_self]
        rfl
      rw [e7] at m7
      have tk : (ob' ++ OB.lst ((ac ++ [dy]).map .d) :: ex).take (ob'.length + 1) = ob' ++ [.lst ((ac ++ [dy]).map .d)] := by
        rw [List.take_append, List.take_of_length_le (Nat.le_succ _)]
        simp
      have ta : as6.take (ob'.length + 1) = as1 ++ [D] := by
        rw [er, List.take_append_of_le_length (by rw [List.length_append]; simp; omega)]
        exact List.take_of_length_le (by rw [List.length_append]; simp; omega)
      have m8 : Mem K F G6 (upd H6 D (.lst (avs ++ [v]))) (as1 ++ [D]) (ob' ++ [.lst ((ac ++ [dy]).map .d)]) := by
        rcases hex with hex | hex
        · subst hex
          have : as6 = as1 ++ [D] := by
            have e1 := ok6.mem.len
            rw [e6] at e1
            rw [← ta]
            refine (List.take_of_length_le ?_).symm
            rw [e1, List.length_append]
            simp
          rw [← this]
          exact m7
        · have z := m7.trim (ob'.length + 1) (by
            rw [tk, List.all_append, hex]
            show (true && (belB (ob'.length + 1) (.lst ((ac ++ [dy]).map .d)) && true)) = true
            rw [bel_data]
            rfl)
          rw [tk, ta] at z
          exact z
      exact ok3.to m8 ⟨n46.g, [], (List.append_nil _).symm⟩
  · have e : i = xs.length := by omega
    subst e
    refine .inl ⟨it.stop H2 (s2.trans ok2.mem.gh), ?_⟩
    refine (k.next n1) (.o ob.length) _ (.ref D) G2 H2 (as1 ++ [D]) (hd ob ac hI hl) ok2 ⟨s2, [D], rfl⟩ ⟨D, ?_, rfl⟩
    rw [hl, ← al]
    exact get_last _ _
theorem pd_lc {scope : Scope} {own : List (Str × Nat)} {wi : WI} {wg : WG} {js : List Nat} (hi : PDI T tg iter wi) (ok : BlkOk T.N T.sc scope own) (hg : PDG (blkT T scope) tg wg js) (ht : PDTs (blkT T scope) ifs wt) (he : PD (blkT T scope) elt we)
    (hj : ∀ j ∈ js, j ∈ own.map (·.2) := by decide) (hs : ∀ env x, foldedSetIterable iter env x = pure x := by intro _ _; rfl) : PD T (.ListComp elt [⟨tg, iter, ifs, 0⟩] scope pos) (wLc wi wg wt we (own.map (·.2))) := by
  obtain ⟨ti, hti, di⟩ := hi
  obtain ⟨g, hg, dg⟩ := hg
  obtain ⟨tt, ht, dt⟩ := ht
  obtain ⟨te, he, de⟩ := he
  refine ⟨fun W => tLc (ti W) g tt (te W0) (own.map (·.2)), fun W X gd tk => pe_lc gd.calm (by rw [gd.N]; exact gd.nd) (hti W X gd tk) (by rw [gd.N, gd.sc]; exact ok) (fun s H C cl fp => hg _ (gd.blk s H scope cl C fp))
    (fun s H C cl fp => ht _ (gd.blk s H scope cl C fp) takes0) (fun s H C cl fp => he W0 _ (gd.blk s H scope cl C fp) takes0) (hs _), fun ρ Q X h => ?_⟩
  exact de_lc (K := T.K) (te := te W0) di dg dt (fun ρ Q h W σ F G H as ok acc C k => de ρ Q X0 h W0 σ F G H as ok acc0 C k) hj h
/-- y = [.. for ..] -/
theorem pds_setLc {y : Str} {py spos : Pos} {scope : Scope} {own : List (Str × Nat)} {wi : WI} {wg : WG} {js : List Nat} (i : Nat) (hi : PDI T tg iter wi) (ok : BlkOk T.N T.sc scope own) (hg : PDG (blkT T scope) tg wg js) (ht : PDTs (blkT T scope) ifs wt) (he : PD (blkT T scope) elt we)
    (hsw : ∀ env : Env, env.scope = T.sc → swapsWith (.ListComp elt [⟨tg, iter, ifs, 0⟩] scope pos) (some (.Name y py)) spos.line env = pure true)
    (hN : T.N[i]? = some y := by rfl) (hy : T.sc.names.lookup y = some .local := by rfl) (hj : ∀ j ∈ js, j ∈ own.map (·.2) := by decide) (hs : ∀ env x, foldedSetIterable iter env x = pure x := by intro _ _; rfl) : PDS T (.Assign [.Name y py] (.ListComp elt [⟨tg, iter, ifs, 0⟩] scope pos) spos) (wAsg (wLc wi wg wt we (own.map (·.2))) (wgName i)) := by
  obtain ⟨ti, hti, di⟩ := hi
  obtain ⟨g, hg, dg⟩ := hg
  obtain ⟨tt, ht, dt⟩ := ht
  obtain ⟨te, he, de⟩ := he
  refine ⟨fun W => tAsg (tLc (ti W) g tt (te W0) (own.map (·.2))) (gName i), fun W X gd tk => ps_setLc gd.calm (by rw [gd.N]; exact gd.nd) (by rw [gd.N]; exact hN) (by rw [gd.sc]; exact hy) (hsw _ gd.sc) (hti W X gd tk) (by rw [gd.N, gd.sc]; exact ok) (fun s H C cl fp => hg _ (gd.blk s H scope cl C fp))
    (fun s H C cl fp => ht _ (gd.blk s H scope cl C fp) takes0) (fun s H C cl fp => he W0 _ (gd.blk s H scope cl C fp) takes0) (hs _), fun ρ E h W σ F G H as ok acc D l => ?_⟩
  have d := de_lc (K := T.K) (te := te W0) di dg dt (fun ρ Q h W σ F G H as ok acc C k => de ρ Q X0 h W0 σ F G H as ok acc0 C k) hj h
  exact d W σ F G H as ok (acc.at σ) _ fun dv ρ' v G' H' as' q o n r => l.nx _ _ G' H' as' q (o.set i r) n
end
end DL
end

section
set_option Elab.async false
set_option linter.all false
set_option maxRecDepth 100000
set_option maxHeartbeats 1000000
set_option autoImplicit false
namespace DL
variable [Tab0]
open PySem PySem.Spec PyProof.Rows L2

/-! ### data without dicts, as the layer below reads them -/
section
variable {K : PySem.W.Frag} {G H : Hp}
mutual
theorem rep_dp (e : Same G H) : ∀ (d : PyData) (v : V), Rep K G v d → d.hasDict = false → Dp K H v d
  | .none, _, h, _ => by cases h; exact .non
  | .bool b, _, h, _ => by cases h; exact .bl b
  | .int b, _, h, _ => by cases h; exact .int b
  | .str b, _, h, _ => by cases h; exact .str b
  | .list ds, _, h, n => by
    cases h with
    | lst hs r => exact .lst (e.seq hs) (reps_dp e ds _ r (by simpa [PyData.hasDict] using n))
  | .tuple ds, _, h, n => by
    cases h with
    | tup hs r => exact .tup (SqT.of (e _ _ hs)) (reps_dp e ds _ r (by simpa [PyData.hasDict] using n))
  | .dict _, _, _, n => by simp [PyData.hasDict] at n
theorem reps_dp (e : Same G H) : ∀ (ds : List PyData) (vs : List V), Reps K G vs ds → PyData.hasDictAll ds = false → DpAll K H vs ds
  | [], _, h, _ => by cases h; exact .nil
  | d :: ds, _, h, n => by
    cases h with
    | cons h r =>
      have n' : d.hasDict = false ∧ PyData.hasDictAll ds = false := by simpa [PyData.hasDictAll] using n
      exact .cons (rep_dp e d _ h n'.1) (reps_dp e ds _ r n'.2)
end
end

/-! ### repr -/
section
variable {X : Cx} {K : PySem.W.Frag}
def rRepr (K : PySem.W.Frag) : List V → Hp → VK → Prop := fun xs H Q => ∃ v d, xs = [v] ∧ Dp K H v d ∧ d.showable = true ∧ d.hasDict = false ∧ d.shown.length ≤ sizeLine ∧ d.depth ≤ 60 ∧ Q (.str d.shown) H
theorem cr_repr (hg : X.A.guards = some []) (hu : X.A.units + 64 < cLine) : CallR X (.builtin "repr") (rRepr X.K) := by
  intro pins s σ H xs us Q I r h
  obtain ⟨v, d, rfl, hd, hs, hn, hz, hp, q⟩ := h
  obtain ⟨u, rfl, rv⟩ := vals1 r
  have text : ∀ {x : Str}, x = d.shown → ∀ (tk : Nat) (t : Tok), EP X pins σ Q (.str x t) { s with toks := tk } := fun {x} e tk t => ⟨.str d.shown, H, I.tok _, ⟨t, by rw [e]⟩, q⟩
  cases hd with
  | non => cases rv; exact PySem.P.repr_of_none (text (by simp [PyData.shown]) _ _)
  | bl b => cases rv; exact PySem.P.repr_of_bool (text (by simp [PyData.shown]) _ _)
  | int i =>
    obtain ⟨t, rfl⟩ := rv
    exact PySem.P.repr_of_int (by simpa [PyData.showable] using hs) (text (by simp [PyData.shown]) _ _)
  | str x =>
    obtain ⟨t, rfl⟩ := rv
    exact PySem.P.repr_of_str (text (by simp [PyData.shown]) _ _) (by simpa [PyData.shown] using hz)
  | lst h1 h2 =>
    cases rv
    obtain ⟨as, rd⟩ := Dp.reads I _ _ _ (.lst h1 h2) rfl
    exact repr_of_reads' rd hs (PyData.noDict_hsm hn) hg (by omega) (fun _ _ e => e) (fun h' u tk k => ⟨.str _, H, I.kept k, ⟨u, rfl⟩, q⟩) hz
  | tup h1 h2 =>
    cases rv
    obtain ⟨as, rd⟩ := Dp.reads I _ _ _ (.tup h1 h2) rfl
    exact repr_of_reads' rd hs (PyData.noDict_hsm hn) hg (by omega) (fun _ _ e => e) (fun h' u tk k => ⟨.str _, H, I.kept k, ⟨u, rfl⟩, q⟩) hz
def Shows (d : PyData) : Prop := d.showable = true ∧ d.hasDict = false ∧ d.shown.length ≤ sizeLine ∧ d.depth ≤ 60
def dRepr : List DV → S → QD → Prop := fun xs ρ Q => match xs with
  | [.d x] => Shows x ∧ Q (.d (.str x.shown)) ρ
  | _ => False
theorem cad_repr : CaD K (rRepr K) dRepr := by
  intro x ρ Q h σ F G H as v ok r C k
  match x, h, r with
  | [.d x], ⟨⟨h1, h2, h3, h4⟩, q⟩, .cons (v := v) r .nil => exact ⟨v, x, rfl, rep_dp ok.mem.gh x v r h2, h1, h2, h3, h4, k.same ok q (.str _)⟩

/-! ### sorted, of data -/
def rSortD (K : PySem.W.Frag) : List V → Hp → VK → Prop := fun xs H Q => ∃ (G : Hp) (p : Addr) (ys : List V) (ds : List PyData), Same G H ∧ xs = [.ref p] ∧ SqL K H p ys ∧ Reps K G ys ds ∧ PyData.hasDictAll ds = false ∧ PySem.W.AllAlike ds ∧ PySem.W.Sortable ds ∧ (∀ d ∈ ds, d.depth ≤ 60) ∧
  ∀ (q : Addr) (zs : List V), H q = none → Reps K G zs (ds.mergeSort (PySem.W.dataLe false id)) → Q (.ref q) (upd H q (.lst zs))
theorem each_of {G : Hp} : ∀ {ys : List V} {us : List Value} {ds : List PyData}, Vals ys us → Reps K G ys ds → PyData.hasDictAll ds = false → PySem.W.EachIs (fun u d => (∃ v, RelV v u ∧ Rep K G v d) ∧ d.hasDict = false) us ds := by
  intro ys us ds r
  induction r generalizing ds with
  | nil => intro h n; cases h; exact .nil
  | cons r rs ih =>
    intro h n
    cases h with
    | cons h hs =>
      rename_i d ds
      have n' : d.hasDict = false ∧ PyData.hasDictAll ds = false := by simpa [PyData.hasDictAll] using n
      exact .cons ⟨⟨_, r, h⟩, n'.1⟩ (ih hs n'.2)
theorem each_to {G : Hp} {us : List Value} {ds : List PyData} (e : PySem.W.EachIs (fun u d => (∃ v, RelV v u ∧ Rep K G v d) ∧ d.hasDict = false) us ds) : ∃ zs, Vals zs us ∧ Reps K G zs ds := by
  induction e with
  | nil => exact ⟨[], .nil, .nil⟩
  | cons h _ ih =>
    obtain ⟨⟨v, r, h⟩, _⟩ := h
    obtain ⟨zs, h1, h2⟩ := ih
    exact ⟨v :: zs, .cons r h1, .cons h h2⟩
theorem cr_sortD (hu : X.A.units + 64 < cLine) : CallR X (.builtin "sorted") (rSortD X.K) := by
  intro pins s σ H xs us Q I r h
  obtain ⟨G, p, ys, ds, sg, rfl, hs, hd, hnd, ha, hso, hdp, q⟩ := h
  obtain ⟨its, rv, hl, hz⟩ := I.list hs
  rw [Vals.ref1 r]
  have e := each_of rv hd hnd
  have er : PySem.W.EachIs (fun v b => ∃ as, Reads s.heap v (id b) as) its ds := e.mono fun u d ⟨⟨v, h1, h2⟩, h3⟩ => Dp.reads I d v u (rep_dp sg d v h2 h3) h1
  have hn := hd.length
  refine PySem.W.sorted_data hl.isList e er (by simpa using ha) (by simpa using hso) (by omega) (fun b hb => by have := hdp b hb; show X.A.units + 2 + b.depth < cLine; omega) fun out ho eo => ?_
  obtain ⟨zs, z1, z2⟩ := each_to eo
  obtain ⟨ep, he'⟩ := PyProof.Rows.sortedAll_at s.heap its out.toArray
  have hlen : zs.length ≤ sizeLine := by
    have e1 := z2.length
    rw [List.length_mergeSort] at e1
    omega
  exact ⟨.ref _, upd H (s.heap.objs.size + 1) (.lst zs), I.laid (t' := s.toks) (fun _ _ => PyProof.Rows.sortedAll_old) (Nat.le_succ _) ⟨hlen, out, ep, z1, he'⟩, rfl, q _ zs (I.hok.fresh (Nat.le_succ _)) z2⟩
def Sorts (ds : List PyData) : Prop := PyData.hasDictAll ds = false ∧ PySem.W.AllAlike ds ∧ PySem.W.Sortable ds ∧ ∀ d ∈ ds, d.depth ≤ 60
abbrev srt (ds : List PyData) : List PyData := ds.mergeSort (PySem.W.dataLe false id)
/-- the data of a list: known, or one's own -/
def lstOf (ρ : S) : DV → Option (List PyData)
  | .d (.list ds) => some ds
  | .o k => match obK ρ k with
    | .lst xs => allD xs
    | _ => none
  | _ => none
theorem lstOf_rep {F G H : Hp} {as : List Addr} {ρ : S} {σ : St} {v : V} {x : DV} {ds : List PyData} (ok : Ok K ρ σ F G H as) (r : RepV K G as v x) (h : lstOf ρ x = some ds) : ∃ a xs, v = .ref a ∧ SqL K H a xs ∧ Reps K G xs ds := by
  match x, h, r with
  | .d (.list ds'), h, r =>
    have h : some ds' = some ds := h
    cases h
    obtain ⟨a, xs, rfl, hs, rr⟩ := repL r
    exact ⟨a, xs, rfl, ok.mem.gh.seq hs, rr⟩
  | .o n, h, r =>
    unfold lstOf at h
    cases e : obK ρ n with
    | lst xs =>
      simp only [e] at h
      obtain ⟨a, rfl, _, _, vs, hv, rr⟩ := repO ok r e (by intro z; cases z)
      have e3 := allD_eq h
      subst e3
      exact ⟨a, vs, rfl, SqL.of hv, rr.to⟩
    | dk _ => simp only [e] at h; cases h
    | dt _ => simp only [e] at h; cases h
    | st _ => simp only [e] at h; cases h
    | gone => simp only [e] at h; cases h
def dSorted : List DV → S → QD → Prop := fun xs ρ Q => match xs with
  | [x] => ∃ ds, lstOf ρ x = some ds ∧ Sorts ds ∧ Q (.o ρ.ob.length) ⟨ρ.sl, ρ.ob ++ [.lst ((srt ds).map .d)]⟩
  | _ => False
theorem cad_sorted : CaD K (rSortD K) dSorted := by
  intro x ρ Q h σ F G H as v ok r C k
  match x, h, r with
  | [x], ⟨ds, e, ⟨s1, s2, s3, s4⟩, q⟩, .cons (v := v) r .nil =>
    obtain ⟨a, xs, rfl, hs, rr⟩ := lstOf_rep ok r e
    exact ⟨G, a, xs, ds, ok.mem.gh, rfl, hs, rr, s1, s2, s3, s4, fun p zs hp rz => mineL k ok hp (RepVs.of rz) q⟩
end
section
variable {T : Sta} {pos p : Pos} {e : Expr} {es : List Expr} {w : WA}
theorem pd_repr (hg : T.sc.names.lookup ("repr" : Str) = some .globalImplicit) (hm : T.mg "repr" = none) (ha : PDA T [e] w) (he : ∀ env, starEach [e] env = (false, eval e env) :: starEach [] env := by intro _; rfl) : PD T (.Call (.Name "repr" p) [e] [] pos) (wCa dRepr w) :=
  pd_callB (fun X k _ _ _ u g => by rw [← k]; exact cr_repr g u) cad_repr hg hm (by decide +kernel) ha (he := he) (hpl := fun _ => rfl)
theorem pd_sorted (hg : T.sc.names.lookup ("sorted" : Str) = some .globalImplicit) (hm : T.mg "sorted" = none) (ha : PDA T [e] w) (he : ∀ env, starEach [e] env = (false, eval e env) :: starEach [] env := by intro _; rfl) : PD T (.Call (.Name "sorted" p) [e] [] pos) (wCa dSorted w) :=
  pd_callB (fun X k _ _ _ u g => by rw [← k]; exact cr_sortD u) cad_sorted hg hm (by decide +kernel) ha (he := he) (hpl := fun _ => rfl)
end
end DL
end

section
set_option Elab.async false
set_option linter.all false
set_option maxRecDepth 100000
set_option maxHeartbeats 1000000
set_option autoImplicit false
namespace DL
variable [Tab0]
open PySem PySem.Spec PyProof.Rows L2

/-! ### built-ins by values -/
section
variable {T : Sta} {pos p apos : Pos} {a b c e f o i : Expr} {es : List Expr} {wa wb wc we wo : WE} {w : WA} {wt : WT} {K : PySem.W.Frag} {w1 : WS}
/-- the items of a sequence -/
def seqOf (ρ : S) : DV → Option (List DV)
  | .d (.tuple ds) => some (ds.map .d)
  | .d (.list ds) => some (ds.map .d)
  | .o k => match obK ρ k with
    | .lst xs => some xs
    | _ => none
  | _ => none
theorem seqOf_rep {F G H : Hp} {as : List Addr} {ρ : S} {σ : St} {v : V} {x : DV} {ds : List DV} (ok : Ok K ρ σ F G H as) (r : RepV K G as v x) (h : seqOf ρ x = some ds) : ∃ a xs, v = .ref a ∧ (SqL K H a xs ∨ SqT K H a xs) ∧ RepVs K G as xs ds := by
  match x, h, r with
  | .d (.tuple ds'), h, r =>
    have h : some (ds'.map DV.d) = some ds := h
    cases h
    obtain ⟨a, xs, rfl, hs, rr⟩ := repT r
    exact ⟨a, xs, rfl, .inr (same_sqT ok.mem.gh hs), RepVs.of rr⟩
  | .d (.list ds'), h, r =>
    have h : some (ds'.map DV.d) = some ds := h
    cases h
    obtain ⟨a, xs, rfl, hs, rr⟩ := repL r
    exact ⟨a, xs, rfl, .inl (ok.mem.gh.seq hs), RepVs.of rr⟩
  | .o n, h, r =>
    unfold seqOf at h
    cases e : obK ρ n with
    | lst xs =>
      simp only [e] at h
      cases h
      obtain ⟨a, rfl, _, _, vs, hv, rr⟩ := repO ok r e (by intro z; cases z)
      exact ⟨a, vs, rfl, .inl (SqL.of hv), rr⟩
    | dk _ => simp only [e] at h; cases h
    | dt _ => simp only [e] at h; cases h
    | st _ => simp only [e] at h; cases h
    | gone => simp only [e] at h; cases h
def qLen (K : PySem.W.Frag) : List V → Hp → VK → Prop := fun xs H Q => ∃ p ys, xs = [.ref p] ∧ (SqL K H p ys ∨ SqT K H p ys) ∧ Q (.int ys.length) H
def qLst (K : PySem.W.Frag) : List V → Hp → VK → Prop := fun xs H Q => ∃ p ys, xs = [.ref p] ∧ (SqL K H p ys ∨ SqT K H p ys) ∧ ∀ l, H l = none → Q (.ref l) (upd H l (.lst ys))
def qTup (K : PySem.W.Frag) : List V → Hp → VK → Prop := fun xs H Q => ∃ p ys, xs = [.ref p] ∧ ((SqL K H p ys ∧ ∀ l, H l = none → Q (.ref l) (upd H l (.tup ys))) ∨ (SqT K H p ys ∧ Q (.ref p) H))
def dLen : List DV → S → QD → Prop := fun xs ρ Q => match xs with
  | [x] => ∃ l, seqOf ρ x = some l ∧ Q (.d (.int (l.length : Nat))) ρ
  | _ => False
theorem pd_len (hg : T.sc.names.lookup ("len" : Str) = some .globalImplicit) (hm : T.mg "len" = none) (ha : PDA T [e] w) (he : ∀ env, starEach [e] env = (false, eval e env) :: starEach [] env := by intro _; rfl) : PD T (.Call (.Name "len" p) [e] [] pos) (wCa dLen w) :=
  pd_callB (r := qLen T.K) (id := "len") (fun X k _ _ _ _ _ => by rw [← k]; exact call_len_seq) (fun x ρ Q h σ F G H as v ok r C k => by
    match x, h, r with
    | [x], ⟨l, e, q⟩, .cons (v := v) r .nil =>
      obtain ⟨a, xs, rfl, hs, rr⟩ := seqOf_rep ok r e
      exact ⟨a, xs, rfl, hs, by rw [rr.length]; exact k.same ok q (.int _)⟩) hg hm PySem.boot_len ha (he := he) (hpl := fun _ => rfl)
/-- list(..) of a sequence -/
def dList : List DV → S → QD → Prop := fun xs ρ Q => match xs with
  | [x] => ∃ l, seqOf ρ x = some l ∧ Q (.o ρ.ob.length) ⟨ρ.sl, ρ.ob ++ [.lst l]⟩
  | _ => False
theorem pd_list (hg : T.sc.names.lookup ("list" : Str) = some .globalImplicit) (hm : T.mg "list" = none) (ha : PDA T [e] w) (he : ∀ env, starEach [e] env = (false, eval e env) :: starEach [] env := by intro _; rfl) : PD T (.Call (.Name "list" p) [e] [] pos) (wCa dList w) :=
  pd_callTy (r := qLst T.K) (id := "list") (fun X k _ _ _ _ _ => by rw [← k]; exact call_list_of) (fun x ρ Q h σ F G H as v ok r C k => by
    match x, h, r with
    | [x], ⟨l, e, q⟩, .cons (v := v) r .nil =>
      obtain ⟨a, xs, rfl, hs, rr⟩ := seqOf_rep ok r e
      exact ⟨a, xs, rfl, hs, fun p hp => mineL k ok hp rr q⟩) hg hm (by decide +kernel) ha (he := he) (hpl := fun _ => rfl)
/-- tuple(..): of a list a new one, of a tuple itself -/
def dTuple : List DV → S → QD → Prop := fun xs ρ Q => match xs with
  | [.d (.tuple ds)] => Q (.d (.tuple ds)) ρ
  | [x] => ∃ ds, lstOf ρ x = some ds ∧ Q (.d (.tuple ds)) ρ
  | _ => False
theorem pd_tuple (hg : T.sc.names.lookup ("tuple" : Str) = some .globalImplicit) (hm : T.mg "tuple" = none) (ha : PDA T [e] w) (he : ∀ env, starEach [e] env = (false, eval e env) :: starEach [] env := by intro _; rfl) : PD T (.Call (.Name "tuple" p) [e] [] pos) (wCa dTuple w) :=
  pd_callTy (r := qTup T.K) (id := "tuple") (fun X k _ _ _ _ _ => by rw [← k]; exact call_tuple_of) (fun x ρ Q h σ F G H as v ok r C k => by
    have lst : ∀ (x : DV) (v : V), RepV T.K G as v x → (∃ ds, lstOf ρ x = some ds ∧ Q (.d (.tuple ds)) ρ) → ∃ p ys, [v] = [.ref p] ∧ ((SqL T.K H p ys ∧ ∀ l, H l = none → C (.ref l) (upd H l (.tup ys))) ∨ (SqT T.K H p ys ∧ C (.ref p) H)) := fun x v r ⟨ds, e, q⟩ => by
      obtain ⟨a, xs, rfl, hs, rr⟩ := lstOf_rep ok r e
      exact ⟨a, xs, rfl, .inl ⟨hs, fun l hl => k.data ok hl q (.tup upd_same (rr.mono (same_new (ok.mem.fresh hl).1)))⟩⟩
    match x, h, r with
    | [.d (.tuple ds)], q, .cons (v := v) r .nil =>
      obtain ⟨a, xs, rfl, hs, rr⟩ := repTt r
      exact ⟨a, xs, rfl, .inr ⟨same_sqT ok.mem.gh (SqT.of hs), k.same ok q (.tup hs rr)⟩⟩
    | [.d .none], q, .cons (v := v) r .nil => exact lst _ v r q
    | [.d (.bool _)], q, .cons (v := v) r .nil => exact lst _ v r q
    | [.d (.int _)], q, .cons (v := v) r .nil => exact lst _ v r q
    | [.d (.str _)], q, .cons (v := v) r .nil => exact lst _ v r q
    | [.d (.list _)], q, .cons (v := v) r .nil => exact lst _ v r q
    | [.d (.dict _)], q, .cons (v := v) r .nil => exact lst _ v r q
    | [.o _], q, .cons (v := v) r .nil => exact lst _ v r q) hg hm (by decide +kernel) ha (he := he) (hpl := fun _ => rfl)
def dInt : List DV → S → QD → Prop := fun xs ρ Q => match xs with
  | [.d (.int i)] => Q (.d (.int i)) ρ
  | [.d (.bool b)] => Q (.d (.int (if b then 1 else 0))) ρ
  | _ => False
theorem pd_intC (hg : T.sc.names.lookup ("int" : Str) = some .globalImplicit) (hm : T.mg "int" = none) (ha : PDA T [e] w) (he : ∀ env, starEach [e] env = (false, eval e env) :: starEach [] env := by intro _; rfl) : PD T (.Call (.Name "int" p) [e] [] pos) (wCa dInt w) :=
  pd_callTy (id := "int") (fun X k _ _ _ _ _ => call_int1) (fun x ρ Q h σ F G H as v ok r C k => by
    match x, h, r with
    | [.d (.int i)], q, .cons (v := v) r .nil =>
      cases repI r
      exact .inl ⟨i, rfl, k.same ok q (.int i)⟩
    | [.d (.bool i)], q, .cons (v := v) r .nil =>
      cases repB r
      exact .inr ⟨i, rfl, k.same ok q (.int _)⟩) hg hm (by decide +kernel) ha (he := he) (hpl := fun _ => rfl)
def dMin : List DV → S → QD → Prop := fun xs ρ Q => match xs with
  | [.d (.int i), .d (.int j)] => Q (.d (.int (if j < i then j else i))) ρ
  | _ => False
theorem pd_min2 (hg : T.sc.names.lookup ("min" : Str) = some .globalImplicit) (hm : T.mg "min" = none) (ha : PDA T [a, b] w) (he : ∀ env, starEach [a, b] env = (false, eval a env) :: starEach [b] env := by intro _; rfl) (hpl : ∀ env, (backTo pos (starEach [b] env)).any (·.1) = false := by intro _; rfl) :
    PD T (.Call (.Name "min" p) [a, b] [] pos) (wCa dMin w) :=
  pd_callB (fun X k _ _ c _ _ => call_min2 c) (fun x ρ Q h σ F G H as v ok r C k => by
    match x, h, r with
    | [.d (.int i), .d (.int j)], q, .cons (v := v) r (.cons (v := u) r2 .nil) =>
      cases repI r
      cases repI r2
      exact ⟨i, j, rfl, k.same ok q (.int _)⟩) hg hm (by decide +kernel) ha (he := he) (hpl := hpl)
def dMax : List DV → S → QD → Prop := fun xs ρ Q => match xs with
  | [.d (.int i), .d (.int j)] => Q (.d (.int (if j > i then j else i))) ρ
  | _ => False
theorem pd_max2 (hg : T.sc.names.lookup ("max" : Str) = some .globalImplicit) (hm : T.mg "max" = none) (ha : PDA T [a, b] w) (he : ∀ env, starEach [a, b] env = (false, eval a env) :: starEach [b] env := by intro _; rfl) (hpl : ∀ env, (backTo pos (starEach [b] env)).any (·.1) = false := by intro _; rfl) :
    PD T (.Call (.Name "max" p) [a, b] [] pos) (wCa dMax w) :=
  pd_callB (fun X k _ _ c _ _ => call_max2 c) (fun x ρ Q h σ F G H as v ok r C k => by
    match x, h, r with
    | [.d (.int i), .d (.int j)], q, .cons (v := v) r (.cons (v := u) r2 .nil) =>
      cases repI r
      cases repI r2
      exact ⟨i, j, rfl, k.same ok q (.int _)⟩) hg hm (by decide +kernel) ha (he := he) (hpl := hpl)
/-- all(..), any(..) of a list of bools -/
def bools : List PyData → Option (List Bool)
  | [] => some []
  | .bool b :: r => (bools r).map (b :: ·)
  | _ :: _ => none
theorem bools_eq : ∀ {l : List PyData} {bs : List Bool}, bools l = some bs → l = bs.map .bool
  | [], bs, h => by
    have h : some [] = some bs := h
    cases h
    rfl
  | .bool b :: r, bs, h => by
    have h : (bools r).map (b :: ·) = some bs := h
    cases e : bools r with
    | none => rw [e] at h; cases h
    | some l =>
      rw [e] at h
      cases h
      rw [bools_eq e]
      rfl
  | .none :: _, bs, h => by cases h
  | .int _ :: _, bs, h => by cases h
  | .str _ :: _, bs, h => by cases h
  | .list _ :: _, bs, h => by cases h
  | .tuple _ :: _, bs, h => by cases h
  | .dict _ :: _, bs, h => by cases h
theorem bools_map (bs : List Bool) : bools (bs.map .bool) = some bs := by
  induction bs with
  | nil => rfl
  | cons b r ih =>
    show (bools (r.map .bool)).map (b :: ·) = _
    rw [ih]
    rfl
theorem reps_bl {G : Hp} : ∀ {xs : List V} {bs : List Bool}, Reps K G xs (bs.map .bool) → xs = bs.map .bl
  | _, [], h => by cases h; rfl
  | _, b :: r, h => by
    cases h with
    | cons h hs =>
      cases h
      rw [reps_bl hs]
      rfl
def dAll : List DV → S → QD → Prop := fun xs ρ Q => match xs with
  | [x] => ∃ ds bs, lstOf ρ x = some ds ∧ bools ds = some bs ∧ Q (.d (.bool (bs.all id))) ρ
  | _ => False
def dAny : List DV → S → QD → Prop := fun xs ρ Q => match xs with
  | [x] => ∃ ds bs, lstOf ρ x = some ds ∧ bools ds = some bs ∧ Q (.d (.bool (bs.any id))) ρ
  | _ => False
theorem pd_all (hg : T.sc.names.lookup ("all" : Str) = some .globalImplicit) (hm : T.mg "all" = none) (ha : PDA T [e] w) (he : ∀ env, starEach [e] env = (false, eval e env) :: starEach [] env := by intro _; rfl) : PD T (.Call (.Name "all" p) [e] [] pos) (wCa dAll w) :=
  pd_callB (r := L2.rAll T.K) (id := "all") (fun X k _ _ c _ _ => by rw [← k]; exact cr_all c) (fun x ρ Q h σ F G H as v ok r C k => by
    match x, h, r with
    | [x], ⟨ds, bs, e, eb, q⟩, .cons (v := v) r .nil =>
      obtain ⟨a, xs, rfl, hs, rr⟩ := lstOf_rep ok r e
      have e2 := bools_eq eb
      subst e2
      have e3 := reps_bl rr
      subst e3
      exact ⟨a, bs, rfl, hs, k.same ok q (.bl _)⟩) hg hm (by decide +kernel) ha (he := he) (hpl := fun _ => rfl)
theorem pd_any (hg : T.sc.names.lookup ("any" : Str) = some .globalImplicit) (hm : T.mg "any" = none) (ha : PDA T [e] w) (he : ∀ env, starEach [e] env = (false, eval e env) :: starEach [] env := by intro _; rfl) : PD T (.Call (.Name "any" p) [e] [] pos) (wCa dAny w) :=
  pd_callB (r := L2.rAny T.K) (id := "any") (fun X k _ _ c _ _ => by rw [← k]; exact cr_any c) (fun x ρ Q h σ F G H as v ok r C k => by
    match x, h, r with
    | [x], ⟨ds, bs, e, eb, q⟩, .cons (v := v) r .nil =>
      obtain ⟨a, xs, rfl, hs, rr⟩ := lstOf_rep ok r e
      have e2 := bools_eq eb
      subst e2
      have e3 := reps_bl rr
      subst e3
      exact ⟨a, bs, rfl, hs, k.same ok q (.bl _)⟩) hg hm (by decide +kernel) ha (he := he) (hpl := fun _ => rfl)

/-! ### == and != -/
/-- data as a whole: known, or a list of one's own -/
def datOf (ρ : S) : DV → Option PyData
  | .d x => some x
  | .o k => match obK ρ k with
    | .lst xs => (allD xs).map .list
    | _ => none
theorem datOf_rep {F G H : Hp} {as : List Addr} {ρ : S} {σ : St} {v : V} {x : DV} {d : PyData} (ok : Ok K ρ σ F G H as) (r : RepV K G as v x) (h : datOf ρ x = some d) : Rep K H v d := by
  match x, h, r with
  | .d y, h, r =>
    have h : some y = some d := h
    cases h
    exact Rep.mono ok.mem.gh r
  | .o n, h, r =>
    unfold datOf at h
    cases e : obK ρ n with
    | lst xs =>
      simp only [e] at h
      cases e2 : allD xs with
      | none => rw [e2] at h; cases h
      | some ds =>
        rw [e2] at h
        cases h
        obtain ⟨a, rfl, _, _, vs, hv, rr⟩ := repO ok r e (by intro z; cases z)
        have e3 := allD_eq e2
        subst e3
        exact .lst (SqL.of hv) (rr.to.mono ok.mem.gh)
    | dk _ => simp only [e] at h; cases h
    | dt _ => simp only [e] at h; cases h
    | st _ => simp only [e] at h; cases h
    | gone => simp only [e] at h; cases h
def Eqs (d : PyData) : Prop := d.hasDict = false ∧ SeqAt.shaped d = true
def dEq : DV → DV → S → QD → Prop := fun x y ρ Q => ∃ d e, datOf ρ x = some d ∧ datOf ρ y = some e ∧ Eqs d ∧ Eqs e ∧ Q (.d (.bool (PyData.eqv d e))) ρ
def dNe : DV → DV → S → QD → Prop := fun x y ρ Q => ∃ d e, datOf ρ x = some d ∧ datOf ρ y = some e ∧ Eqs d ∧ Eqs e ∧ Q (.d (.bool (!PyData.eqv d e))) ρ
theorem pd_eqD (ha : PD T a wa) (hb : PD T b wb) : PD T (.Compare a [.Eq] [b] pos) (wOp dEq wa wb) :=
  pd_cmp (r := L2.rEqD T.K) (fun X k _ u => by rw [← k]; exact op_eqD u) (fun x y ρ Q h σ F G H as v u ok rx ry C k => by
    obtain ⟨d, e, h1, h2, s1, s2, q⟩ := h
    exact ⟨d, e, rep_dp (Same.refl H) d v (datOf_rep ok rx h1) s1.1, rep_dp (Same.refl H) e u (datOf_rep ok ry h2) s2.1, s1.2, s2.2, k.same ok q (.bl _)⟩) ha hb
theorem pd_neD (ha : PD T a wa) (hb : PD T b wb) : PD T (.Compare a [.NotEq] [b] pos) (wOp dNe wa wb) :=
  pd_cmp (r := L2.rNeD T.K) (fun X k _ u => by rw [← k]; exact op_neD u) (fun x y ρ Q h σ F G H as v u ok rx ry C k => by
    obtain ⟨d, e, h1, h2, s1, s2, q⟩ := h
    exact ⟨d, e, rep_dp (Same.refl H) d v (datOf_rep ok rx h1) s1.1, rep_dp (Same.refl H) e u (datOf_rep ok ry h2) s2.1, s1.2, s2.2, k.same ok q (.bl _)⟩) ha hb
/-- texts, ints -/
def dEqS : DV → DV → S → QD → Prop := fun x y ρ Q => match x, y with
  | .d (.str s), .d (.str t) => Q (.d (.bool (decide (s = t)))) ρ
  | .d (.int s), .d (.int t) => Q (.d (.bool (decide (s = t)))) ρ
  | _, _ => False
def dNeS : DV → DV → S → QD → Prop := fun x y ρ Q => match x, y with
  | .d (.str s), .d (.str t) => Q (.d (.bool (!decide (s = t)))) ρ
  | .d (.int s), .d (.int t) => Q (.d (.bool (!decide (s = t)))) ρ
  | _, _ => False
theorem repS {G : Hp} {as : List Addr} {v : V} {i : Str} (r : RepV K G as v (.d (.str i))) : v = .str i := by
  have r : Rep K G v (.str i) := r
  cases r
  rfl
theorem dec_s {s t : Str} : decide (V.str s = V.str t) = decide (s = t) := by rw [Bool.eq_iff_iff]; simp
theorem dec_i {s t : Int} : decide (V.int s = V.int t) = decide (s = t) := by rw [Bool.eq_iff_iff]; simp
theorem pd_eqS (ha : PD T a wa) (hb : PD T b wb) : PD T (.Compare a [.Eq] [b] pos) (wOp dEqS wa wb) :=
  pd_cmp (fun X _ _ _ => op_eq) (fun x y ρ Q h σ F G H as v u ok rx ry C k => by
    match x, y, h, rx, ry with
    | .d (.str s), .d (.str t), q, rx, ry =>
      cases repS rx
      cases repS ry
      exact ⟨rfl, by rw [dec_s]; exact k.same ok q (.bl _)⟩
    | .d (.int s), .d (.int t), q, rx, ry =>
      cases repI rx
      cases repI ry
      exact ⟨rfl, by rw [dec_i]; exact k.same ok q (.bl _)⟩) ha hb
theorem pd_neS (ha : PD T a wa) (hb : PD T b wb) : PD T (.Compare a [.NotEq] [b] pos) (wOp dNeS wa wb) :=
  pd_cmp (fun X _ _ _ => op_ne) (fun x y ρ Q h σ F G H as v u ok rx ry C k => by
    match x, y, h, rx, ry with
    | .d (.str s), .d (.str t), q, rx, ry =>
      cases repS rx
      cases repS ry
      exact ⟨rfl, by rw [dec_s]; exact k.same ok q (.bl _)⟩
    | .d (.int s), .d (.int t), q, rx, ry =>
      cases repI rx
      cases repI ry
      exact ⟨rfl, by rw [dec_i]; exact k.same ok q (.bl _)⟩) ha hb
/-- is None, is not None -/
def isNn : PyData → Bool
  | .none => true
  | _ => false
def dIsN : DV → DV → S → QD → Prop := fun x y ρ Q => match x, y with
  | .d d, .d .none => Q (.d (.bool (isNn d))) ρ
  | _, _ => False
def dNotN : DV → DV → S → QD → Prop := fun x y ρ Q => match x, y with
  | .d d, .d .none => Q (.d (.bool (!isNn d))) ρ
  | _, _ => False
theorem repN {G : Hp} {v : V} {d : PyData} (r : Rep K G v d) : decide (v = .non) = isNn d := by
  cases r <;> rfl
theorem repNo {G : Hp} {as : List Addr} {v : V} (r : RepV K G as v (.d .none)) : v = .non := by
  have r : Rep K G v .none := r
  cases r
  rfl
theorem pd_isN (ha : PD T a wa) (hb : PD T b wb) : PD T (.Compare a [.Is] [b] pos) (wOp dIsN wa wb) :=
  pd_cmp (r := fun x y H Q => y = .non ∧ Q (.bl (decide (x = .non))) H) (fun X _ _ _ => op_isN) (fun x y ρ Q h σ F G H as v u ok rx ry C k => by
    match x, y, h, rx, ry with
    | .d d, .d .none, q, rx, ry => exact ⟨repNo ry, by rw [repN rx]; exact k.same ok q (.bl _)⟩) ha hb
theorem pd_notN (ha : PD T a wa) (hb : PD T b wb) : PD T (.Compare a [.IsNot] [b] pos) (wOp dNotN wa wb) :=
  pd_cmp (r := fun x y H Q => y = .non ∧ Q (.bl (!decide (x = .non))) H) (fun X _ _ _ => op_notN) (fun x y ρ Q h σ F G H as v u ok rx ry C k => by
    match x, y, h, rx, ry with
    | .d d, .d .none, q, rx, ry => exact ⟨repNo ry, by rw [repN rx]; exact k.same ok q (.bl _)⟩) ha hb
theorem pd_mulW (ha : PD T a wa) (hb : PD T b wb) : PD T (.BinOp a .Mult b pos) (wOp (dII CMulW gMul) wa wb) := pd_op (fun _ _ _ _ => op_mulW) (opd_I (g := gMul) fun _ _ => rfl) ha hb
theorem pd_fdivW (ha : PD T a wa) (hb : PD T b wb) : PD T (.BinOp a .FloorDiv b pos) (wOp (dII CDivW gDiv) wa wb) := pd_op (fun _ _ _ _ => op_fdivW) (opd_I (g := gDiv) fun _ _ => rfl) ha hb

/-! ### what one's own becomes known -/
def ren (k : Nat) (x : PyData) : Option DV → Option DV
  | some (.o j) => if j = k then some (.d x) else some (.o j)
  | y => y
def frz (ρ : S) (k : Nat) : Option (PyData × S) := match obK ρ k with
  | .lst xs => (allD xs).map fun ds => (.list ds, ⟨ρ.sl.map (ren k (.list ds)), ρ.ob.set k .gone⟩)
  | .dk kvs => (allD (kvs.map (·.2))).map fun ds => (.dict ((kvs.map fun p => kP p.1).zip ds), ⟨ρ.sl.map (ren k (.dict ((kvs.map fun p => kP p.1).zip ds))), ρ.ob.set k .gone⟩)
  | .dt kvs => (allD (kvs.map (·.2))).map fun ds => (.dict ((.none, .none) :: (kvs.map fun p => .tuple (p.1.map kP)).zip ds), ⟨ρ.sl.map (ren k (.dict ((.none, .none) :: (kvs.map fun p => .tuple (p.1.map kP)).zip ds))), ρ.ob.set k .gone⟩)
  | .st _ => none
  | .gone => none
def wFrz (wa : WE) : WE := fun ρ Q X => wa ρ (fun dv ρ1 => match dv with
  | .d x => Q (.d x) ρ1
  | .o k => match frz ρ1 k with
    | some (x, ρ2) => Q (.d x) ρ2
    | none => False) X
theorem fz_ok {F G H : Hp} {as : List Addr} {ρ : S} {σ : St} {k : Nat} {a : Addr} {o : HO} {x : PyData} (ok : Ok K ρ σ F G H as) (ha : as[k]? = some a) (ho : H a = some o) (hg : G a = none) (r : Rep K (upd G a o) (.ref a) x) :
    Ok K ⟨ρ.sl.map (ren k x), ρ.ob.set k .gone⟩ σ F (upd G a o) H as ∧ Nxt G as (upd G a o) as := by
  have n : Nxt G as (upd G a o) as := ⟨same_new hg, [], (List.append_nil as).symm⟩
  refine ⟨⟨ok.mem.fz ha ho hg, by rw [List.length_map]; exact ok.sll, fun i dv e => ?_⟩, n⟩
  have e : (ρ.sl.map (ren k x))[i]? = some (some dv) := e
  rw [List.getElem?_map] at e
  cases q : ρ.sl[i]? with
  | none => rw [q] at e; cases e
  | some y =>
    rw [q] at e
    have e : some (ren k x y) = some (some dv) := e
    match y, q, e with
    | none, q, e => cases e
    | some (.d z), q, e =>
      cases e
      obtain ⟨v, e1, rv⟩ := ok.sl i _ q
      exact ⟨v, e1, rv.mono n⟩
    | some (.o j), q, e =>
      obtain ⟨v, e1, rv⟩ := ok.sl i _ q
      by_cases hj : j = k
      · subst hj
        have e : some (if j = j then some (DV.d x) else some (.o j)) = some (some dv) := e
        rw [if_pos rfl] at e
        cases e
        obtain ⟨a', h1, h2⟩ := rv
        rw [ha] at h1
        cases h1
        exact ⟨v, e1, by rw [h2]; exact r⟩
      · have e : some (if j = k then some (DV.d x) else some (.o j)) = some (some dv) := e
        rw [if_neg hj] at e
        cases e
        exact ⟨v, e1, rv.mono n⟩
theorem pd_frz (ha : PD T a wa) : PD T a (wFrz wa) := by
  obtain ⟨t, ht, d⟩ := ha
  refine ⟨t, ht, fun ρ Q X h W σ F G H as ok acc C kk => ?_⟩
  refine d _ _ _ h W σ F G H as ok acc _ fun dv ρ1 v G1 H1 as1 h1 ok1 n1 r1 => ?_
  match dv, h1, r1 with
  | .d x, h1, r1 => exact kk (.d x) ρ1 v G1 H1 as1 h1 ok1 n1 r1
  | .o n, h1, r1 =>
    simp only [frz] at h1
    cases e : obK ρ1 n with
    | st _ => simp only [e] at h1
    | gone => simp only [e] at h1
    | lst xs =>
      simp only [e] at h1
      cases e2 : allD xs with
      | none => simp [e2] at h1
      | some ds =>
        simp only [e2, Option.map_some] at h1
        obtain ⟨a, rfl, hk, hob, vs, hv, rr⟩ := repO ok1 r1 e (by intro z; cases z)
        have e3 := allD_eq e2
        subst e3
        have hg := ok1.mem.own n a _ hk hob (by intro z; cases z)
        have r : Rep T.K (upd G1 a (.lst vs)) (.ref a) (.list ds) := .lst (SqL.of upd_same) (rr.to.mono (same_new hg))
        obtain ⟨ok2, n2⟩ := fz_ok ok1 hk hv hg r
        exact kk _ _ _ _ _ _ h1 ok2 (n1.trans n2) r
    | dk kvs =>
      simp only [e] at h1
      cases e2 : allD (kvs.map (·.2)) with
      | none => simp [e2] at h1
      | some ds =>
        simp only [e2, Option.map_some] at h1
        obtain ⟨a, rfl, hk, hob, ws, hv, hm, rr⟩ := repO ok1 r1 e (by intro z; cases z)
        have e3 := allD_eq e2
        rw [e3] at rr
        have hg := ok1.mem.own n a _ hk hob (by intro z; cases z)
        have r : Rep T.K (upd G1 a (.dK ws)) (.ref a) (.dict ((kvs.map fun p => kP p.1).zip ds)) := by
          have q : Rep T.K (upd G1 a (.dK ws)) (.ref a) (.dict ((ws.map fun p => kP p.1).zip ds)) := .dK upd_same (rr.to.mono (same_new hg))
          have : (ws.map fun p => kP p.1) = kvs.map fun p => kP p.1 := by
            have := congrArg (List.map kP) hm
            rw [List.map_map, List.map_map] at this
            exact this
          rwa [this] at q
        obtain ⟨ok2, n2⟩ := fz_ok ok1 hk hv hg r
        exact kk _ _ _ _ _ _ h1 ok2 (n1.trans n2) r
    | dt kvs =>
      simp only [e] at h1
      cases e2 : allD (kvs.map (·.2)) with
      | none => simp [e2] at h1
      | some ds =>
        simp only [e2, Option.map_some] at h1
        obtain ⟨a, rfl, hk, hob, ws, hv, hm, rr⟩ := repO ok1 r1 e (by intro z; cases z)
        have e3 := allD_eq e2
        rw [e3] at rr
        have hg := ok1.mem.own n a _ hk hob (by intro z; cases z)
        have r : Rep T.K (upd G1 a (.dT ws)) (.ref a) (.dict ((.none, .none) :: (kvs.map fun p => .tuple (p.1.map kP)).zip ds)) := by
          have q : Rep T.K (upd G1 a (.dT ws)) (.ref a) (.dict ((.none, .none) :: (ws.map fun p => .tuple (p.1.map kP)).zip ds)) := .dT upd_same (rr.to.mono (same_new hg))
          have : (ws.map fun p => PyData.tuple (p.1.map kP)) = kvs.map fun p => .tuple (p.1.map kP) := by
            have := congrArg (List.map fun k : List Key => PyData.tuple (k.map kP)) hm
            rw [List.map_map, List.map_map] at this
            exact this
          rwa [this] at q
        obtain ⟨ok2, n2⟩ := fz_ok ok1 hk hv hg r
        exact kk _ _ _ _ _ _ h1 ok2 (n1.trans n2) r
end
end DL
end

section
set_option Elab.async false
set_option linter.all false
set_option maxRecDepth 100000
set_option maxHeartbeats 1000000
set_option autoImplicit false
/-! enumerate over a tuple -/
namespace DL
variable [Tab0]
open PySem PySem.Spec PyProof.Rows L2

abbrev tupIt (t : Addr) : Obj := { cls := .type "tuple_iterator", data := .fields #[.ref t, .int 0 0] }
abbrev enuOf (j : Addr) : Obj := { cls := .type "enumerate", data := .fields #[.none, .bool false, .ref j, rawInt 0, .none, .none] }
theorem enu_new (t : Addr) (cells : Array Value) : Meets (Builtin.«enumerate.__new__» ⟨[.type "enumerate", .ref t], []⟩) fun _ R s =>
    s.heap.IsTuple t cells ∧ R (.ok (.ret (.ref (s.heap.push (tupIt t)).objs.size))) { s with heap := (s.heap.push (tupIt t)).push (enuOf s.heap.objs.size) } := .of_wp fun prog w A R s hh => by
  obtain ⟨hp, g, d, tk, os⟩ := s
  obtain ⟨ht, hq⟩ := hh
  have hsub := sub_enumerate
  have it : ∀ {A' : Around} {E : Value → Shared → Prop} {Q : Value → Shared → Prop}, Q (.ref hp.objs.size) ⟨hp.push (tupIt t), g, d, tk, os⟩ → wpAny (model prog w) A' (pyIter (.ref t)) Q E ⟨hp, g, d, tk, os⟩ := fun q => wpAny_pyIter_tuple ht q
  wp_walk using it
  refine wpAny_stack_any fun _ => wpAny_pure ?_
  split
  · rename_i c _ _ _ _ _
    cases (c == Value.type "enumerate") <;> (wp_walk using it; exact ⟨_, rfl, hq⟩)
  · wp_walk using it
    exact ⟨_, rfl, hq⟩
section
variable {prog : Program} {w : World} {A : Around} {E : Value → Shared → Prop} {s : Shared}
theorem enu_call {t : Addr} {cells : Array Value} {Q : Value → Shared → Prop} (ht : s.heap.IsTuple t cells)
    (k : ∀ h2 : Heap, IsEnum h2 (s.heap.objs.size + 1) s.heap.objs.size 0 .none → h2.IsTupleIter s.heap.objs.size t 0 → (∀ (b : Addr) (o : Obj), s.heap.get? b = some o → h2.get? b = some o) → Q (.ref (s.heap.objs.size + 1)) { s with heap := h2 }) :
    wpAny (model prog w) A (call (.type "enumerate") [.ref t]) Q E s := by
  refine callType_new F.called_enumerate (by decide) (F.typeCall_enumerate_1 _) (F.newCall_enumerate_1 _) (fun _ => F.args_object_init_2 _ _) F.entry_enumerate_new (enu_new t cells) ⟨ht, ?_⟩
  have e1 : (s.heap.push (tupIt t)).objs.size = s.heap.objs.size + 1 := Heap.size_push ..
  have g1 : ((s.heap.push (tupIt t)).push (enuOf s.heap.objs.size)).get? (s.heap.objs.size + 1) = some (enuOf s.heap.objs.size) := by
    rw [← e1]
    exact Heap.get?_push_size _ rfl
  have g0 : ((s.heap.push (tupIt t)).push (enuOf s.heap.objs.size)).get? s.heap.objs.size = some (tupIt t) := Heap.get?_push_of_some _ (Heap.get?_push_size _ rfl)
  show _ ∧ _
  rw [e1]
  exact ⟨⟨_, g1, rfl⟩, k _ g1 ⟨_, g0, rfl, rfl⟩ fun b o q => Heap.get?_push_of_some _ (Heap.get?_push_of_some _ q)⟩
end
def IteT (K : PySem.W.Frag) (a : Addr) : It where
  go := fun i H => ∃ (xs : List V) (x : V), SqT K H a xs ∧ xs[i]? = some x
  yld := fun i H v H2 => ∃ (p : Addr) (x : V), v = .ref p ∧ H p = none ∧ H2 = upd H p (.tup [.int (i : Nat), x]) ∧ ∀ xs, SqT K H a xs → xs[i]? = some x
  stop := fun i H => ∃ xs : List V, SqT K H a xs ∧ xs.length ≤ i
theorem turn_enuT {P : Program} {w : World} {K : PySem.W.Frag} {elts : List Expr} {kk : Nat} {tpos : Pos} {a e it : Addr} (hai : a ≠ it) (hae : a ≠ e) :
    Turn P w K (.Tuple elts kk tpos) (IteT K a) [e, it] e fun i h => (∃ old, IsEnum h e it ((i : Nat) : Int) old) ∧ h.IsTupleIter it a i ∧ e ≠ it where
  mem := List.mem_cons_self
  obj := by
    rintro i h ⟨⟨old, he⟩, ⟨o, ho, hc, hd⟩, _⟩ b hb
    rcases List.mem_cons.mp hb with rfl | hb
    · exact ⟨_, he, fun v q => nomatch q⟩
    · cases List.mem_singleton.mp hb
      exact ⟨o, ho, fun v q => by rw [hd] at q; cases q⟩
  keep := by
    rintro i h h2 ⟨⟨old, he⟩, hi, hne⟩ k
    exact ⟨⟨old, k e List.mem_cons_self _ he⟩, hi.at fun o q => k it (by simp) o q, hne⟩
  item := by
    intro X hP hw hK hc i pins s σ H E I hf st hg
    subst hP hw hK
    obtain ⟨⟨old, he⟩, hit, hne⟩ := st
    obtain ⟨xs, x, hq, hx⟩ := hg
    obtain ⟨its, rv, p, hz⟩ := I.tuple hq
    obtain ⟨u, hu, ru⟩ := rv.get hx
    have tup : s.heap.IsTuple a its.toArray := p
    have li : i < its.toArray.size := by simpa using (List.getElem?_eq_some_iff.mp hu).1
    have hel : e < s.heap.objs.size := Heap.lt_size he
    have hil : it < s.heap.objs.size := by obtain ⟨_, q, _⟩ := hit; exact Heap.lt_size q
    have Dr := Draws.tuple (prog := X.prog) (w := X.w) (A := X.A.in1) (I.ok.hd hc) it a hai its.toArray
    refine wpAny_pyNext_enum_itemD Dr he ⟨hit, tup⟩ li hne (by simp [hne, Ne.symm hae]) fun x2 h2 tk hx2 out hst hT hsz hk => ?_
    have ex : x2 = u := by
      have : its[i]? = some x2 := by simpa using hx2
      rw [hu] at this
      exact (Option.some.inj this).symm
    subst ex
    refine ⟨_, rfl, wpAny_letOwnedTupleGo_enum (s := { s with heap := h2, toks := tk + 1 }) out fun h3 en sb => ?_⟩
    have far : ∀ {b : Addr}, b ∈ [e, it] → b ≠ s.heap.objs.size := fun {b} hb => by
      rcases List.mem_cons.mp hb with rfl | hb
      · exact Nat.ne_of_lt hel
      · cases List.mem_singleton.mp hb
        exact Nat.ne_of_lt hil
    have hT3 : h3.get? s.heap.objs.size = some { cls := .type "tuple", data := .seq #[.int i tk, x2] } := (sb.2 _ (Ne.symm (far List.mem_cons_self))).trans hT
    have laid : ObjOk X.prog X.w (upd H s.heap.objs.size (.tup [.int (i : Nat), x])) h3 s.heap.objs.size (.tup [.int (i : Nat), x]) :=
      ⟨by show 2 ≤ sizeLine; decide, [.int i tk, x2], .cons ⟨_, rfl⟩ (.cons ru .nil), ⟨_, hT3, rfl, _, rfl⟩⟩
    have stay : ∀ (b : Addr) (o : Obj), b ∉ [e, it] → s.heap.get? b = some o → h3.get? b = some o := fun b o hb q => by
      have be : b ≠ e := fun z => hb (z ▸ List.mem_cons_self)
      exact (sb.2 b be).trans (hk b o be (fun z => hb (by simp [z])) q)
    have I1 : Inv X pins σ (upd H s.heap.objs.size (.tup [.int (i : Nat), x])) { s with heap := h3, toks := tk + 1 } := I.turnedNew (ch := [e, it]) stay hf (Nat.le_refl _) laid
    refine ⟨.ref s.heap.objs.size, _, I1, rfl, ⟨_, x, rfl, I.hok.fresh (Nat.le_refl _), rfl, fun ys hy => by rw [I.tuple_inj hy hq]; exact hx⟩, ⟨⟨x2, ?_⟩, hst.1.at fun o q => (sb.2 it (Ne.symm hne)).trans q, hne⟩, fun b hb => ?_⟩
    · rw [Int.natCast_succ]
      exact en
    · rw [upd_ne (far hb)]
      exact (hf b hb).1
  done := by
    intro X hP hw hK hc i pins s σ H E I hf st hg
    subst hP hw hK
    obtain ⟨⟨old, he⟩, hit, hne⟩ := st
    obtain ⟨xs, hq, hx⟩ := hg
    obtain ⟨its, rv, p, hz⟩ := I.tuple hq
    have tup : s.heap.IsTuple a its.toArray := p
    obtain ⟨f0, f1, f2, f3, f4, f5⟩ := hf it (by simp)
    have ge : its.toArray[i]? = none := by
      have := rv.length
      simp
      omega
    have Dr : Draws X.prog X.w X.A.in1 it [it, a] i (fun _ _ => True) fun j h => j = i ∧ h.IsTupleIter it a i ∧ h.IsTuple a its.toArray := by
      refine ⟨fun j h st => let ⟨o, ho, _⟩ := st.2.1; ⟨o, ho⟩, fun j h h2 st k => ⟨st.1, st.2.1.at fun o q => k it (by simp) o q, st.2.2.at fun o q => k a (by simp) o q⟩, fun j s Q E lt st => absurd st.1 (Nat.ne_of_lt lt), fun s Q E st hE => ?_⟩
      exact wpAny_nextOf_tuple_end (I.ok.hd hc) st.2.1 st.2.2 ge hE
    exact wpAny_pyNext_enum_endD Dr he ⟨rfl, hit, tup⟩ fun h2 eb => ⟨rfl, I.turned (t' := s.toks) (fun b o hb q => eb b o hb q) f0 f1 f3 f4 f5⟩
  self := by
    rintro A i s Q E ⟨⟨_, he⟩, _⟩ h
    exact wpAny_pyIter_enum he h
def iEnuT (K : PySem.W.Frag) (ta : TA) : TI := fun σ H R => ta σ H fun vs H1 => ∃ (a : Addr) (xs : List V), vs = [.ref a] ∧ SqT K H1 a xs ∧ R (IteT K a) H1
theorem pi_enuT {X : Cx} {e : Expr} {ta : TA} {p pos tpos : Pos} {elts : List Expr} {kk : Nat} (hg : Gl X "enumerate") (hm : X.mg "enumerate" = none) (ha : PA X [e] ta) (hs : starEach [e] X.env = [(false, eval e X.env)]) :
    PI X (.Tuple elts kk tpos) (.Call (.Name "enumerate" p) [e] [] pos) (iEnuT X.K ta) := by
  constructor
  intro pins s σ H R I h
  refine Call_ (ld_blt I hg hm boot_enumerate ?_)
  refine PyProof.Rows.callWith_type1 (thn (ha.run pos pins s σ H _ I h) ?_) hs rfl
  rintro us s1 ⟨vs, H1, I1, r1, a, xs, ex, hq, q⟩
  subst ex
  rw [Vals.ref1 r1]
  obtain ⟨its, rv, p2, hz⟩ := I1.tuple hq
  have tup : s1.heap.IsTuple a its.toArray := p2
  have ha2 : a < s1.heap.objs.size := by obtain ⟨o, ho, _⟩ := id tup; exact Heap.lt_size ho
  refine enu_call tup fun h2 en ti k => wpAny_pyIter_enum en ?_
  refine ⟨s1.heap.objs.size + 1, [s1.heap.objs.size + 1, s1.heap.objs.size], _, IteT X.K a, H1, rfl, I1.kept (t' := s1.toks) k, turn_enuT (it := s1.heap.objs.size) (Nat.ne_of_lt ha2) (Nat.ne_of_lt (Nat.lt_succ_of_lt ha2)), ⟨⟨.none, en⟩, ti, Nat.succ_ne_self _⟩, fun b hb => ?_, q⟩
  have le : s1.heap.objs.size ≤ b := by
    rcases List.mem_cons.mp hb with rfl | hb
    · exact Nat.le_succ _
    · exact Nat.le_of_eq (List.mem_singleton.mp hb).symm
  exact I1.fpOk le (I1.hok.fresh le)
section
variable {K : PySem.W.Frag} {G : Hp} {a : Addr} {xs : List V} {ds : List PyData}
theorem it_enumT (h : SqT K G a xs) (r : Reps K G xs ds) : ItOk K G (IteT K a) (zipP (rng 0 ds.length) ds) := by
  have hl : (zipP (rng 0 ds.length) ds).length = ds.length := by rw [zip_len, rng_len]; omega
  refine ⟨fun i H hi e => ?_, fun H e => ?_, fun i d hd F G' H as ob e m x H' y => ?_⟩
  · rw [hl] at hi
    have hx : i < xs.length := by rw [r.length]; exact hi
    exact ⟨xs, xs[i], same_sqT e h, by simp [hx]⟩
  · rw [hl]
    exact ⟨xs, same_sqT e h, by rw [r.length]; exact Nat.le_refl _⟩
  · obtain ⟨p, x1, rfl, nT, rfl, f1⟩ := y
    obtain ⟨u1, u2, e1, e2, rfl⟩ := zip_get hd
    obtain ⟨_, rfl⟩ := rng_get e1
    obtain ⟨v2, q2, z2⟩ := r.get e2
    have p2 := f1 xs (same_sqT m.gh (same_sqT e h))
    rw [q2] at p2
    cases p2
    rw [Int.zero_add]
    exact new_pair m nT (.int _) (z2.mono e)
end
section
variable {T : Sta} {pos p : Pos} {a : Expr} {w : WA}
def wiEnu (w : WA) : WI := fun ρ Q X => w ρ (fun xs ρ1 => match xs with
  | [.d (.tuple ds)] => Q (zipP (rng 0 ds.length) ds) ρ1
  | _ => False) X
theorem pdi_enum {elts : List Expr} {kk : Nat} {tpos : Pos} (ha : PDA T [a] w) (hg : T.sc.names.lookup ("enumerate" : Str) = some .globalImplicit) (hm : T.mg "enumerate" = none) (hs : ∀ env, starEach [a] env = [(false, eval a env)] := by intro _; rfl) :
    PDI T (.Tuple elts kk tpos) (.Call (.Name "enumerate" p) [a] [] pos) (wiEnu w) := by
  obtain ⟨t, ht, d⟩ := ha
  refine ⟨fun W => iEnuT T.K (t W), fun W X g tk => by rw [← g.K]; exact pi_enuT (by show X.env.scope.names.lookup _ = _; rw [g.sc]; exact hg) (by rw [g.mg]; exact hm) (ht W X g tk) (hs _), fun ρ Q X h W σ F G H as ok acc R k => ?_⟩
  refine d _ _ _ h W σ F G H as ok acc _ fun x ρ1 v G1 H1 as1 h1 ok1 n1 r1 => ?_
  match x, h1, r1 with
  | [.d (.tuple ds)], h1, .cons (v := v) q .nil =>
    obtain ⟨a, xs, rfl, hs, r⟩ := repT q
    exact ⟨a, xs, rfl, same_sqT ok1.mem.gh hs, k _ ρ1 G1 H1 as1 _ h1 ok1 n1 (it_enumT hs r)⟩
end
end DL
end

section
set_option Elab.async false
set_option linter.all false
set_option maxRecDepth 100000
set_option maxHeartbeats 1000000
set_option autoImplicit false
namespace DL
variable [Tab0]
open PySem PySem.Spec PyProof.Rows L2

section
variable {T : Sta} {pos p apos cpos : Pos} {a b c e f o i value : Expr} {es : List Expr} {wa wb wc we wo wi wv : WE} {w : WA} {wt : WT} {K : PySem.W.Frag} {w1 : WS}
/-! ### a list's methods -/
def tyD (ty : String) (ρ : S) : DV → Prop
  | .d (.list _) => ty = "list"
  | .d (.str _) => ty = "str"
  | .o k => match obK ρ k with
    | .lst _ => ty = "list"
    | .dk _ => ty = "dict"
    | .dt _ => ty = "dict"
    | .st _ => ty = "set"
    | .gone => False
  | _ => False
theorem tyD_ok {F G H : Hp} {as : List Addr} {ρ : S} {σ : St} {v : V} {x : DV} {ty : String} (ok : Ok K ρ σ F G H as) (r : RepV K G as v x) (h : tyD ty ρ x) : tyV K ty v H := by
  match x, h, r with
  | .d (.list _), h, r =>
    obtain ⟨a, xs, rfl, hs, _⟩ := repL r
    exact .inl ⟨h, xs, ok.mem.gh.seq hs⟩
  | .d (.str _), h, r =>
    cases repS r
    exact h
  | .o n, h, r =>
    unfold tyD at h
    cases e : obK ρ n with
    | lst xs =>
      simp only [e] at h
      obtain ⟨a, rfl, _, _, vs, hv, _⟩ := repO ok r e (by intro z; cases z)
      exact .inl ⟨h, vs, SqL.of hv⟩
    | dk xs =>
      simp only [e] at h
      obtain ⟨a, rfl, _, _, vs, hv, _⟩ := repO ok r e (by intro z; cases z)
      exact .inr (.inr (.inl ⟨h, .inl ⟨vs, hv⟩⟩))
    | dt xs =>
      simp only [e] at h
      obtain ⟨a, rfl, _, _, vs, hv, _⟩ := repO ok r e (by intro z; cases z)
      exact .inr (.inr (.inl ⟨h, .inr ⟨vs, hv⟩⟩))
    | st xs =>
      simp only [e] at h
      obtain ⟨a, rfl, _, _, hv, _⟩ := repO ok r e (by intro z; cases z)
      exact .inr (.inr (.inr ⟨h, _, _, hv⟩))
    | gone => simp only [e] at h
/-- a method by values -/
def MtD (K : PySem.W.Frag) (r : V → List V → Hp → VK → Prop) (R : DV → List DV → S → QD → Prop) : Prop :=
  ∀ (x : DV) (xs : List DV) (ρ : S) (Q : QD), R x xs ρ Q → ∀ (σ : St) (F G H : Hp) (as : List Addr) (v : V) (vs : List V), Ok K ρ σ F G H as → RepV K G as v x → RepVs K G as vs xs → ∀ C : VK, Kv K F G as σ Q C → r v vs H C
def wBM (ty : String) (R : DV → List DV → S → QD → Prop) (wo : WE) (w : WA) : WE := fun ρ Q X => wo ρ (fun x ρ1 => tyD ty ρ1 x ∧ w ρ1 (fun xs ρ2 => R x xs ρ2 Q) X) X
theorem pd_bm {name : Str} {ty id : String} {r : V → List V → Hp → VK → Prop} {R : DV → List DV → S → QD → Prop} (pa : PlainAttrs ty) (sl : Slot ty name id) (hty : typeOf (.builtin id) = pure (.type "method_descriptor")) (hm : ∀ X, X.K = T.K → MtR X id r) (hr : MtD T.K r R) (ho : PD T o wo) (ha : PDA T (e :: es) w)
    (hbase : ∀ env, attributeBase o name env (eval o env) = eval o env := by intro _; rfl)
    (hfew : ∀ env, ((backTo cpos (starEach (e :: es) env)).all (fun x => !x.1) && (backToKw cpos (keywordEach [] env)).all (fun x => x.1.isSome)
      && decide ((e :: es).length + ([] : List Keyword).length + (if ([] : List Keyword).isEmpty then 0 else 1) < 30)) = true := by intro _; rfl)
    (hline : (apos.endLine == cpos.line) = true := by rfl) (hs : ∀ env, starEach (e :: es) env = (false, eval e env) :: starEach es env := by intro _; rfl) (hp : ∀ env, (backTo cpos (starEach es env)).any (·.1) = false := by intro _; rfl) :
    PD T (.Call (.Attribute o name apos) (e :: es) [] cpos) (wBM ty R wo w) := by
  obtain ⟨to, ho, d1⟩ := ho
  obtain ⟨ta, ha, da⟩ := ha
  refine ⟨fun W => tBM T.K ty r (to W) (ta W), fun W X g tk => by rw [← g.K]; exact pe_bm pa sl hty (hm X g.K) (ho W X g tk) (ha W X g tk) (hbase _) (hfew _) hline (hs _) (hp _), fun ρ Q X h W σ F G H as ok acc C k => ?_⟩
  refine d1 _ _ _ h W σ F G H as ok acc _ fun x ρ1 v G1 H1 as1 h1 ok1 n1 r1 => ⟨tyD_ok ok1 r1 h1.1, ?_⟩
  refine da _ _ _ h1.2 W σ F G1 H1 as1 ok1 (acc.next n1) _ fun xs ρ2 vs G2 H2 as2 h2 ok2 n2 r2 => ?_
  exact hr x xs ρ2 Q h2 σ F G2 H2 as2 v vs ok2 (r1.mono n2) r2 C (k.next (n1.trans n2))
def wBM0 (ty : String) (R : DV → List DV → S → QD → Prop) (wo : WE) : WE := fun ρ Q X => wo ρ (fun x ρ1 => tyD ty ρ1 x ∧ R x [] ρ1 Q) X
theorem wr_lst {F G H : Hp} {as : List Addr} {ρ : S} {σ : St} {k : Nat} {a : Addr} {vs ws : List V} {xs ys : List DV} (ok : Ok K ρ σ F G H as) (ha : as[k]? = some a) (hk : ρ.ob[k]? = some (.lst xs)) (r : RepVs K G as ws ys) : Ok K ⟨ρ.sl, ρ.ob.set k (.lst ys)⟩ σ F G (upd H a (.lst ws)) as :=
  ok.wr ha hk (by intro z; cases z) ⟨ws, upd_same, r⟩
def dApp : DV → List DV → S → QD → Prop := fun x ys ρ Q => match x, ys with
  | .o k, [y] => match obK ρ k with
    | .lst xs => xs.length < sizeLine ∧ Q (.d .none) ⟨ρ.sl, ρ.ob.set k (.lst (xs ++ [y]))⟩
    | _ => False
  | _, _ => False
theorem mtd_app : MtD K rAppend dApp := by
  intro x ys ρ Q h σ F G H as v vs ok rx ry C k
  match x, ys, h, rx, ry with
  | .o n, [y], h, rx, .cons (v := u) r .nil =>
    unfold dApp at h
    cases e : obK ρ n with
    | lst xs =>
      simp only [e] at h
      obtain ⟨a, rfl, ha, hk, ws, hv, rr⟩ := repO ok rx e (by intro z; cases z)
      refine ⟨a, ws, u, rfl, rfl, hv, by rw [rr.length]; exact h.1, ?_⟩
      exact k _ _ _ G _ as h.2 (wr_lst (vs := ws) ok ha hk (rr.append (.cons r .nil))) (Nxt.refl _ _) .non
    | dk _ => simp only [e] at h
    | dt _ => simp only [e] at h
    | st _ => simp only [e] at h
    | gone => simp only [e] at h
theorem pd_append (ho : PD T o wo) (ha : PDA T [e] w)
    (hbase : ∀ env, attributeBase o ("append" : Str) env (eval o env) = eval o env := by intro _; rfl)
    (hfew : ∀ env, ((backTo cpos (starEach [e] env)).all (fun x => !x.1) && (backToKw cpos (keywordEach [] env)).all (fun x => x.1.isSome)
      && decide ([e].length + ([] : List Keyword).length + (if ([] : List Keyword).isEmpty then 0 else 1) < 30)) = true := by intro _; rfl)
    (hline : (apos.endLine == cpos.line) = true := by rfl) (hs : ∀ env, starEach [e] env = (false, eval e env) :: starEach [] env := by intro _; rfl) :
    PD T (.Call (.Attribute o "append" apos) [e] [] cpos) (wBM "list" dApp wo w) :=
  pd_bm PySem.F.plainAttrs_list PySem.F.slot_list_append PySem.F.type_list_append (fun X _ => mt_append) mtd_app ho ha hbase hfew hline hs (fun _ => rfl)
def dPopAt : DV → List DV → S → QD → Prop := fun x ys ρ Q => match x, ys with
  | .o k, [.d (.int i)] => match obK ρ k with
    | .lst xs => ∃ z, 0 ≤ i ∧ i < 2 ^ 62 ∧ xs[i.toNat]? = some z ∧ Q z ⟨ρ.sl, ρ.ob.set k (.lst (xs.eraseIdx i.toNat))⟩
    | _ => False
  | _, _ => False
theorem RepVs.erase {G : Hp} {as : List Addr} : ∀ {v : List V} {d : List DV} (n : Nat), RepVs K G as v d → RepVs K G as (v.eraseIdx n) (d.eraseIdx n)
  | _, _, _, .nil => .nil
  | _, _, 0, .cons _ r => r
  | _, _, n + 1, .cons h r => .cons h (RepVs.erase n r)
theorem mtd_popAt : MtD K rPopAt dPopAt := by
  intro x ys ρ Q h σ F G H as v vs ok rx ry C k
  match x, ys, h, rx, ry with
  | .o n, [.d (.int i)], h, rx, .cons (v := u) r .nil =>
    cases repI r
    unfold dPopAt at h
    cases e : obK ρ n with
    | lst xs =>
      simp only [e] at h
      obtain ⟨z, h0, h62, hz, q⟩ := h
      obtain ⟨a, rfl, ha, hk, ws, hv, rr⟩ := repO ok rx e (by intro z; cases z)
      obtain ⟨y, hy, ry⟩ := rr.get hz
      have hl : i.toNat < ws.length := (List.getElem?_eq_some_iff.mp hy).1
      refine ⟨a, ws, i, i.toNat, y, rfl, rfl, hv, by omega, by omega, PySem.StrLaws.seqIndex_nonneg h0 (by omega), hy, ?_⟩
      exact k _ _ _ G _ as q (wr_lst (vs := ws) ok ha hk (rr.erase _)) (Nxt.refl _ _) ry
    | dk _ => simp only [e] at h
    | dt _ => simp only [e] at h
    | st _ => simp only [e] at h
    | gone => simp only [e] at h
theorem pd_popAt (ho : PD T o wo) (ha : PDA T [e] w)
    (hbase : ∀ env, attributeBase o ("pop" : Str) env (eval o env) = eval o env := by intro _; rfl)
    (hfew : ∀ env, ((backTo cpos (starEach [e] env)).all (fun x => !x.1) && (backToKw cpos (keywordEach [] env)).all (fun x => x.1.isSome)
      && decide ([e].length + ([] : List Keyword).length + (if ([] : List Keyword).isEmpty then 0 else 1) < 30)) = true := by intro _; rfl)
    (hline : (apos.endLine == cpos.line) = true := by rfl) (hs : ∀ env, starEach [e] env = (false, eval e env) :: starEach [] env := by intro _; rfl) :
    PD T (.Call (.Attribute o "pop" apos) [e] [] cpos) (wBM "list" dPopAt wo w) :=
  pd_bm PySem.F.plainAttrs_list PySem.F.slot_list_pop PySem.F.type_list_pop (fun X _ => mt_popAt) mtd_popAt ho ha hbase hfew hline hs (fun _ => rfl)
def dExt : DV → List DV → S → QD → Prop := fun x ys ρ Q => match x, ys with
  | .o k, [.o j] => match obK ρ k, obK ρ j with
    | .lst xs, .lst zs => xs.length + zs.length ≤ sizeLine ∧ Q (.d .none) ⟨ρ.sl, ρ.ob.set k (.lst (xs ++ zs))⟩
    | _, _ => False
  | _, _ => False
theorem mtd_ext : MtD K rExtend dExt := by
  intro x ys ρ Q h σ F G H as v vs ok rx ry C k
  match x, ys, h, rx, ry with
  | .o n, [.o m], h, rx, .cons (v := u) r .nil =>
    unfold dExt at h
    cases e : obK ρ n with
    | lst xs =>
      cases e2 : obK ρ m with
      | lst zs =>
        simp only [e, e2] at h
        obtain ⟨a, rfl, ha, hk, ws, hv, rr⟩ := repO ok rx e (by intro z; cases z)
        obtain ⟨b, rfl, hb, hj, us, hu, rz⟩ := repO ok r e2 (by intro z; cases z)
        refine ⟨a, b, ws, us, rfl, rfl, hv, hu, by rw [rr.length, rz.length]; exact h.1, ?_⟩
        exact k _ _ _ G _ as h.2 (wr_lst (vs := ws) ok ha hk (rr.append rz)) (Nxt.refl _ _) .non
      | dk _ => simp only [e, e2] at h
      | dt _ => simp only [e, e2] at h
      | st _ => simp only [e, e2] at h
      | gone => simp only [e, e2] at h
    | dk _ => simp only [e] at h
    | dt _ => simp only [e] at h
    | st _ => simp only [e] at h
    | gone => simp only [e] at h
theorem pd_extend (ho : PD T o wo) (ha : PDA T [e] w)
    (hbase : ∀ env, attributeBase o ("extend" : Str) env (eval o env) = eval o env := by intro _; rfl)
    (hfew : ∀ env, ((backTo cpos (starEach [e] env)).all (fun x => !x.1) && (backToKw cpos (keywordEach [] env)).all (fun x => x.1.isSome)
      && decide ([e].length + ([] : List Keyword).length + (if ([] : List Keyword).isEmpty then 0 else 1) < 30)) = true := by intro _; rfl)
    (hline : (apos.endLine == cpos.line) = true := by rfl) (hs : ∀ env, starEach [e] env = (false, eval e env) :: starEach [] env := by intro _; rfl) :
    PD T (.Call (.Attribute o "extend" apos) [e] [] cpos) (wBM "list" dExt wo w) :=
  pd_bm PySem.F.plainAttrs_list PySem.F.slot_list_extend PySem.F.type_list_extend (fun X _ => mt_extend) mtd_ext ho ha hbase hfew hline hs (fun _ => rfl)
def dPop : DV → List DV → S → QD → Prop := fun x ys ρ Q => match x, ys with
  | .o k, [] => match obK ρ k with
    | .lst xs => ∃ z, xs[xs.length - 1]? = some z ∧ Q z ⟨ρ.sl, ρ.ob.set k (.lst xs.dropLast)⟩
    | _ => False
  | _, _ => False
theorem dropLast_take {α : Type} (l : List α) : l.dropLast = l.take (l.length - 1) := List.dropLast_eq_take
theorem pd_pop {pl : Sem Bool} (ho : PD T o wo) (hbase : ∀ env, attributeBase o ("pop" : Str) env (eval o env) = eval o env := by intro _; rfl) (hline : (apos.endLine == cpos.line) = true := by rfl) :
    PD T (.Call (.Attribute o "pop" apos) [] [] cpos) (wBM0 "list" dPop wo) := by
  obtain ⟨to, ho, d1⟩ := ho
  refine ⟨fun W => tBM0 T.K "list" rPop (to W), fun W X g tk => by rw [← g.K]; exact pe_bm0 PySem.F.plainAttrs_list PySem.F.slot_list_pop PySem.F.type_list_pop mt_pop (ho W X g tk) (hbase _) (hline := hline), fun ρ Q X h W σ F G H as ok acc C k => ?_⟩
  refine d1 _ _ _ h W σ F G H as ok acc _ fun x ρ1 v G1 H1 as1 h1 ok1 n1 r1 => ⟨tyD_ok ok1 r1 h1.1, ?_⟩
  obtain ⟨_, h2⟩ := h1
  match x, h2, r1 with
  | .o n, h2, r1 =>
    unfold dPop at h2
    cases e : obK ρ1 n with
    | lst xs =>
      simp only [e] at h2
      obtain ⟨z, hz, q⟩ := h2
      obtain ⟨a, rfl, ha, hk, ws, hv, rr⟩ := repO ok1 r1 e (by intro z; cases z)
      rw [← rr.length] at hz
      obtain ⟨y, hy, ry⟩ := rr.get hz
      refine ⟨a, ws, y, rfl, rfl, hv, hy, ?_⟩
      have r2 : RepVs T.K G1 as1 ws.dropLast xs.dropLast := by
        rw [dropLast_take, dropLast_take, rr.length]
        exact rr.take _
      exact (k.next n1) _ _ _ G1 _ as1 q (wr_lst (vs := ws) ok1 ha hk r2) (Nxt.refl _ _) ry
    | dk _ => simp only [e] at h2
    | dt _ => simp only [e] at h2
    | st _ => simp only [e] at h2
    | gone => simp only [e] at h2

/-! ### dicts -/
def toK : PyData → Option Key
  | .int i => some (.inl i)
  | .str x => some (.inr x)
  | _ => none
theorem toK_kP (k : Key) : toK (kP k) = some k := by cases k <;> rfl
theorem toK_eq {d : PyData} {k : Key} (h : toK d = some k) : d = kP k := by
  cases d <;> first | cases h; rfl | cases h
def toKs : List PyData → Option (List Key)
  | [] => some []
  | d :: r => match toK d, toKs r with
    | some k, some l => some (k :: l)
    | _, _ => none
theorem toKs_kP : ∀ k : List Key, toKs (k.map kP) = some k
  | [] => rfl
  | k :: r => by
    show (match toK (kP k), toKs (r.map kP) with | some k, some l => some (k :: l) | _, _ => none) = _
    rw [toK_kP, toKs_kP r]
theorem toKs_eq : ∀ {d : List PyData} {k : List Key}, toKs d = some k → d = k.map kP
  | [], k, h => by
    have h : some [] = some k := h
    cases h
    rfl
  | d :: r, k, h => by
    unfold toKs at h
    cases e : toK d with
    | none => rw [e] at h; cases h
    | some k1 =>
      cases e2 : toKs r with
      | none => rw [e, e2] at h; cases h
      | some l =>
        rw [e, e2] at h
        cases h
        rw [toK_eq e, toKs_eq e2]
        rfl
def tkey : PyData → Option (List Key)
  | .tuple ds => toKs ds
  | _ => none
theorem tkey_kP (k : List Key) : tkey (.tuple (k.map kP)) = some k := toKs_kP k
theorem tkey_eq {d : PyData} {k : List Key} (h : tkey d = some k) : d = .tuple (k.map kP) := by
  cases d with
  | tuple ds => rw [toKs_eq (show toKs ds = some k from h)]
  | _ => cases h
/-- a table's value at a key -/
def lookD {κ α : Type} [DecidableEq κ] (kvs : List (κ × α)) (k : κ) : Option α := match kvs with
  | [] => none
  | p :: r => if p.1 = k then some p.2 else lookD r k
/-- .. in a known dict with tuple keys -/
def lookT (ps : List (PyData × PyData)) (k : List Key) : Option PyData := match ps with
  | [] => none
  | p :: r => if tkey p.1 = some k then some p.2 else lookT r k
theorem look_rep {κ : Type} [DecidableEq κ] {G : Hp} {as : List Addr} (k : κ) : ∀ {ws : List (κ × V)} {kvs : List (κ × DV)}, ws.map (·.1) = kvs.map (·.1) → RepVs K G as (ws.map (·.2)) (kvs.map (·.2)) →
    (∀ z, lookD kvs k = some z → ∃ v, valV ws k = some v ∧ RepV K G as v z) ∧ (lookD kvs k = none → valV ws k = none)
  | [], [], _, _ => ⟨fun z h => (nomatch h), fun _ => rfl⟩
  | p :: ws, q :: kvs, e, r => by
    have e1 : p.1 = q.1 := (List.cons.inj e).1
    have e2 := (List.cons.inj e).2
    cases r with
    | cons r1 r2 =>
      obtain ⟨i1, i2⟩ := look_rep k e2 r2
      by_cases h : q.1 = k
      · refine ⟨fun z hz => ?_, fun hz => ?_⟩
        · rw [lookD, if_pos h] at hz
          cases hz
          exact ⟨p.2, valV_pos (e1.trans h), r1⟩
        · rw [lookD, if_pos h] at hz
          cases hz
      · rw [lookD, if_neg h, valV_neg (fun z => h (e1.symm.trans z))]
        exact ⟨i1, i2⟩
theorem lookT_rep {G : Hp} (k : List Key) : ∀ {kvs : List (List Key × V)} {ds : List PyData}, Reps K G (kvs.map (·.2)) ds →
    (∀ z, lookT ((kvs.map fun p => .tuple (p.1.map kP)).zip ds) k = some z → ∃ v, valV kvs k = some v ∧ Rep K G v z) ∧ (lookT ((kvs.map fun p => PyData.tuple (p.1.map kP)).zip ds) k = none → valV kvs k = none)
  | [], [], _ => ⟨fun z h => (nomatch h), fun _ => rfl⟩
  | p :: kvs, d :: ds, .cons r1 r2 => by
    obtain ⟨i1, i2⟩ := lookT_rep k r2
    have t : tkey (.tuple (p.1.map kP)) = some p.1 := tkey_kP p.1
    show (∀ z, lookT ((PyData.tuple (p.1.map kP), d) :: _) k = some z → _) ∧ (lookT ((PyData.tuple (p.1.map kP), d) :: _) k = none → _)
    by_cases h : p.1 = k
    · refine ⟨fun z hz => ?_, fun hz => ?_⟩
      · rw [lookT, if_pos (by rw [t, h])] at hz
        cases hz
        exact ⟨p.2, valV_pos h, r1⟩
      · rw [lookT, if_pos (by rw [t, h])] at hz
        cases hz
    · rw [lookT, if_neg (by rw [t]; exact fun z => h (Option.some.inj z)), valV_neg h]
      exact ⟨i1, i2⟩
/-- what d has at y: some: asked rightly -/
def getR (ρ : S) (x : DV) (y : DV) : Option (Option DV) := match x, y with
  | .o k, .d y => match obK ρ k with
    | .dk kvs => (toK y).map fun kk => lookD kvs kk
    | .dt kvs => (tkey y).map fun kl => lookD kvs kl
    | _ => none
  | .d (.dict ((.none, .none) :: ps)), .d y => (tkey y).map fun kl => (lookT ps kl).map .d
  | _, _ => none
def OptRep (K : PySem.W.Frag) (G : Hp) (as : List Addr) : Option V → Option DV → Prop
  | some v, some z => RepV K G as v z
  | none, none => True
  | _, _ => False
theorem tup_key {G : Hp} {as : List Addr} {v : V} {y : PyData} {kl : List Key} (r : RepV K G as v (.d y)) (h : tkey y = some kl) : ∃ b, v = .ref b ∧ G b = some (.tup (kl.map kV)) := by
  rw [tkey_eq h] at r
  obtain ⟨b, xs, e, hb, rr⟩ := repTt r
  refine ⟨b, e, ?_⟩
  have : xs = kl.map kV := by
    clear h r hb e
    induction kl generalizing xs with
    | nil => cases rr; rfl
    | cons k kl ih =>
      cases rr with
      | cons r1 r2 =>
        rw [ih _ r2]
        cases k with
        | inl i => cases r1; rfl
        | inr s => cases r1; rfl
  rw [← this]
  exact hb
theorem getR_ok {F G H : Hp} {as : List Addr} {ρ : S} {σ : St} {v u : V} {x y : DV} {oz : Option DV} (ok : Ok K ρ σ F G H as) (rx : RepV K G as v x) (ry : RepV K G as u y) (h : getR ρ x y = some oz) : ∃ a ov, v = .ref a ∧ DGet H a u ov ∧ OptRep K G as ov oz := by
  have fin : ∀ {ov : Option V} {oz : Option DV}, (∀ z, oz = some z → ∃ v, ov = some v ∧ RepV K G as v z) → (oz = none → ov = none) → OptRep K G as ov oz := fun {ov oz} h1 h2 => by
    cases oz with
    | none => rw [h2 rfl]; trivial
    | some z =>
      obtain ⟨v, e, r⟩ := h1 z rfl
      rw [e]
      exact r
  match x, y, h, rx, ry with
  | .o n, .d y, h, rx, ry =>
    unfold getR at h
    cases e : obK ρ n with
    | dk kvs =>
      simp only [e] at h
      cases e2 : toK y with
      | none => rw [e2] at h; cases h
      | some kk =>
        rw [e2] at h
        cases h
        obtain ⟨a, rfl, _, _, ws, hv, hm, rr⟩ := repO ok rx e (by intro z; cases z)
        obtain ⟨i1, i2⟩ := look_rep kk hm rr
        have eu : u = kV kk := by
          rw [toK_eq e2] at ry
          cases kk with
          | inl i => exact repI ry
          | inr i => exact repS ry
        rw [eu]
        exact ⟨a, _, rfl, DGet.k hv, fin i1 i2⟩
    | dt kvs =>
      simp only [e] at h
      cases e2 : tkey y with
      | none => rw [e2] at h; cases h
      | some kk =>
        rw [e2] at h
        cases h
        obtain ⟨a, rfl, _, _, ws, hv, hm, rr⟩ := repO ok rx e (by intro z; cases z)
        obtain ⟨i1, i2⟩ := look_rep kk hm rr
        obtain ⟨b, rfl, hb⟩ := tup_key ry e2
        exact ⟨a, _, rfl, DGet.t hv (ok.mem.gh _ _ hb), fin i1 i2⟩
    | lst _ => simp only [e] at h; cases h
    | st _ => simp only [e] at h; cases h
    | gone => simp only [e] at h; cases h
  | .d (.dict ((.none, .none) :: ps)), .d y, h, rx, ry =>
    have h : (tkey y).map (fun kl => (lookT ps kl).map DV.d) = some oz := h
    cases e2 : tkey y with
    | none => rw [e2] at h; cases h
    | some kl =>
      rw [e2] at h
      cases h
      obtain ⟨b, rfl, hb⟩ := tup_key ry e2
      have rx : Rep K G v (.dict ((.none, .none) :: ps)) := rx
      generalize ez : (PyData.dict ((.none, .none) :: ps)) = dz at rx
      cases rx with
      | @dK a kvs ds hg rr =>
        exfalso
        cases kvs with
        | nil => injection ez with ez; cases ez
        | cons q kvs =>
          cases ds with
          | nil => cases rr
          | cons d ds =>
            injection ez with ez
            injection ez with ez _
            injection ez with ez _
            cases hq : q.1 with
            | inl _ =>
              have ez : PyData.none = kP q.1 := ez
              rw [hq] at ez
              cases ez
            | inr _ =>
              have ez : PyData.none = kP q.1 := ez
              rw [hq] at ez
              cases ez
      | @dT a kvs ds hg rr =>
        injection ez with ez
        injection ez with _ ez
        subst ez
        obtain ⟨i1, i2⟩ := lookT_rep kl rr
        refine ⟨a, _, rfl, DGet.t (ok.mem.gh _ _ hg) (ok.mem.gh _ _ hb), fin (fun z hz => ?_) (fun hz => ?_)⟩
        · have hz : (lookT ((kvs.map fun p => PyData.tuple (p.1.map kP)).zip ds) kl).map DV.d = some z := hz
          cases e3 : lookT ((kvs.map fun p => PyData.tuple (p.1.map kP)).zip ds) kl with
          | none => rw [e3] at hz; cases hz
          | some z2 =>
            rw [e3] at hz
            cases hz
            exact i1 z2 e3
        · have hz : (lookT ((kvs.map fun p => PyData.tuple (p.1.map kP)).zip ds) kl).map DV.d = none := hz
          cases e3 : lookT ((kvs.map fun p => PyData.tuple (p.1.map kP)).zip ds) kl with
          | none => exact i2 e3
          | some z2 => rw [e3] at hz; cases hz
      | _ => cases ez
end
end DL
end

section
set_option Elab.async false
set_option linter.all false
set_option maxRecDepth 100000
set_option maxHeartbeats 1000000
set_option autoImplicit false
namespace DL
variable [Tab0]
open PySem PySem.Spec PyProof.Rows L2

section
variable {T : Sta} {pos pos' p apos cpos : Pos} {a b c e f o i value : Expr} {es : List Expr} {wa wb wc we wo wi wv wx : WE} {w : WA} {wt : WT} {K : PySem.W.Frag} {w1 : WS}
theorem u1 {A : Around} (h : A.units + 64 < cLine) : A.units + 1 < cLine := by omega
def dDG : DV → DV → S → QD → Prop := fun x y ρ Q => match getR ρ x y with
  | some (some z) => Q z ρ
  | _ => False
def dDI (neg : Bool) : DV → DV → S → QD → Prop := fun y x ρ Q => match getR ρ x y with
  | some oz => Q (.d (.bool (if neg then !oz.isSome else oz.isSome))) ρ
  | none => False
/-- d[k] -/
theorem pd_dget (ho : PD T o wo) (hi : PD T i wi) (hs : NoSl i := by exact fun _ _ => rfl) : PD T (.Subscript o i pos) (wOp dDG wo wi) := by
  obtain ⟨to, ho, d1⟩ := ho
  obtain ⟨ti, hi, d2⟩ := hi
  refine ⟨fun W => tDGet (to W) (ti W), fun W X g tk => pe_dget (u1 g.room.units) (ho W X g tk) (hi W X g tk) hs, fun ρ Q X h W σ F G H as ok acc C k => ?_⟩
  refine d1 _ _ _ h W σ F G H as ok acc _ fun x ρ1 v G1 H1 as1 h1 ok1 n1 r1 => ?_
  refine d2 _ _ _ h1 W σ F G1 H1 as1 ok1 (acc.next n1) _ fun y ρ2 u G2 H2 as2 h2 ok2 n2 r2 => ?_
  have h2 : dDG x y ρ2 Q := h2
  unfold dDG at h2
  cases e : getR ρ2 x y with
  | none => rw [e] at h2; exact h2.elim
  | some oz =>
    cases oz with
    | none => rw [e] at h2; exact h2.elim
    | some z =>
      rw [e] at h2
      obtain ⟨a, ov, rfl, dg, rr⟩ := getR_ok ok2 (r1.mono n2) r2 e
      cases ov with
      | none => exact rr.elim
      | some vv => exact ⟨a, vv, rfl, dg, (k.next (n1.trans n2)).same ok2 h2 rr⟩
theorem opt_some {G : Hp} {as : List Addr} {ov : Option V} {oz : Option DV} (r : OptRep K G as ov oz) : ov.isSome = oz.isSome := by
  cases ov <;> cases oz <;> first | rfl | exact r.elim
/-- k in d, k not in d -/
theorem pd_din (hi : PD T i wi) (ho : PD T o wo) (hm : behindInMarks .In o = false := by rfl) : PD T (.Compare i [.In] [o] pos) (wOp (dDI false) wi wo) := by
  obtain ⟨to, ho, d1⟩ := ho
  obtain ⟨ti, hi, d2⟩ := hi
  refine ⟨fun W => tDIn (ti W) (to W), fun W X g tk => L2.pe_cmp (pc_din (u1 g.room.units) (hi W X g tk) (ho W X g tk)) hm, fun ρ Q X h W σ F G H as ok acc C k => ?_⟩
  refine d2 _ _ _ h W σ F G H as ok acc _ fun y ρ1 u G1 H1 as1 h1 ok1 n1 r1 => ?_
  refine d1 _ _ _ h1 W σ F G1 H1 as1 ok1 (acc.next n1) _ fun x ρ2 v G2 H2 as2 h2 ok2 n2 r2 => ?_
  have h2 : dDI false y x ρ2 Q := h2
  unfold dDI at h2
  cases e : getR ρ2 x y with
  | none => rw [e] at h2; exact h2.elim
  | some oz =>
    rw [e] at h2
    obtain ⟨a, ov, rfl, dg, rr⟩ := getR_ok ok2 r2 (r1.mono n2) e
    exact ⟨a, ov, rfl, dg, by rw [opt_some rr]; exact (k.next (n1.trans n2)).same ok2 h2 (.bl _)⟩
theorem pd_dnin (hi : PD T i wi) (ho : PD T o wo) (hm : behindInMarks .NotIn o = false := by rfl) : PD T (.Compare i [.NotIn] [o] pos) (wOp (dDI true) wi wo) := by
  obtain ⟨to, ho, d1⟩ := ho
  obtain ⟨ti, hi, d2⟩ := hi
  refine ⟨fun W => tDNotIn (ti W) (to W), fun W X g tk => L2.pe_cmp (pc_dnotin (u1 g.room.units) (hi W X g tk) (ho W X g tk)) hm, fun ρ Q X h W σ F G H as ok acc C k => ?_⟩
  refine d2 _ _ _ h W σ F G H as ok acc _ fun y ρ1 u G1 H1 as1 h1 ok1 n1 r1 => ?_
  refine d1 _ _ _ h1 W σ F G1 H1 as1 ok1 (acc.next n1) _ fun x ρ2 v G2 H2 as2 h2 ok2 n2 r2 => ?_
  have h2 : dDI true y x ρ2 Q := h2
  unfold dDI at h2
  cases e : getR ρ2 x y with
  | none => rw [e] at h2; exact h2.elim
  | some oz =>
    rw [e] at h2
    obtain ⟨a, ov, rfl, dg, rr⟩ := getR_ok ok2 r2 (r1.mono n2) e
    exact ⟨a, ov, rfl, dg, by rw [opt_some rr]; exact (k.next (n1.trans n2)).same ok2 h2 (.bl _)⟩
/-- whether it is a dict -/
def isDc (ρ : S) : DV → Bool
  | .o k => match obK ρ k with
    | .dk _ => true
    | .dt _ => true
    | _ => false
  | .d (.dict _) => true
  | _ => false
theorem isDc_ok {F G H : Hp} {as : List Addr} {ρ : S} {σ : St} {v : V} {x : DV} (ok : Ok K ρ σ F G H as) (rx : RepV K G as v x) (h : isDc ρ x = true) : ∃ a, v = .ref a ∧ IsD H a := by
  match x, h, rx with
  | .o n, h, rx =>
    unfold isDc at h
    cases e : obK ρ n with
    | dk kvs =>
      obtain ⟨a, rfl, _, _, ws, hv, _⟩ := repO ok rx e (by intro z; cases z)
      exact ⟨a, rfl, .inl ⟨ws, .inl hv⟩⟩
    | dt kvs =>
      obtain ⟨a, rfl, _, _, ws, hv, _⟩ := repO ok rx e (by intro z; cases z)
      exact ⟨a, rfl, .inr ⟨ws, .inl hv⟩⟩
    | lst _ => simp [e] at h
    | st _ => simp [e] at h
    | gone => simp [e] at h
  | .d (.dict ps), h, rx =>
    have rx : Rep K G v (.dict ps) := rx
    cases rx with
    | dK hg _ => exact ⟨_, rfl, .inl ⟨_, .inl (ok.mem.gh _ _ hg)⟩⟩
    | dT hg _ => exact ⟨_, rfl, .inr ⟨_, .inl (ok.mem.gh _ _ hg)⟩⟩
/-- d.get(k), d.get(k, x) -/
def wGet1 (wo wi : WE) : WE := fun ρ Q X => wo ρ (fun x ρ1 => isDc ρ1 x = true ∧ wi ρ1 (fun y ρ2 => match getR ρ2 x y with
  | some oz => Q (oz.getD (.d .none)) ρ2
  | none => False) X) X
def wGet2 (wo wi wx : WE) : WE := fun ρ Q X => wo ρ (fun x ρ1 => isDc ρ1 x = true ∧ wi ρ1 (fun y ρ2 => wx ρ2 (fun z ρ3 => match getR ρ3 x y with
  | some oz => Q (oz.getD z) ρ3
  | none => False) X) X) X
theorem opt_get {G : Hp} {as : List Addr} {ov : Option V} {oz : Option DV} {v : V} {z : DV} (r : OptRep K G as ov oz) (q : RepV K G as v z) : RepV K G as (ov.getD v) (oz.getD z) := by
  cases ov <;> cases oz <;> first | exact q | exact r | exact r.elim
theorem pd_get1 (ho : PD T o wo) (he : PD T e we) (m : ∀ X : Cx, M1 X o "get" apos e cpos := by exact fun _ => ⟨rfl, rfl, rfl, rfl⟩) : PD T (.Call (.Attribute o "get" apos) [e] [] cpos) (wGet1 wo we) := by
  obtain ⟨to, ho, d1⟩ := ho
  obtain ⟨te, he, d2⟩ := he
  refine ⟨fun W => tDGet1 (to W) (te W), fun W X g tk => pe_dget1 (u1 g.room.units) (ho W X g tk) (he W X g tk) (m X), fun ρ Q X h W σ F G H as ok acc C k => ?_⟩
  refine d1 _ _ _ h W σ F G H as ok acc _ fun x ρ1 v G1 H1 as1 h1 ok1 n1 r1 => ?_
  obtain ⟨a0, e0, id⟩ := isDc_ok ok1 r1 h1.1
  refine ⟨a0, e0, id, ?_⟩
  refine d2 _ _ _ h1.2 W σ F G1 H1 as1 ok1 (acc.next n1) _ fun y ρ2 u G2 H2 as2 h2 ok2 n2 r2 => ?_
  have h2 : (match getR ρ2 x y with | some oz => Q (oz.getD (.d .none)) ρ2 | none => False) := h2
  cases q : getR ρ2 x y with
  | none => rw [q] at h2; exact h2.elim
  | some oz =>
    rw [q] at h2
    obtain ⟨a, ov, ev, dg, rr⟩ := getR_ok ok2 (r1.mono n2) r2 q
    rw [e0] at ev
    cases ev
    exact ⟨ov, dg, (k.next (n1.trans n2)).same ok2 h2 (opt_get rr (show RepV T.K G2 as2 .non (.d .none) from .non))⟩
theorem pd_get2 (ho : PD T o wo) (he : PD T e we) (hf : PD T f wx) (m : ∀ X : Cx, M2 X o "get" apos e f cpos := by exact fun _ => ⟨rfl, rfl, rfl, rfl⟩) : PD T (.Call (.Attribute o "get" apos) [e, f] [] cpos) (wGet2 wo we wx) := by
  obtain ⟨to, ho, d1⟩ := ho
  obtain ⟨te, he, d2⟩ := he
  obtain ⟨tf, hf, d3⟩ := hf
  refine ⟨fun W => tDGet2 (to W) (te W) (tf W), fun W X g tk => pe_dget2 (u1 g.room.units) (ho W X g tk) (he W X g tk) (hf W X g tk) (m X), fun ρ Q X h W σ F G H as ok acc C k => ?_⟩
  refine d1 _ _ _ h W σ F G H as ok acc _ fun x ρ1 v G1 H1 as1 h1 ok1 n1 r1 => ?_
  obtain ⟨a0, e0, id⟩ := isDc_ok ok1 r1 h1.1
  refine ⟨a0, e0, id, ?_⟩
  refine d2 _ _ _ h1.2 W σ F G1 H1 as1 ok1 (acc.next n1) _ fun y ρ2 u G2 H2 as2 h2 ok2 n2 r2 => ?_
  refine d3 _ _ _ h2 W σ F G2 H2 as2 ok2 (acc.next (n1.trans n2)) _ fun z ρ3 uz G3 H3 as3 h3 ok3 n3 r3 => ?_
  have h3 : (match getR ρ3 x y with | some oz => Q (oz.getD z) ρ3 | none => False) := h3
  cases q : getR ρ3 x y with
  | none => rw [q] at h3; exact h3.elim
  | some oz =>
    rw [q] at h3
    obtain ⟨a, ov, ev, dg, rr⟩ := getR_ok ok3 (r1.mono (n2.trans n3)) (r2.mono n3) q
    rw [e0] at ev
    cases ev
    exact ⟨ov, dg, (k.next ((n1.trans n2).trans n3)).same ok3 h3 (opt_get rr r3)⟩
/-- d[k] = v -/
def putD {κ α : Type} [DecidableEq κ] (kvs : List (κ × α)) (k : κ) (v : α) : List (κ × α) := if (kvs.any fun p => decide (p.1 = k)) = true then kvs.map (fun p => if p.1 = k then (p.1, v) else p) else kvs ++ [(k, v)]
theorem put_rep {κ : Type} [DecidableEq κ] {G : Hp} {as : List Addr} (k : κ) {v : V} {z : DV} (hv : RepV K G as v z) {ws : List (κ × V)} {kvs : List (κ × DV)} (e : ws.map (·.1) = kvs.map (·.1)) (r : RepVs K G as (ws.map (·.2)) (kvs.map (·.2))) :
    (putK ws k v).map (·.1) = (putD kvs k z).map (·.1) ∧ RepVs K G as ((putK ws k v).map (·.2)) ((putD kvs k z).map (·.2)) := by
  have any : ∀ {ws : List (κ × V)} {kvs : List (κ × DV)}, ws.map (·.1) = kvs.map (·.1) → (ws.any fun p => decide (p.1 = k)) = (kvs.any fun p => decide (p.1 = k)) := fun {ws kvs} e => by
    have h1 : (ws.any fun p => decide (p.1 = k)) = (ws.map (·.1)).any fun q => decide (q = k) := by rw [List.any_map]; rfl
    have h2 : (kvs.any fun p => decide (p.1 = k)) = (kvs.map (·.1)).any fun q => decide (q = k) := by rw [List.any_map]; rfl
    rw [h1, h2, e]
  unfold putK putD
  rw [any e]
  by_cases h : (kvs.any fun p => decide (p.1 = k)) = true
  · rw [if_pos h, if_pos h]
    clear h any
    induction ws generalizing kvs with
    | nil =>
      cases kvs with
      | nil => exact ⟨rfl, .nil⟩
      | cons _ _ => cases e
    | cons p ws ih =>
      cases kvs with
      | nil => cases e
      | cons q kvs =>
        have e1 : p.1 = q.1 := (List.cons.inj e).1
        cases r with
        | cons r1 r2 =>
          obtain ⟨i1, i2⟩ := ih (List.cons.inj e).2 r2
          rw [List.map_cons, List.map_cons, List.map_cons, List.map_cons, List.map_cons, List.map_cons, i1]
          by_cases hq : q.1 = k
          · rw [if_pos hq, if_pos (e1.trans hq)]
            exact ⟨by rw [e1], .cons hv i2⟩
          · rw [if_neg hq, if_neg (fun z => hq (e1.symm.trans z))]
            exact ⟨by rw [e1], .cons r1 i2⟩
  · rw [if_neg h, if_neg h, List.map_append, List.map_append, List.map_append, List.map_append, e]
    exact ⟨rfl, r.append (.cons hv .nil)⟩
def putR (ρ : S) (x y z : DV) : Option S := match x, y with
  | .o k, .d y => match obK ρ k with
    | .dk kvs => (toK y).map fun kk => ⟨ρ.sl, ρ.ob.set k (.dk (putD kvs kk z))⟩
    | .dt kvs => (tkey y).map fun kl => ⟨ρ.sl, ρ.ob.set k (.dt (putD kvs kl z))⟩
    | _ => none
  | _, _ => none
def fewD (ρ : S) : DV → Bool
  | .o k => match obK ρ k with
    | .dk kvs => decide (kvs.length < sizeLine)
    | .dt kvs => decide (kvs.length < sizeLine)
    | _ => false
  | _ => false
def wPut (wo wi wv : WE) : WS := fun E ρ => wv ρ (fun z ρ1 => wo ρ1 (fun x ρ2 => wi ρ2 (fun y ρ3 => fewD ρ3 x = true ∧ match putR ρ3 x y z with
  | some ρ4 => E.nx ρ4
  | none => False) E.xr) E.xr) E.xr
theorem pds_put (ho : PD T o wo) (hi : PD T i wi) (hv : PD T value wv) (hs : ∀ env, swapsWith value (some (.Subscript o i pos')) pos.line env = pure false := by intro _; rfl) : PDS T (.Assign [.Subscript o i pos'] value pos) (wPut wo wi wv) := by
  obtain ⟨to, ho, d1⟩ := ho
  obtain ⟨ti, hi, d2⟩ := hi
  obtain ⟨tv, hv, d3⟩ := hv
  refine ⟨fun W => sDPut (to W) (ti W) (tv W), fun W X g tk => ps_dput (u1 g.room.units) (ho W X g tk) (hi W X g tk) (hv W X g tk) (hs _), fun ρ E h W σ F G H as ok acc D l => ?_⟩
  refine d3 _ _ _ h W σ F G H as ok (acc.at σ) _ fun z ρ1 v G1 H1 as1 h1 ok1 n1 r1 => ?_
  refine d1 _ _ _ h1 W σ F G1 H1 as1 ok1 ((acc.next n1).at σ) _ fun x ρ2 vx G2 H2 as2 h2 ok2 n2 r2 => ?_
  refine d2 _ _ _ h2 W σ F G2 H2 as2 ok2 ((acc.next (n1.trans n2)).at σ) _ fun y ρ3 vy G3 H3 as3 h3 ok3 n3 r3 => ?_
  obtain ⟨hf, h3⟩ := h3
  have n := (n1.trans n2).trans n3
  have rz := r1.mono (n2.trans n3)
  have rx := r2.mono n3
  match x, y, h3, hf, rx, r3 with
  | .o m, .d y, h3, hf, rx, ry =>
    unfold putR at h3
    unfold fewD at hf
    cases e : obK ρ3 m with
    | dk kvs =>
      simp only [e] at h3 hf
      cases e2 : toK y with
      | none => simp [e2] at h3
      | some kk =>
        simp only [e2, Option.map_some] at h3
        obtain ⟨a, rfl, ha, hk, ws, hw, hm, rr⟩ := repO ok3 rx e (by intro z; cases z)
        have ey : vy = kV kk := by
          rw [toK_eq e2] at ry
          cases kk with
          | inl i => exact repI ry
          | inr i => exact repS ry
        obtain ⟨p1, p2⟩ := put_rep kk rz hm rr
        have len : ws.length = kvs.length := by
          have := congrArg List.length hm
          rwa [List.length_map, List.length_map] at this
        refine ⟨a, _, rfl, by rw [ey]; exact DPut.k hw (by rw [len]; exact of_decide_eq_true hf), ?_⟩
        exact l.nx _ σ G3 _ as3 h3 (ok3.wr (y := .dk (putD kvs kk z)) ha hk (by intro z; cases z) ⟨_, upd_same, p1, p2⟩) n
    | dt kvs =>
      simp only [e] at h3 hf
      cases e2 : tkey y with
      | none => simp [e2] at h3
      | some kl =>
        simp only [e2, Option.map_some] at h3
        obtain ⟨a, rfl, ha, hk, ws, hw, hm, rr⟩ := repO ok3 rx e (by intro z; cases z)
        obtain ⟨b, rfl, hb⟩ := tup_key ry e2
        obtain ⟨p1, p2⟩ := put_rep kl rz hm rr
        have len : ws.length = kvs.length := by
          have := congrArg List.length hm
          rwa [List.length_map, List.length_map] at this
        refine ⟨a, _, rfl, DPut.t hw (ok3.mem.gh _ _ hb) (by rw [len]; exact of_decide_eq_true hf), ?_⟩
        exact l.nx _ σ G3 _ as3 h3 (ok3.wr (y := .dt (putD kvs kl z)) ha hk (by intro z; cases z) ⟨_, upd_same, p1, p2⟩) n
    | lst _ => simp only [e] at h3
    | st _ => simp only [e] at h3
    | gone => simp only [e] at h3
/-- {}: keys that are tuples, other keys -/
def wNewT : WE := fun ρ Q _ => Q (.o ρ.ob.length) ⟨ρ.sl, ρ.ob ++ [.dt []]⟩
def wNewK : WE := fun ρ Q _ => Q (.o ρ.ob.length) ⟨ρ.sl, ρ.ob ++ [.dk []]⟩
theorem mineX {F G H : Hp} {as : List Addr} {ρ : S} {σ : St} {Q : QD} {C : VK} {p : Addr} {o : HO} {x : OB} (k : Kv K F G as σ Q C) (ok : Ok K ρ σ F G H as) (hp : H p = none) (hx : ObAt K G (upd H p o) (as ++ [p]) p x) (q : Q (.o ρ.ob.length) ⟨ρ.sl, ρ.ob ++ [x]⟩) (hno : NoT o := by intro _ h; cases h) : C (.ref p) (upd H p o) := by
  refine k _ _ _ G _ (as ++ [p]) q (ok.mine (x := x) hp hx hno) ⟨Same.refl _, [p], rfl⟩ ⟨p, ?_, rfl⟩
  rw [← ok.mem.len]
  exact get_last _ _
theorem pd_newT : PD T (.Dict [] [] pos) wNewT := ⟨fun _ => tDNewT, fun _ _ _ _ => pe_dnewT, fun ρ Q X h W σ F G H as ok acc C k p hp => mineX (x := .dt []) k ok hp ⟨[], upd_same, rfl, .nil⟩ h⟩
theorem pd_newK : PD T (.Dict [] [] pos) wNewK := ⟨fun _ => tDNewK, fun _ _ _ _ => pe_dnewK, fun ρ Q X h W σ F G H as ok acc C k p hp => mineX (x := .dk []) k ok hp ⟨[], upd_same, rfl, .nil⟩ h⟩
end
end DL
end

section
set_option Elab.async false
set_option linter.all false
set_option maxRecDepth 100000
set_option maxHeartbeats 1000000
set_option autoImplicit false
namespace DL
variable [Tab0]
open PySem PySem.Spec PyProof.Rows L2

/-! ### isinstance -/
section
variable {T : Sta} {pos p p2 q apos cpos : Pos} {a b c e f o i value : Expr} {es : List Expr} {wa wb wc we wo wi wv wx : WE} {w : WA} {wt : WT} {K : PySem.W.Frag} {w1 : WS}
/-- the name of a value's type -/
def tyN (ρ : S) : DV → String
  | .d .none => "NoneType"
  | .d (.bool _) => "bool"
  | .d (.int _) => "int"
  | .d (.str _) => "str"
  | .d (.list _) => "list"
  | .d (.tuple _) => "tuple"
  | .d (.dict _) => "dict"
  | .o k => match obK ρ k with
    | .lst _ => "list"
    | .dk _ => "dict"
    | .dt _ => "dict"
    | .st _ => "set"
    | .gone => "?"
theorem tyN_ok {F G H : Hp} {as : List Addr} {ρ : S} {σ : St} {v : V} {x : DV} (ok : Ok K ρ σ F G H as) (r : RepV K G as v x) (h : tyN ρ x ≠ "?") : TyX K H v (.type (tyN ρ x)) := by
  match x, h, r with
  | .d .none, _, r => cases repNo r; exact .base .non
  | .d (.bool _), _, r => cases repB r; exact .base (.bl _)
  | .d (.int _), _, r => cases repI r; exact .base (.int _)
  | .d (.str _), _, r => cases repS r; exact .base (.str _)
  | .d (.list _), _, r =>
    obtain ⟨a, xs, rfl, hs, _⟩ := repL r
    rcases ok.mem.gh.seq hs with (h | ⟨ob, h⟩) | ⟨ob, its, n, h, hc, _⟩
    · exact .base (.lst h)
    · exact .base (.frz h)
    · exact .kList h hc
  | .d (.tuple _), _, r =>
    obtain ⟨a, xs, rfl, hs, _⟩ := repTt r
    exact .base (.tup (ok.mem.gh _ _ hs))
  | .d (.dict _), _, r =>
    have r : Rep K G v _ := r
    cases r with
    | dK hg _ => exact .base (.dK (ok.mem.gh _ _ hg))
    | dT hg _ => exact .base (.dT (ok.mem.gh _ _ hg))
  | .o n, h, r =>
    unfold tyN at h ⊢
    cases e : obK ρ n with
    | lst xs =>
      obtain ⟨a, rfl, _, _, vs, hv, _⟩ := repO ok r e (by intro z; cases z)
      simp only [e]
      exact .base (.lst hv)
    | dk xs =>
      obtain ⟨a, rfl, _, _, vs, hv, _⟩ := repO ok r e (by intro z; cases z)
      simp only [e]
      exact .base (.dK hv)
    | dt xs =>
      obtain ⟨a, rfl, _, _, vs, hv, _⟩ := repO ok r e (by intro z; cases z)
      simp only [e]
      exact .base (.dT hv)
    | st xs =>
      obtain ⟨a, rfl, _, _, hv, _⟩ := repO ok r e (by intro z; cases z)
      simp only [e]
      exact .set hv
    | gone => simp [e] at h
/-- isinstance(x, T), by the types' names -/
def isiN (t u : String) : Option Bool := kitB t u
def dIsi (u : String) : DV → S → QD → Prop := fun x ρ Q => tyN ρ x ≠ "?" ∧ ∃ b, kitB (tyN ρ x) u = some b ∧ Q (.d (.bool b)) ρ
theorem pd_isi {x : Str} {u : String} (ha : PD T e we) (hg : T.sc.names.lookup ("isinstance" : Str) = some .globalImplicit) (hm : T.mg "isinstance" = none) (hg2 : T.sc.names.lookup x = some .globalImplicit) (hm2 : T.mg x = none) (hv : bootBuiltins x = some (.type u))
    (hn : x ≠ "__name__" := by decide) (hdb : (x == ("__debug__" : Str)) = false := by decide)
    (he : ∀ env, starEach [e, .Name x q] env = (false, eval e env) :: starEach [.Name x q] env := by intro _; rfl) : PD T (.Call (.Name "isinstance" p) [e, .Name x q] [] pos) (wUn (dIsi u) we) := by
  obtain ⟨te, he', d⟩ := ha
  refine ⟨fun W => tCB (rIsi T.K) (tCons (te W) (tCons (tC (.ty u)) tNil)), fun W X g tk => ?_, fun ρ Q X h W σ F G H as ok acc C k => ?_⟩
  · rw [← g.K]
    refine pe_callB call_isi (by show X.env.scope.names.lookup _ = _; rw [g.sc]; exact hg) (by rw [g.mg]; exact hm) (by decide +kernel) (pa_cons (he' W X g tk) (pa_cons (pe_bltn (by show X.env.scope.names.lookup x = _; rw [g.sc]; exact hg2) (by rw [g.mg]; exact hm2) hv rfl hn hdb) pa_nil rfl) (he _)) (by decide) (by decide) (he _) rfl
  · refine d _ _ _ h W σ F G H as ok acc _ fun x ρ1 v G1 H1 as1 h1 ok1 n1 r1 => ?_
    obtain ⟨h0, b, hb, q⟩ := h1
    exact ⟨v, .ty u, .type _, .type u, b, rfl, .ty u, tyN_ok ok1 r1 h0, kit_ty hb, (k.next n1).same ok1 q (.bl _)⟩

/-! ### < of data -/
def rLtDD (K : PySem.W.Frag) : R2 := fun x y H Q => ∃ d e, Dp K H x d ∧ Dp K H y e ∧ PySem.W.alike d e = true ∧ d ≠ .none ∧ d.depth ≤ 60 ∧ Q (.bl (PySem.W.dataLt d e)) H
theorem op_ltDD {X : Cx} (hu : X.A.units + 64 < cLine) : OpR X (compareOp .Lt) (rLtDD X.K) := by
  intro pins s σ H x y v u Q I rx ry h
  obtain ⟨d, e, hd, he, al, hn, hp, q⟩ := h
  obtain ⟨as, r1⟩ := Dp.reads I d x v hd rx
  obtain ⟨bs, r2⟩ := Dp.reads I e y u he ry
  exact PySem.W.rcLt_alike d e X.A s v u as bs r1 r2 al hn (by have := Nat.min_le_left d.depth e.depth; omega) X.prog X.w _ _ ⟨.bl _, H, I, rfl, q⟩
def Lts (d e : PyData) : Prop := PySem.W.alike d e = true ∧ d.hasDict = false ∧ e.hasDict = false ∧ isNn d = false ∧ d.depth ≤ 60
def dLtD : DV → DV → S → QD → Prop := fun x y ρ Q => match x, y with
  | .d d, .d e => Lts d e ∧ Q (.d (.bool (PySem.W.dataLt d e))) ρ
  | _, _ => False
theorem pd_ltD (ha : PD T a wa) (hb : PD T b wb) : PD T (.Compare a [.Lt] [b] pos) (wOp dLtD wa wb) :=
  pd_cmp (r := rLtDD T.K) (fun X k _ u => by rw [← k]; exact op_ltDD u) (fun x y ρ Q h σ F G H as v u ok rx ry C k => by
    match x, y, h, rx, ry with
    | .d d, .d e, ⟨⟨h1, h2, h3, h4, h5⟩, q⟩, rx, ry =>
      exact ⟨d, e, rep_dp ok.mem.gh d v rx h2, rep_dp ok.mem.gh e u ry h3, h1, (fun z => by subst z; cases h4), h5, k.same ok q (.bl _)⟩) ha hb

/-! ### list(range(n)) -/
def dLrg : DV → S → QD → Prop := fun x ρ Q => match x with
  | .d (.int n) => RgOk 0 n ∧ Q (.o ρ.ob.length) ⟨ρ.sl, ρ.ob ++ [.lst ((rng 0 n.toNat).map .d)]⟩
  | _ => False
theorem reps_mapR {α : Type} {K : PySem.W.Frag} {G : Hp} {f : α → V} {g : α → PyData} (h : ∀ x, Rep K G (f x) (g x)) : ∀ l : List α, Reps K G (l.map f) (l.map g)
  | [] => .nil
  | x :: r => .cons (h x) (reps_mapR h r)
theorem reps_rg {K : PySem.W.Frag} {G : Hp} (n : Int) : Reps K G (rgV 0 n) (rng 0 n.toNat) := by
  unfold rgV rng
  rw [Int.sub_zero]
  exact reps_mapR (fun i => .int _) _
theorem pd_listRg (ha : PD T e we) (hg : T.sc.names.lookup ("range" : Str) = some .globalImplicit) (hm : T.mg "range" = none) (hg2 : T.sc.names.lookup ("list" : Str) = some .globalImplicit) (hm2 : T.mg "list" = none)
    (na : ∀ env, starEach [e] env = (false, eval e env) :: starEach [] env := by intro _; rfl)
    (nb : ∀ env, starEach [.Call (.Name "range" p2) [e] [] q] env = (false, eval (.Call (.Name "range" p2) [e] [] q) env) :: starEach [] env := by intro _; rfl) :
    PD T (.Call (.Name "list" p) [.Call (.Name "range" p2) [e] [] q] [] pos) (wUn dLrg we) := by
  obtain ⟨te, he, d⟩ := ha
  refine ⟨fun W => tLstRg (tRg1 (te W)), fun W X g tk => ?_, fun ρ Q X h W σ F G H as ok acc C k => ?_⟩
  · exact pe_listRg g.calm (by show X.env.scope.names.lookup _ = _; rw [g.sc]; exact hg2) (by rw [g.mg]; exact hm2) (prg_1 (by show X.env.scope.names.lookup _ = _; rw [g.sc]; exact hg) (by rw [g.mg]; exact hm) (he W X g tk) (na _)) (nb _)
  · refine d _ _ _ h W σ F G H as ok acc _ fun x ρ1 v G1 H1 as1 h1 ok1 n1 r1 => ?_
    match x, h1, r1 with
    | .d (.int n), ⟨hr, h1⟩, r1 =>
      cases repI r1
      exact ⟨n, rfl, hr, fun p hp => mineL (k.next n1) ok1 hp (RepVs.of (reps_rg n)) h1⟩
/-! ### t * n, sum of a tuple -/
def repD (n : Nat) (ds : List PyData) : List PyData := (List.replicate n ds).flatten
theorem reps_rep {K : PySem.W.Frag} {G : Hp} {xs : List V} {ds : List PyData} (r : Reps K G xs ds) : ∀ n : Nat, Reps K G (List.replicate n xs).flatten (repD n ds)
  | 0 => .nil
  | n + 1 => by
    unfold repD
    rw [List.replicate_succ, List.replicate_succ, List.flatten_cons, List.flatten_cons]
    exact r.append (reps_rep r n)
def dRep : DV → DV → S → QD → Prop := fun x y ρ Q => match x, y with
  | .d (.tuple ds), .d (.int k) => ds ≠ [] ∧ 2 ≤ k ∧ k ≤ 1000 ∧ ds.length ≤ 1000 ∧ Q (.d (.tuple (repD k.toNat ds))) ρ
  | _, _ => False
theorem pd_repT (ha : PD T a wa) (hb : PD T b wb) : PD T (.BinOp a .Mult b pos) (wOp dRep wa wb) :=
  pd_op (r := rRepT T.K) (fun X k _ _ => by rw [← k]; exact op_repT) (fun x y ρ Q h σ F G H as v u ok rx ry C k => by
    match x, y, h, rx, ry with
    | .d (.tuple ds), .d (.int n), ⟨h1, h2, h3, h4, q⟩, rx, ry =>
      cases repI ry
      obtain ⟨a, xs, rfl, hs, r⟩ := repT rx
      refine ⟨a, n, xs, rfl, rfl, same_sqT ok.mem.gh hs, ?_, h2, h3, by rw [r.length]; exact h4, fun p hp => ?_⟩
      · intro z
        subst z
        cases r
        exact h1 rfl
      · exact k.data ok hp q (.tup upd_same ((reps_rep r _).mono (same_new (ok.mem.fresh hp).1)))) ha hb
theorem sum_tupG {prog : Program} {w : World} {A : Around} {E : Value → Shared → Prop} {s : Shared} {l : Addr} {xs : Array (Int × Tok)} {Q : Value → Shared → Prop} (hh : A.handled = none) (hl : s.heap.IsTuple l (intItems xs))
    (h : ∀ h' tk t', (∀ b o, s.heap.get? b = some o → h'.get? b = some o) → Q (.int (preSum (numAt xs) xs.size) t') { s with heap := h', toks := tk }) :
    wpAny (model prog w) A (call (.builtin "sum") [.ref l]) Q E s := by
  have hlt : l < s.heap.objs.size := by obtain ⟨_, e, _⟩ := hl; exact Heap.lt_size e
  have e1 : (s.heap.push (tupIt l)).objs.size = s.heap.objs.size + 1 := Heap.size_push ..
  refine call_sum_walkG (wpAny_pyIter_tuple hl ⟨_, _, _, _, _, _, numAt xs, rfl, Walks.tuple (A := A.in1) hh s.heap.objs.size l (Nat.ne_of_lt hlt) (intItems xs), ⟨⟨_, Heap.get?_push_size _ rfl, rfl, rfl⟩, ?_⟩, fun b hb => ?_, fun _ _ => intItems_at, fun h' tk t' hk => ?_⟩)
  · exact hl.at fun o q => Heap.get?_push_of_some _ q
  · show b < (s.heap.push (tupIt l)).objs.size
    rw [e1]
    rcases List.mem_cons.mp hb with rfl | hb
    · exact Nat.lt_succ_self _
    · cases List.mem_singleton.mp hb
      exact Nat.lt_succ_of_lt hlt
  · have := h h' tk t' fun b o e => hk b o (fun hm => absurd (Heap.lt_size e) (by cases List.mem_singleton.mp hm; exact Nat.lt_irrefl _)) (Heap.get?_push_of_some _ e)
    simpa [intItems] using this
def rSumT (K : PySem.W.Frag) : List V → Hp → VK → Prop := fun vs H Q => ∃ (a : Addr) (ns : List Int), vs = [V.ref a] ∧ SqT K H a (ns.map V.int) ∧ Q (.int ns.sum) H
theorem cr_sumT {X : Cx} (hc : X.calm = true) : CallR X (.builtin "sum") (rSumT X.K) := by
  intro pins s σ H vs us Q I r h
  obtain ⟨a, ns, rfl, hs, q⟩ := h
  obtain ⟨its, rv, hl, _⟩ := I.tuple hs
  rw [Vals.ref1 r]
  have hi := intsAre_of rv
  obtain ⟨xs, e⟩ := hi.allInts.items
  have hn : PySem.numsOf (intItems xs).toList = ns := by rw [← e]; exact hi.numsOf
  rw [nums_intItems] at hn
  have hl : s.heap.IsTuple a its.toArray := hl
  have e : its.toArray = intItems xs := e
  rw [e] at hl
  refine sum_tupG (I.ok.hd hc) hl fun h' tk t' hk => ?_
  rw [preSum_eq, List.take_of_length_le (by simp), hn]
  exact ⟨.int _, H, I.kept hk, ⟨_, rfl⟩, q⟩
/-- the whole numbers of data -/
def intsOf : List PyData → Option (List Int)
  | [] => some []
  | .int i :: r => (intsOf r).map (i :: ·)
  | _ :: _ => none
theorem intsOf_eq : ∀ {l : List PyData} {bs : List Int}, intsOf l = some bs → l = bs.map .int
  | [], bs, h => by
    have h : some [] = some bs := h
    cases h
    rfl
  | .int b :: r, bs, h => by
    have h : (intsOf r).map (b :: ·) = some bs := h
    cases e : intsOf r with
    | none => rw [e] at h; cases h
    | some l =>
      rw [e] at h
      cases h
      rw [intsOf_eq e]
      rfl
  | .none :: _, bs, h => by cases h
  | .bool _ :: _, bs, h => by cases h
  | .str _ :: _, bs, h => by cases h
  | .list _ :: _, bs, h => by cases h
  | .tuple _ :: _, bs, h => by cases h
  | .dict _ :: _, bs, h => by cases h
theorem intsOf_map (bs : List Int) : intsOf (bs.map .int) = some bs := by
  induction bs with
  | nil => rfl
  | cons b r ih =>
    show (intsOf (r.map .int)).map (b :: ·) = _
    rw [ih]
    rfl
theorem reps_int {K : PySem.W.Frag} {G : Hp} : ∀ {xs : List V} {bs : List Int}, Reps K G xs (bs.map .int) → xs = bs.map V.int
  | _, [], h => by cases h; rfl
  | _, b :: r, h => by
    cases h with
    | cons h hs =>
      cases h
      rw [reps_int hs]
      rfl
def dSumT : List DV → S → QD → Prop := fun xs ρ Q => match xs with
  | [.d (.tuple ds)] => ∃ ns, intsOf ds = some ns ∧ Q (.d (.int ns.sum)) ρ
  | _ => False
theorem pd_sumT (hg : T.sc.names.lookup ("sum" : Str) = some .globalImplicit) (hm : T.mg "sum" = none) (ha : PDA T [e] w) (he : ∀ env, starEach [e] env = (false, eval e env) :: starEach [] env := by intro _; rfl) : PD T (.Call (.Name "sum" p) [e] [] pos) (wCa dSumT w) :=
  pd_callB (r := rSumT T.K) (id := "sum") (fun X k _ _ c _ _ => by rw [← k]; exact cr_sumT c) (fun x ρ Q h σ F G H as v ok r C k => by
    match x, h, r with
    | [.d (.tuple ds)], ⟨ns, e, q⟩, .cons (v := v) r .nil =>
      obtain ⟨a, xs, rfl, hs, rr⟩ := repT r
      rw [intsOf_eq e] at rr
      rw [reps_int rr] at hs
      exact ⟨a, ns, rfl, same_sqT ok.mem.gh hs, k.same ok q (.int _)⟩) hg hm (by decide +kernel) ha (he := he) (hpl := fun _ => rfl)
/-! ### xs[::-1] -/
def dRevL : DV → S → QD → Prop := fun x ρ Q => ∃ ds, lstOf ρ x = some ds ∧ Q (.o ρ.ob.length) ⟨ρ.sl, ρ.ob ++ [.lst (ds.reverse.map .d)]⟩
theorem pd_revL {k : Nat} {p1 p3 : Pos} (ha : PD T e we) : PD T (.Subscript e (.Slice none none (some (.UnaryOp .USub (.Constant (.int 1) k p1) p2)) p3) pos) (wUn dRevL we) := by
  obtain ⟨te, he, d⟩ := ha
  refine ⟨fun W => tRevL T.K (te W), fun W X g tk => by rw [← g.K]; exact pe_revL (he W X g tk), fun ρ Q X h W σ F G H as ok acc C kk => ?_⟩
  refine d _ _ _ h W σ F G H as ok acc _ fun x ρ1 v G1 H1 as1 h1 ok1 n1 r1 => ?_
  obtain ⟨ds, e, q⟩ := h1
  obtain ⟨a, xs, rfl, hs, rr⟩ := lstOf_rep ok1 r1 e
  exact ⟨a, xs, rfl, hs, fun p hp => mineL (kk.next n1) ok1 hp (RepVs.of rr.reverse) q⟩
end
end DL
end

section
set_option Elab.async false
set_option linter.all false
set_option maxRecDepth 100000
set_option maxHeartbeats 1000000
set_option autoImplicit false
namespace DL
variable [Tab0]
open PySem PySem.Spec PyProof.Rows L2

section
variable {T : Sta} {pos p p2 q : Pos} {a b c e tg elt iter tg1 iter1 : Expr} {es : List Expr} {wa wb wc we : WE} {w : WA} {wt : WT} {K : PySem.W.Frag}
/-! ### [.. for .. for ..] -/
def wLc2 (wi : WI) (wg : WG) (wi1 : WI) (wg1 : WG) (we : WE) (vs vs1 : List Nat) : WE := fun ρ Q X => wi ρ (fun xs ρ1 => ∃ f : PyData → List PyData, (xs.flatMap f).length ≤ sizeLine ∧
  (∀ (i : Nat) (x : PyData), xs[i]? = some x → ∀ l : List PyData, wg (.d x) ⟨wipeS ρ1.sl vs, ρ1.ob ++ [.lst (l.map .d)]⟩ fun ρ2 => wi1 ρ2 (fun ys ρ3 => ρ3.ob = ρ1.ob ++ [.lst (l.map .d)] ∧ ys.length = (f x).length ∧
    ∀ (j : Nat) (y : PyData), ys[j]? = some y → ∀ l' : List PyData, wg1 (.d y) ⟨wipeS ρ3.sl vs1, ρ1.ob ++ [.lst (l'.map .d)]⟩ fun ρ4 => we ρ4 (fun z ρ5 => ρ5.ob = ρ1.ob ++ [.lst (l'.map .d)] ∧ ∃ dz, (f x)[j]? = some dz ∧ z = .d dz) X0) X0) ∧
  Q (.o ρ1.ob.length) ⟨ρ1.sl, ρ1.ob ++ [.lst ((xs.flatMap f).map .d)]⟩) X
theorem flat_take {f : PyData → List PyData} {xs : List PyData} {i : Nat} {x : PyData} (h : xs[i]? = some x) : (xs.take (i + 1)).flatMap f = (xs.take i).flatMap f ++ f x := by
  rw [List.take_succ, h, List.flatMap_append]
  simp
theorem flat_len {f : PyData → List PyData} {xs : List PyData} {i : Nat} : ((xs.take i).flatMap f).length ≤ (xs.flatMap f).length := by
  have : xs.flatMap f = (xs.take i).flatMap f ++ (xs.drop i).flatMap f := by rw [← List.flatMap_append, List.take_append_drop]
  rw [this, List.length_append]
  omega
theorem same_as {as0 as2 : List Addr} {n : Nat} (h : ∃ r, as2 = as0 ++ r) (l : as2.length = n) (l0 : as0.length = n) : as2 = as0 := by
  obtain ⟨r, e⟩ := h
  have : r = [] := by
    rw [e, List.length_append] at l
    exact List.length_eq_zero_iff.mp (by omega)
  rw [e, this, List.append_nil]
theorem wipe_wipe (σ : St) (vs : List Nat) : L2.wipe (L2.wipe σ vs) vs = L2.wipe σ vs := by
  apply List.ext_getElem?
  intro j
  rw [wipe_get, wipe_get, wipe_length]
  by_cases hv : j ∈ vs ∧ j < σ.length
  · rw [if_pos hv, if_pos hv]
  · rw [if_neg hv, if_neg hv]
theorem yesIte {σ : St} {H : Hp} {A B : Hp → Prop} (h : A H) : tYes σ H (fun b H' => if b = true then A H' else B H') := by
  show if true = true then A H else B H
  rw [if_pos rfl]
  exact h
theorem de_lc2 {ti : WX → TI} {wi wi1 : WI} {g g1 : TG} {wg wg1 : WG} {js js1 vs vs1 : List Nat} {ti1 : TI} {te : TE} (di : ∀ ρ Q X, wi ρ Q X → DI K ti ρ Q X) (dg : DG K g wg js) (di1 : ∀ ρ Q, wi1 ρ Q X0 → DI K (fun _ => ti1) ρ Q X0) (dg1 : DG K g1 wg1 js1)
    (de : ∀ ρ Q, we ρ Q X0 → DE K (fun _ => te) ρ Q X0) (hj : ∀ j ∈ js, j ∈ vs) (hj1 : ∀ j ∈ js1, j ∈ vs1) {ρ : S} {Q : QD} {X : QX} (h : wLc2 wi wg wi1 wg1 we vs vs1 ρ Q X) : DE K (fun W => tLc2 (ti W) g tYes ti1 g1 tYes te vs vs1) ρ Q X := by
  intro W σ F G H as ok acc C k
  refine di _ _ _ h W σ F G H as ok acc _ fun xs ρ1 G1 H1 as1 J h1 ok1 n1 it D hD => ?_
  obtain ⟨f, hz, hst, hd⟩ := h1
  have al : as1.length = ρ1.ob.length := ok1.mem.len
  have nD : Nxt G1 as1 G1 (as1 ++ [D]) := ⟨Same.refl _, [D], rfl⟩
  have lN : ∀ {l : List PyData}, (ρ1.ob ++ [OB.lst (l.map .d)]).length = ρ1.ob.length + 1 := fun {l} => by rw [List.length_append]; rfl
  have lA : (as1 ++ [D]).length = ρ1.ob.length + 1 := by rw [List.length_append, al]; rfl
  have ok0 : Ok K ⟨ρ1.sl, ρ1.ob ++ [.lst ((((xs.take 0).flatMap f)).map .d)]⟩ σ F G1 (upd H1 D (.lst [])) (as1 ++ [D]) := ok1.mine (x := .lst []) hD ⟨[], upd_same, .nil⟩
  refine ⟨fun i m H => m = xs.length - i ∧ i ≤ xs.length ∧ ∃ (G' : Hp), Ok K ⟨ρ1.sl, ρ1.ob ++ [.lst (((xs.take i).flatMap f).map .d)]⟩ σ F G' H (as1 ++ [D]) ∧ Same G1 G',
    ⟨xs.length, by simp, Nat.zero_le _, G1, ok0, Same.refl _⟩, ?_⟩
  rintro i m H2 ⟨rfl, hi, G2, ok2, s2⟩
  by_cases hlt : i < xs.length
  · refine .inr ⟨it.go i H2 hlt (s2.trans ok2.mem.gh), fun H' => i + 1 ≤ xs.length ∧ ∃ (G' : Hp), Ok K ⟨ρ1.sl, ρ1.ob ++ [.lst (((xs.take (i + 1)).flatMap f).map .d)]⟩ σ F G' H' (as1 ++ [D]) ∧ Same G1 G',
      fun H' hN => ⟨xs.length - (i + 1), by omega, rfl, hN⟩, fun x H' y => ?_⟩
    have hx : xs[i]? = some xs[i] := by simp [hlt]
    obtain ⟨G3, m3, s3, r3⟩ := it.yld i _ hx F G2 H2 _ _ s2 ok2.mem x H' y
    have ok3 := ok2.to m3 ⟨s3, [], (List.append_nil _).symm⟩
    refine dg (.d xs[i]) _ _ (hst i _ hx _) (L2.wipe σ vs) F G3 H' (as1 ++ [D]) x (ok3.wipe vs) r3 _ fun ρ4 σ4 G4 H4 as4 q4 ok4 n4 w4 => ⟨by rw [w4 vs hj, wipe_wipe], ?_⟩
    refine yesIte ?_
    refine di1 _ _ q4 W0 σ4 F G4 H4 as4 ok4 acc0 _ fun ys ρ5 G5 H5 as5 J1 q5 ok5 n5 it1 => ?_
    obtain ⟨e5, hyl, hin⟩ := q5
    have n45 := n4.trans n5
    have e5a : as5 = as1 ++ [D] := same_as n45.a (by rw [ok5.mem.len, e5, lN]) lA
    subst e5a
    have ok5' : Ok K ⟨ρ5.sl, ρ1.ob ++ [.lst (((xs.take i).flatMap f ++ (f xs[i]).take 0).map .d)]⟩ σ4 F G5 H5 (as1 ++ [D]) := by
      rw [List.take_zero, List.append_nil, ← e5]
      exact ok5
    refine ⟨fun j k H => k = ys.length - j ∧ j ≤ ys.length ∧ ∃ (G' : Hp), Ok K ⟨ρ5.sl, ρ1.ob ++ [.lst (((xs.take i).flatMap f ++ (f xs[i]).take j).map .d)]⟩ σ4 F G' H (as1 ++ [D]) ∧ Same G5 G',
      ⟨ys.length, by simp, Nat.zero_le _, G5, ok5', Same.refl _⟩, ?_⟩
    rintro j m H6 ⟨rfl, hjl, G6, ok6, s6⟩
    by_cases hlt1 : j < ys.length
    · refine .inr ⟨it1.go j H6 hlt1 (s6.trans ok6.mem.gh), fun H' => j + 1 ≤ ys.length ∧ ∃ (G' : Hp), Ok K ⟨ρ5.sl, ρ1.ob ++ [.lst (((xs.take i).flatMap f ++ (f xs[i]).take (j + 1)).map .d)]⟩ σ4 F G' H' (as1 ++ [D]) ∧ Same G5 G',
        fun H' hN => ⟨ys.length - (j + 1), by omega, rfl, hN⟩, fun x' H' y' => ?_⟩
      have hy : ys[j]? = some ys[j] := by simp [hlt1]
      obtain ⟨G7, m7, s7, r7⟩ := it1.yld j _ hy F G6 H6 _ _ s6 ok6.mem x' H' y'
      have ok7 := ok6.to m7 ⟨s7, [], (List.append_nil _).symm⟩
      refine dg1 (.d ys[j]) _ _ (hin j _ hy _) (L2.wipe σ4 vs1) F G7 H' (as1 ++ [D]) x' (ok7.wipe vs1) r7 _ fun ρ8 σ8 G8 H8 as8 q8 ok8 n8 w8 => ⟨by rw [w8 vs1 hj1, wipe_wipe], ?_⟩
      refine yesIte ?_
      refine de _ _ q8 W0 σ8 F G8 H8 as8 ok8 acc0 _ fun z ρ9 v G9 H9 as9 q9 ok9 n9 r9 => ?_
      obtain ⟨e9, dz, hdz, rfl⟩ := q9
      have n89 := n8.trans n9
      have e9a : as9 = as1 ++ [D] := same_as n89.a (by rw [ok9.mem.len, e9, lN]) lA
      subst e9a
      have hN : (as1 ++ [D])[ρ1.ob.length]? = some D := by rw [← al]; exact get_last _ _
      have ho : ρ9.ob[ρ1.ob.length]? = some (.lst (((xs.take i).flatMap f ++ (f xs[i]).take j).map .d)) := by rw [e9]; exact get_last _ _
      obtain ⟨avs, ha, hr⟩ := ok9.mem.at_ _ _ _ hN ho
      have hra := hr.to
      have hnew : ((xs.take i).flatMap f ++ (f xs[i]).take j) ++ [dz] = (xs.take i).flatMap f ++ (f xs[i]).take (j + 1) := by
        rw [List.take_succ, hdz, List.append_assoc]
        rfl
      refine ⟨avs, ha, ?_, hlt1, G9, ?_, (s6.trans s7).trans n89.g⟩
      · rw [hra.length]
        have q1 : ((xs.take (i + 1)).flatMap f).length ≤ (xs.flatMap f).length := flat_len
        rw [flat_take hx, List.length_append] at q1
        have q2 : j < (f xs[i]).length := (List.getElem?_eq_some_iff.mp hdz).1
        rw [List.length_append, List.length_take]
        omega
      · have m10 := ok9.mem.wr (o := .lst (avs ++ [v])) (y := .lst ((((xs.take i).flatMap f ++ (f xs[i]).take j) ++ [dz]).map .d)) hN ho (by intro z; cases z) ⟨avs ++ [v], upd_same, RepVs.of (hra.append (.cons r9 .nil))⟩
        have e10 : ρ9.ob.set ρ1.ob.length (.lst ((((xs.take i).flatMap f ++ (f xs[i]).take j) ++ [dz]).map .d)) = ρ1.ob ++ [.lst (((xs.take i).flatMap f ++ (f xs[i]).take (j + 1)).map .d)] := by
          rw [e9, List.set_append_right _ _ (Nat.le_refl _), Nat.sub_self, hnew]
          rfl
        rw [e10] at m10
        exact ok7.to m10 n89
    · have e : j = ys.length := by omega
      subst e
      refine .inl ⟨it1.stop H6 (s6.trans ok6.mem.gh), hlt, G6, ?_, (s2.trans s3).trans (n45.g.trans s6)⟩
      have : (xs.take (i + 1)).flatMap f = (xs.take i).flatMap f ++ (f xs[i]).take ys.length := by rw [flat_take hx, hyl, List.take_length]
      rw [this]
      exact ok3.to ok6.mem ⟨n45.g.trans s6, [], (List.append_nil _).symm⟩
  · have e : i = xs.length := by omega
    subst e
    rw [List.take_length] at ok2
    refine .inl ⟨it.stop H2 (s2.trans ok2.mem.gh), ?_⟩
    refine (k.next n1) (.o ρ1.ob.length) _ (.ref D) G2 H2 (as1 ++ [D]) hd ok2 ⟨s2, [D], rfl⟩ ⟨D, ?_, rfl⟩
    rw [← al]
    exact get_last _ _
theorem pd_lc2 {scope : Scope} {own : List (Str × Nat)} {wi wi1 : WI} {wg wg1 : WG} {js js1 : List Nat} (vs1 : List Nat) (hi : PDI T tg iter wi) (ok : BlkOk T.N T.sc scope own) (hg : PDG (blkT T scope) tg wg js) (hi1 : PDI (blkT T scope) tg1 iter1 wi1) (hg1 : PDG (blkT T scope) tg1 wg1 js1) (he : PD (blkT T scope) elt we)
    (hj : ∀ j ∈ js, j ∈ own.map (·.2) := by decide) (hj1 : ∀ j ∈ js1, j ∈ vs1 := by decide) (hv : ∀ j ∈ vs1, j ∈ own.map (·.2) := by decide) (hs : ∀ env x, foldedSetIterable iter env x = pure x := by intro _ _; rfl) (hs1 : ∀ env x, foldedSetIterable iter1 env x = pure x := by intro _ _; rfl) :
    PD T (.ListComp elt [⟨tg, iter, [], 0⟩, ⟨tg1, iter1, [], 0⟩] scope pos) (wLc2 wi wg wi1 wg1 we (own.map (·.2)) vs1) := by
  obtain ⟨ti, hti, di⟩ := hi
  obtain ⟨g, hg, dg⟩ := hg
  obtain ⟨ti1, hti1, di1⟩ := hi1
  obtain ⟨g1, hg1, dg1⟩ := hg1
  obtain ⟨te, he, de⟩ := he
  refine ⟨fun W => tLc2 (ti W) g tYes (ti1 W0) g1 tYes (te W0) (own.map (·.2)) vs1, fun W X gd tk => pe_lc2 gd.calm (by rw [gd.N]; exact gd.nd) (hti W X gd tk) (by rw [gd.N, gd.sc]; exact ok) hv (fun s H C cl fp => hg _ (gd.blk s H scope cl C fp))
    (fun s H C cl fp => pts_nil) (fun s H C cl fp => hti1 W0 _ (gd.blk s H scope cl C fp) takes0) (fun s H C cl fp => hg1 _ (gd.blk s H scope cl C fp)) (fun s H C cl fp => pts_nil)
    (fun s H C cl fp => he W0 _ (gd.blk s H scope cl C fp) takes0) (hs _) (hs1 := hs1), fun ρ Q X h => ?_⟩
  exact de_lc2 (K := T.K) (ti1 := ti1 W0) (te := te W0) di dg (fun ρ Q h W σ F G H as ok acc R k => di1 ρ Q X0 h W0 σ F G H as ok acc0 R k) dg1 (fun ρ Q h W σ F G H as ok acc C k => de ρ Q X0 h W0 σ F G H as ok acc0 C k) hj hj1 h
end
end DL
end

section
set_option Elab.async false
set_option linter.all false
set_option maxRecDepth 100000
set_option maxHeartbeats 1000000
set_option autoImplicit false
namespace DL
variable [Tab0]
open PySem PySem.Spec PyProof.Rows L2

section
variable {T : Sta} {pos p p2 q : Pos} {a b c e o i v tg elt iter tg1 iter1 : Expr} {es : List Expr} {wa wb wc we wo wi wv : WE} {w : WA} {wt : WT} {K : PySem.W.Frag}
/-! ### {text: value, ..} -/
def PDP (T : Sta) (pos : Pos) (ks : List Str) (keys : List (Option Expr)) (values : List Expr) (w : WA) : Prop := ∃ trs : WX → List (TE × TE), (∀ W X, Good T X → Takes X W → PPs X pos keys values (trs W)) ∧
  ∀ ρ Q Xq, w ρ Q Xq → ∀ (W : WX) (σ : St) (F G H : Hp) (as : List Addr), Ok T.K ρ σ F G H as → AccE T.K F G as σ W Xq → ∀ C : List (V × V) → Hp → Prop,
    (∀ (xs : List DV) (ρ' : S) (vs : List V) (G' H' : Hp) (as' : List Addr), Q xs ρ' → Ok T.K ρ' σ F G' H' as' → Nxt G as G' as' → RepVs T.K G' as' vs xs → vs.length = ks.length → C ((ks.map V.str).zip vs) H') → tPairs (trs W) σ H C
theorem pdp_nil : PDP T pos [] [] [] wNil := ⟨fun _ => [], fun _ _ _ _ => pps_nil, fun ρ Q X h W σ F G H as ok acc C k => k [] ρ [] G H as h ok (Nxt.refl _ _) .nil rfl⟩
theorem pdp_cons {x : Str} {j : Nat} {kp : Pos} {ks : List Str} {keys : List (Option Expr)} {values : List Expr} (ha : PD T v wv) (hr : PDP T pos ks keys values w) : PDP T pos (x :: ks) (some (.Constant (.str x) j kp) :: keys) (v :: values) (wCons wv w) := by
  obtain ⟨ta, ha, da⟩ := ha
  obtain ⟨tr, hr, dr⟩ := hr
  refine ⟨fun W => (tC (.str x), ta W) :: tr W, fun W X g tk => pps_cons pe_str (ha W X g tk) (hr W X g tk), fun ρ Q X h W σ F G H as ok acc C k => ?_⟩
  show ta W σ H fun y H2 => tPairs (tr W) σ H2 fun ps H3 => C ((V.str x, y) :: ps) H3
  refine da _ _ _ h W σ F G H as ok acc _ fun y ρ1 u G1 H1 as1 h1 ok1 n1 r1 => ?_
  refine dr _ _ _ h1 W σ F G1 H1 as1 ok1 (acc.next n1) _ fun xs ρ2 vs G2 H2 as2 h2 ok2 n2 r2 l2 => ?_
  exact k (y :: xs) ρ2 (u :: vs) G2 H2 as2 h2 ok2 (n1.trans n2) (.cons (r1.mono n2) r2) (by rw [List.length_cons, List.length_cons, l2])
def putsD : List (Key × DV) → List Str → List DV → List (Key × DV)
  | kvs, k :: ks, x :: xs => putsD (putD kvs (.inr k) x) ks xs
  | kvs, _, _ => kvs
def wDisp (ks : List Str) (w : WA) : WE := fun ρ Q X => w ⟨ρ.sl, ρ.ob ++ [.dk []]⟩ (fun xs ρ1 => ρ1.ob[ρ.ob.length]? = some (.dk []) ∧ Q (.o ρ.ob.length) ⟨ρ1.sl, ρ1.ob.set ρ.ob.length (.dk (putsD [] ks xs))⟩) X
theorem puts_rep {G : Hp} {as : List Addr} : ∀ (ks : List Str) {vs : List V} {xs : List DV} {ws : List (Key × V)} {kvs : List (Key × DV)}, RepVs K G as vs xs → vs.length = ks.length → ws.map (·.1) = kvs.map (·.1) → RepVs K G as (ws.map (·.2)) (kvs.map (·.2)) →
    (mergeK ws ((ks.map Sum.inr).zip vs)).map (·.1) = (putsD kvs ks xs).map (·.1) ∧ RepVs K G as ((mergeK ws ((ks.map Sum.inr).zip vs)).map (·.2)) ((putsD kvs ks xs).map (·.2))
  | [], vs, xs, ws, kvs, r, l, e, rr => by
    cases r with
    | nil => exact ⟨e, rr⟩
    | cons _ _ => cases l
  | k :: ks, _, _, ws, kvs, .nil, l, e, rr => by cases l
  | k :: ks, _, _, ws, kvs, .cons (v := v) (vs := vs) (d := x) (ds := xs) r1 r, l, e, rr => by
    obtain ⟨p1, p2⟩ := put_rep (Sum.inr k) r1 e rr
    exact puts_rep ks r (Nat.succ.inj l) p1 p2
theorem zip_kv : ∀ (ks : List Str) (vs : List V), (ks.map V.str).zip vs = ((ks.map Sum.inr).zip vs).map (fun kv : Key × V => (kV kv.1, kv.2))
  | [], _ => rfl
  | _ :: _, [] => rfl
  | k :: ks, v :: vs => by
    show (V.str k, v) :: (ks.map V.str).zip vs = (V.str k, v) :: _
    rw [zip_kv ks vs]
    rfl
theorem pd_disp {ks : List Str} {keys : List (Option Expr)} {values : List Expr} (h : PDP T pos ks keys values w) (hall : keys.all (·.isSome) = true) (hl : keys.length = values.length) (h0 : keys ≠ []) (h15 : keys.length ≤ 15) (hk : ks.length ≤ 15) : PD T (.Dict keys values pos) (wDisp ks w) := by
  obtain ⟨tr, hr, dr⟩ := h
  refine ⟨fun W => tDisp (tr W), fun W X g tk => pe_disp (hr W X g tk) hall hl h0 h15, fun ρ Q X h W σ F G H as ok acc C k p hp => ?_⟩
  have ok1 : Ok T.K ⟨ρ.sl, ρ.ob ++ [.dk []]⟩ σ F G (upd H p (.dK [])) (as ++ [p]) := ok.mine (x := .dk []) hp ⟨[], upd_same, rfl, .nil⟩
  have n1 : Nxt G as G (as ++ [p]) := ⟨Same.refl _, [p], rfl⟩
  refine dr _ _ _ h W σ F G _ _ ok1 (acc.next n1) _ fun xs ρ1 vs G2 H2 as2 h2 ok2 n2 r2 l2 => ?_
  obtain ⟨ho, q⟩ := h2
  have hN : (as ++ [p])[ρ.ob.length]? = some p := by rw [← ok.mem.len]; exact get_last _ _
  have hN2 := n2.get hN
  obtain ⟨ws, hw, hm, rr⟩ := ok2.mem.at_ _ _ _ hN2 ho
  have ew : ws = [] := List.map_eq_nil_iff.mp hm
  subst ew
  obtain ⟨p1, p2⟩ := puts_rep ks (ws := []) (kvs := []) r2 l2 rfl .nil
  refine ⟨hw, (ks.map Sum.inr).zip vs, zip_kv ks vs, ?_, ?_⟩
  · rw [List.length_zip, List.length_map]
    omega
  · exact k _ _ _ G2 _ as2 q (ok2.wr (y := .dk (putsD [] ks xs)) hN2 ho (by intro z; cases z) ⟨_, upd_same, p1, p2⟩) (n1.trans n2) ⟨p, hN2, rfl⟩
/-! ### len(set(..)) of tuples of whole numbers -/
def dcn : List (List Int) → Nat
  | [] => 0
  | x :: r => if x ∈ r then dcn r else dcn r + 1
theorem dcn_eq : ∀ (l M : List (List Int)), M.Nodup → (∀ y, y ∈ M ↔ y ∈ l) → M.length = dcn l
  | [], M, hN, h => by
    cases M with
    | nil => rfl
    | cons x r => exact absurd ((h x).mp List.mem_cons_self) (by simp)
  | x :: r, M, hN, h => by
    unfold dcn
    by_cases hx : x ∈ r
    · rw [if_pos hx]
      refine dcn_eq r M hN fun y => (h y).trans ?_
      rw [List.mem_cons]
      exact ⟨fun z => z.elim (fun e => e ▸ hx) id, .inr⟩
    · rw [if_neg hx]
      have hm : x ∈ M := (h x).mpr List.mem_cons_self
      have := dcn_eq r (M.erase x) (hN.erase x) fun y => by
        rw [hN.mem_erase_iff, h y, List.mem_cons]
        refine ⟨fun ⟨h1, h2⟩ => h2.resolve_left h1, fun hy => ⟨fun e => hx (e ▸ hy), .inr hy⟩⟩
      rw [List.length_erase_of_mem hm] at this
      have hp : 0 < M.length := List.length_pos_of_mem hm
      omega
def tLenSetT (K : PySem.W.Frag) (ta : TE) : TE := fun σ H Q => ta σ H fun x H1 => ∃ (l : Addr) (ks : List (Addr × List Int)), x = V.ref l ∧ SqL K H1 l (ks.map fun p => V.ref p.1) ∧ (∀ p ∈ ks, SqT K H1 p.1 (p.2.map V.int)) ∧ ks.length < 64 ∧ Q (.int (dcn (ks.map (·.2)) : Nat)) H1
theorem pe_lenSetT {X : Cx} {a : Expr} {ta : TE} {p p2 q pos : Pos} (hc : X.calm = true) (hu : X.A.units + 64 < cLine) (hg : Gl X "len") (hm : X.mg "len" = none) (hg2 : Gl X "set") (hm2 : X.mg "set" = none) (ha : PE X a ta)
    (na : starEach [a] X.env = (false, eval a X.env) :: starEach [] X.env := by rfl) : PE X (.Call (.Name "len" p) [.Call (.Name "set" p2) [a] [] q] [] pos) (tLenSetT X.K ta) := by
  refine ⟨fun pins s σ H Q I h => ?_⟩
  refine Call_ (ld_blt I hg hm PySem.boot_len ?_)
  refine PyProof.Rows.callWith_builtin1 (PyProof.Rows.args_cons ?_ rfl) rfl rfl
  refine Call_ (ld_blt I hg2 hm2 PyProof.Rows.boot_set ?_)
  refine PyProof.Rows.callWith_type1 (PyProof.Rows.args_cons (thn (ha.run pins s σ H _ I h) fun v s1 ⟨x, H1, I1, r1, q1⟩ => PyProof.Rows.args_nil ?_) na) na rfl
  obtain ⟨l, ks, rfl, hl, hk, hf, q1⟩ := q1
  cases r1
  obtain ⟨its, rv, pl, hz⟩ := I1.list hl
  refine call_set_tups (P := X.prog) (w := X.w) ks (I1.ok.hd hc) pl.isList (by simpa using refs_of_vals rv) (fun p hp => I1.isT (hk p hp)) hf (by omega) fun h' tk L es ep t R g k => ?_
  refine PyProof.Rows.args_nil ?_
  obtain ⟨o, ho, hex, hd⟩ := R.ob
  have I2 : Inv X pins σ H1 { s1 with heap := h', toks := tk } := I1.kept k
  have e : es.size = dcn (ks.map (·.2)) := by
    rw [SetTR.size (s := { s1 with heap := h' }) R]
    have := dcn_eq (ks.map (·.2)) (L.map (·.2)) R.nd fun y => by
      constructor
      · intro hy
        obtain ⟨p, hp, rfl⟩ := List.mem_map.mp hy
        exact List.mem_map.mpr ⟨p, List.mem_of_mem_take (g.sub p hp), rfl⟩
      · intro hy
        obtain ⟨p, hp, rfl⟩ := List.mem_map.mp hy
        exact g.all p (by rw [List.take_length]; exact hp)
    rwa [List.length_map] at this
  have few := R.few
  have sz := SetTR.size (s := { s1 with heap := h' }) R
  refine call_len_set ho hex hd (SetTR.fits (s := { s1 with heap := h' }) R) (by omega) ⟨.int (dcn (ks.map (·.2)) : Nat), H1, I2.tok _, ⟨_, by rw [e]⟩, q1⟩
def rowI : PyData → Option (List Int)
  | .tuple ds => intsOf ds
  | _ => none
def rowsI : List PyData → Option (List (List Int))
  | [] => some []
  | d :: r => match rowI d, rowsI r with
    | some x, some l => some (x :: l)
    | _, _ => none
theorem rowI_eq {d : PyData} {x : List Int} (h : rowI d = some x) : d = .tuple (x.map .int) := by
  cases d with
  | tuple ds => rw [intsOf_eq (show intsOf ds = some x from h)]
  | _ => cases h
theorem rows_rep {G : Hp} : ∀ {xs : List V} {ds : List PyData} {rs : List (List Int)}, Reps K G xs ds → rowsI ds = some rs → ∃ ks : List (Addr × List Int), xs = ks.map (fun p => V.ref p.1) ∧ ks.map (·.2) = rs ∧ ∀ p ∈ ks, G p.1 = some (.tup (p.2.map V.int))
  | _, _, rs, .nil, h => by
    have h : some [] = some rs := h
    cases h
    exact ⟨[], rfl, rfl, fun p hp => nomatch hp⟩
  | _, _, rs, .cons (v := v) (vs := vs) (d := d) (ds := ds) r1 r, h => by
    unfold rowsI at h
    cases e : rowI d with
    | none => rw [e] at h; cases h
    | some x =>
      cases e2 : rowsI ds with
      | none => rw [e, e2] at h; cases h
      | some l =>
        rw [e, e2] at h
        cases h
        obtain ⟨ks, h1, h2, h3⟩ := rows_rep r e2
        rw [rowI_eq e] at r1
        cases r1 with
        | @tup a ys _ hg rr =>
          rw [reps_int rr] at hg
          refine ⟨(a, x) :: ks, by rw [List.map_cons, h1], by rw [List.map_cons, h2], fun p hp => ?_⟩
          rcases List.mem_cons.mp hp with rfl | hp
          · exact hg
          · exact h3 p hp
def dLenSet : DV → S → QD → Prop := fun x ρ Q => ∃ ds rs, lstOf ρ x = some ds ∧ rowsI ds = some rs ∧ rs.length < 64 ∧ Q (.d (.int (dcn rs : Nat))) ρ
theorem lstOf_repG {F G H : Hp} {as : List Addr} {ρ : S} {σ : St} {v : V} {x : DV} {ds : List PyData} (ok : Ok K ρ σ F G H as) (r : RepV K G as v x) (h : lstOf ρ x = some ds) : ∃ a xs, v = .ref a ∧ SqL K H a xs ∧ Reps K G xs ds := lstOf_rep ok r h
theorem pd_lenSet (ha : PD T a wa) (hg : T.sc.names.lookup ("len" : Str) = some .globalImplicit) (hm : T.mg "len" = none) (hg2 : T.sc.names.lookup ("set" : Str) = some .globalImplicit) (hm2 : T.mg "set" = none)
    (na : ∀ env, starEach [a] env = (false, eval a env) :: starEach [] env := by intro _; rfl) : PD T (.Call (.Name "len" p) [.Call (.Name "set" p2) [a] [] q] [] pos) (wUn dLenSet wa) := by
  obtain ⟨te, he, d⟩ := ha
  refine ⟨fun W => tLenSetT T.K (te W), fun W X g tk => ?_, fun ρ Q X h W σ F G H as ok acc C k => ?_⟩
  · rw [← g.K]
    exact pe_lenSetT g.calm g.room.units (by show X.env.scope.names.lookup _ = _; rw [g.sc]; exact hg) (by rw [g.mg]; exact hm) (by show X.env.scope.names.lookup _ = _; rw [g.sc]; exact hg2) (by rw [g.mg]; exact hm2) (he W X g tk) (na _)
  · refine d _ _ _ h W σ F G H as ok acc _ fun x ρ1 v G1 H1 as1 h1 ok1 n1 r1 => ?_
    obtain ⟨ds, rs, e1, e2, hl, q⟩ := h1
    obtain ⟨l, xs, rfl, hs, rr⟩ := lstOf_rep ok1 r1 e1
    obtain ⟨ks, rfl, rfl, hk⟩ := rows_rep rr e2
    exact ⟨l, ks, rfl, hs, fun p hp => SqT.of (ok1.mem.gh _ _ (hk p hp)), by rw [List.length_map] at hl; exact hl, (k.next n1).same ok1 q (.int _)⟩
/-! ### e != sorted(d), the keys of d tuples -/
def tupP (k : List Key) : PyData := .tuple (k.map kP)
theorem readsAll_key {h : Heap} : ∀ {k : List Key} {its : List Value}, Vals (k.map kV) its → ReadsAll h its (k.map kP) []
  | [], _, .nil => .nil
  | .inl i :: k, _, .cons r rs => by
    obtain ⟨t, rfl⟩ := r
    exact .cons (as := []) (bs := []) (.int i t) (readsAll_key rs)
  | .inr x :: k, _, .cons r rs => by
    obtain ⟨t, rfl⟩ := r
    exact .cons (as := []) (bs := []) (.str x t) (readsAll_key rs)
theorem reads_key {X : Cx} {pins : List (Addr × Obj)} {σ : St} {H : Hp} {s : Shared} {b : Addr} {k : List Key} (I : Inv X pins σ H s) (h : H b = some (.tup (k.map kV))) : Reads s.heap (.ref b) (tupP k) [] := by
  obtain ⟨its, r, ⟨o, ho, hc, n, hd⟩, _⟩ := I.tuple (SqT.of (K := X.K) h)
  exact .tuple ho hc hd (readsAll_key r)
def rSortDT (K : PySem.W.Frag) : List V → Hp → VK → Prop := fun xs H Q => ∃ (a : Addr) (kvs : List (List Key × V)), xs = [.ref a] ∧ H a = some (.dT kvs) ∧ PySem.W.AllAlike ((kvs.map (·.1)).map tupP) ∧ PySem.W.Sortable ((kvs.map (·.1)).map tupP) ∧
  ∀ (q : Addr) (bs : List Addr) (ks : List (List Key)), H q = none → ks = (kvs.map (·.1)).mergeSort (PySem.W.dataLe false tupP) → Paired (fun k b => H b = some (.tup (k.map kV))) ks bs → Q (.ref q) (upd H q (.lst (bs.map V.ref)))
theorem depth_kP : ∀ k : List Key, PyData.depthAll (k.map kP) = 0
  | [] => rfl
  | .inl i :: k => by
    show max (PyData.depth (.int i)) (PyData.depthAll (k.map kP)) = 0
    rw [depth_kP k]
    rfl
  | .inr i :: k => by
    show max (PyData.depth (.str i)) (PyData.depthAll (k.map kP)) = 0
    rw [depth_kP k]
    rfl
theorem depth_tupP (k : List Key) : (tupP k).depth = 1 := by
  show PyData.depthAll (k.map kP) + 1 = 1
  rw [depth_kP]
theorem each_key {H : Hp} : ∀ {kvs : List (List Key × V)} {bs : List Addr}, IsKeys H kvs bs → PySem.W.EachIs (fun (v : Value) (k : List Key) => ∃ b, v = .ref b ∧ H b = some (.tup (k.map kV))) (bs.map Value.ref) (kvs.map (·.1))
  | _, _, .nil => .nil
  | _, _, .cons h r => .cons ⟨_, rfl, h⟩ (each_key r)
theorem each_key_to {H : Hp} : ∀ {ks : List (List Key)} {us : List Value}, PySem.W.EachIs (fun (v : Value) (k : List Key) => ∃ b, v = .ref b ∧ H b = some (.tup (k.map kV))) us ks → ∃ bs : List Addr, us = bs.map Value.ref ∧ Paired (fun k b => H b = some (.tup (k.map kV))) ks bs
  | _, _, .nil => ⟨[], rfl, .nil⟩
  | _, _, .cons h r => by
    obtain ⟨b, rfl, hb⟩ := h
    obtain ⟨bs, rfl, p⟩ := each_key_to r
    exact ⟨b :: bs, rfl, .cons hb p⟩
theorem cr_sortDT {X : Cx} (hc : X.calm = true) (hu : X.A.units + 64 < cLine) : CallR X (.builtin "sorted") (rSortDT X.K) := by
  intro pins s σ H xs us Q I r h
  obtain ⟨d, kvs, rfl, hd, hal, hso, q⟩ := h
  rw [Vals.ref1 r]
  obtain ⟨z, hs, ks, pr, o, es, ep, ho, hx, hdt, he, hn⟩ := (show ObjOk X.prog X.w H s.heap d (.dT kvs) from I.hok d _ hd)
  have l1 : es.size = ks.length := size_of_entries he
  have l2 : kvs.length = ks.length := Paired.length pr
  refine Calls.call_function_entry PyProof.Rows.kind_sorted PyProof.Rows.plain_sorted PyProof.Rows.entry_sorted (PyProof.Rows.args_sorted1 _) ?_
  unfold Builtin.«sorted»
  refine wpAny_bind (m := checkCount "sorted" 1 1 _) (wpAny_pure ?_)
  refine wpAny_bind (PySem.W.kdu_collect (A := X.A.in1) (kdl_raw hs hx hdt) (I.ok.hd hc) ho (by omega) fun h' tk acc hk it => ?_)
  have ea : acc.toList = ks.map fun x => Value.ref x.2.1 := by
    have hl : acc.toList.length = ks.length := by rw [Array.length_toList, it.1]; exact l1
    apply List.ext_getElem?
    intro j
    rw [List.getElem?_map]
    cases hj : acc.toList[j]? with
    | none =>
      have h1 := List.getElem?_eq_none_iff.mp hj
      rw [List.getElem?_eq_none (by omega)]
      rfl
    | some v =>
      obtain ⟨en, hen, hv⟩ := it.2 j v (by rw [← Array.getElem?_toList]; exact hj)
      have qe := entry_at he j
      rw [hen] at qe
      cases hb : ks[j]? with
      | none =>
        rw [hb] at qe
        exact nomatch (show some en = none from qe)
      | some b =>
        rw [hb] at qe
        have e2 : en = entryOfKey (tupleKind (mixKind X.prog X.w)) b := Option.some.inj qe
        rw [hv, e2]
        rfl
  have eb : acc.toList = (ks.map fun x => x.2.1).map Value.ref := by rw [ea, List.map_map]; rfl
  have ik : IsKeys H kvs (ks.map fun x => x.2.1) := isKeys_of pr
  have I1 : Inv X pins σ H { s with heap := h', toks := tk } := I.kept hk
  have la : acc.toList.length = kvs.length := by rw [ea, List.length_map]; omega
  refine wpAny_bind (wpAny_newList ?_ (by omega))
  have hoL : (h'.push (seqObj "list" acc.toList.toArray 0)).get? h'.objs.size = some (seqObj "list" acc.toList.toArray 0) := Heap.get?_push_size _ rfl
  show wpAny _ _ _ _ _ { s with heap := h'.push (seqObj "list" acc.toList.toArray 0), toks := tk }
  have each : PySem.W.EachIs (fun (v : Value) (k : List Key) => ∃ b, v = .ref b ∧ H b = some (.tup (k.map kV))) acc.toList (kvs.map (·.1)) := by
    rw [eb]
    exact each_key ik
  refine wpAny_bind (wpAny_holding (PySem.W.list_sort_data (enc := tupP) (s := { s with heap := h'.push (seqObj "list" acc.toList.toArray 0), toks := tk }) hoL each ?_ hal hso (by rw [List.length_map]; omega) ?_ ?_))
  · refine each.mono fun v k ⟨b, e, hb⟩ => ⟨[], ?_, fun m => nomatch m⟩
    rw [e]
    exact PyProof.Rows.Reads.keeps (fun _ _ q => Heap.get?_push_of_some _ q) (reads_key I1 hb)
  · intro b _
    rw [depth_tupP]
    show X.A.units + 1 + 1 + 1 < cLine
    omega
  · intro out hlo eo
    obtain ⟨bs, rfl, p⟩ := each_key_to eo
    obtain ⟨e', he'⟩ := PyProof.Rows.sortedHeap_at (vs := acc.toList) (out := (bs.map Value.ref).toArray) hoL
    have hlen : (bs.map V.ref).length ≤ sizeLine := by
      rw [List.length_map]
      rw [List.length_map, List.length_map] at hlo
      omega
    refine wpAny_pure ⟨_, rfl, .ref h'.objs.size, upd H h'.objs.size (.lst (bs.map V.ref)), I1.laid (t' := tk) (fun b u e => ?_) (Nat.le_refl _)
      (show ObjOk X.prog X.w _ _ _ (.lst (bs.map V.ref)) from ⟨hlen, bs.map Value.ref, e', vals_refs _, by simpa using he'⟩), rfl, q _ bs _ (I1.hok.fresh (Nat.le_refl _)) rfl p⟩
    have hb : b < h'.objs.size := Heap.lt_size e
    rw [PyProof.Rows.sortedHeap_old (Nat.ne_of_lt hb) (by rw [size_push']; exact Nat.lt_succ_of_lt hb)]
    exact Heap.get?_push_of_some _ e
/-- the keys of a known dict with tuple keys -/
def tkeys : List (PyData × PyData) → Option (List (List Key))
  | [] => some []
  | p :: r => match tkey p.1, tkeys r with
    | some k, some l => some (k :: l)
    | _, _ => none
def keysT : PyData → Option (List (List Key))
  | .dict ((.none, .none) :: ps) => tkeys ps
  | _ => none
theorem tkeys_zip : ∀ (kvs : List (List Key × V)) (ds : List PyData), kvs.length = ds.length → tkeys ((kvs.map fun p => PyData.tuple (p.1.map kP)).zip ds) = some (kvs.map (·.1))
  | [], [], _ => rfl
  | p :: kvs, d :: ds, h => by
    show (match tkey (.tuple (p.1.map kP)), tkeys ((kvs.map fun p => PyData.tuple (p.1.map kP)).zip ds) with | some k, some l => some (k :: l) | _, _ => none) = _
    rw [tkey_kP, tkeys_zip kvs ds (Nat.succ.inj h)]
    rfl
theorem keysT_rep {G : Hp} {v : V} {d : PyData} {ks : List (List Key)} (r : Rep K G v d) (h : keysT d = some ks) : ∃ a kvs, v = .ref a ∧ G a = some (.dT kvs) ∧ kvs.map (·.1) = ks := by
  match d, h, r with
  | .dict ((.none, .none) :: ps), h, r =>
    have h : tkeys ps = some ks := h
    generalize ez : (PyData.dict ((.none, .none) :: ps)) = dz at r
    cases r with
    | @dK a kvs ds hg rr =>
      exfalso
      cases kvs with
      | nil => injection ez with ez; cases ez
      | cons q kvs =>
        cases ds with
        | nil => cases rr
        | cons d ds =>
          injection ez with ez
          injection ez with ez _
          injection ez with ez _
          have ez : PyData.none = kP q.1 := ez
          cases hq : q.1 with
          | inl _ => rw [hq] at ez; cases ez
          | inr _ => rw [hq] at ez; cases ez
    | @dT a kvs ds hg rr =>
      injection ez with ez
      injection ez with _ ez
      subst ez
      have l := rr.length
      rw [List.length_map] at l
      rw [tkeys_zip kvs ds l] at h
      exact ⟨a, kvs, rfl, hg, Option.some.inj h⟩
    | _ => cases ez
theorem rep_keys {H : Hp} : ∀ {ks : List (List Key)} {bs : List Addr}, Paired (fun k b => H b = some (.tup (k.map kV))) ks bs → Reps K H (bs.map V.ref) (ks.map tupP)
  | _, _, .nil => .nil
  | k :: _, _, .cons h r => .cons (.tup h (rep_kV k)) (rep_keys r)
where
  rep_kV {K : PySem.W.Frag} {H : Hp} : ∀ k : List Key, Reps K H (k.map kV) (k.map kP)
    | [] => .nil
    | .inl _ :: k => .cons (.int _) (rep_kV k)
    | .inr _ :: k => .cons (.str _) (rep_kV k)
def srtK (ks : List (List Key)) : List PyData := (ks.mergeSort (PySem.W.dataLe false tupP)).map tupP
/-- a != sorted(d) -/
def dNeSd : DV → DV → S → QD → Prop := fun x y ρ Q => match y with
  | .d y => ∃ d ks, datOf ρ x = some d ∧ keysT y = some ks ∧ PySem.W.AllAlike (ks.map tupP) ∧ PySem.W.Sortable (ks.map tupP) ∧ Eqs d ∧ Eqs (.list (srtK ks)) ∧ Q (.d (.bool (!PyData.eqv d (.list (srtK ks))))) ρ
  | _ => False
theorem de_neSd {ta tb : WX → TE} (da : ∀ ρ Q X, wa ρ Q X → DE T.K ta ρ Q X) (db : ∀ ρ Q X, wb ρ Q X → DE T.K tb ρ Q X) {ρ : S} {Q : QD} {X : QX} (h : wOp dNeSd wa wb ρ Q X) : DE T.K (fun W => tOp (rNeD T.K) (ta W) (tCB (rSortDT T.K) (tCons (tb W) tNil))) ρ Q X := by
  intro W σ F G H as ok acc C k
  refine da _ _ _ h W σ F G H as ok acc _ fun x ρ1 v G1 H1 as1 h1 ok1 n1 r1 => ?_
  refine db _ _ _ h1 W σ F G1 H1 as1 ok1 (acc.next n1) _ fun y ρ2 u G2 H2 as2 h2 ok2 n2 r2 => ?_
  match y, h2, r2 with
  | .d y, h2, r2 =>
    obtain ⟨d, ks, e1, e2, s1, s2, q1, q2, q⟩ := h2
    obtain ⟨a, kvs, rfl, hg, rfl⟩ := keysT_rep r2 e2
    refine ⟨a, kvs, rfl, ok2.mem.gh _ _ hg, s1, s2, fun l bs ks hl ek pr => ?_⟩
    subst ek
    have sm : Same H2 (upd H2 l (.lst (bs.map V.ref))) := same_new hl
    have dx := (datOf_rep ok2 (r1.mono n2) e1).mono sm
    have dy : Rep T.K (upd H2 l (.lst (bs.map V.ref))) (.ref l) (.list (srtK (kvs.map (·.1)))) := .lst (SqL.of upd_same) ((rep_keys pr).mono sm)
    refine ⟨d, .list (srtK (kvs.map (·.1))), rep_dp (Same.refl _) d v dx q1.1, rep_dp (Same.refl _) _ _ dy q2.1, q1.2, q2.2, ?_⟩
    exact k _ ρ2 _ _ _ as2 q (ok2.new hl) ((n1.trans n2).trans (ok2.nxt hl)) (.bl _)
theorem pd_neSd (ha : PD T a wa) (hb : PD T b wb) (hg : T.sc.names.lookup ("sorted" : Str) = some .globalImplicit) (hm : T.mg "sorted" = none) (he : ∀ env, starEach [b] env = (false, eval b env) :: starEach [] env := by intro _; rfl) :
    PD T (.Compare a [.NotEq] [.Call (.Name "sorted" p2) [b] [] q] pos) (wOp dNeSd wa wb) := by
  obtain ⟨ta, ha, da⟩ := ha
  obtain ⟨tb, hb, db⟩ := hb
  refine ⟨fun W => tOp (rNeD T.K) (ta W) (tCB (rSortDT T.K) (tCons (tb W) tNil)), fun W X g tk => ?_, fun ρ Q X h => de_neSd da db h⟩
  rw [← g.K]
  exact pe_cmpR (op_neD g.room.units) (ha W X g tk) (pe_callB (cr_sortDT g.calm g.room.units) (by show X.env.scope.names.lookup _ = _; rw [g.sc]; exact hg) (by rw [g.mg]; exact hm) (by decide +kernel) (pa_cons (hb W X g tk) pa_nil (he _)) (by decide) (by decide) (he _) rfl) rfl
end
end DL
end

section
set_option Elab.async false
set_option linter.all false
set_option maxRecDepth 100000
set_option maxHeartbeats 1000000
set_option autoImplicit false
namespace DL
variable [Tab0]
open PySem PySem.Spec PyProof.Rows L2

/-! ### a call whose result may be one's own: the caller has no objects yet -/
section
variable {T : Sta} {pos p : Pos} {e : Expr} {es : List Expr} {w : WA}
def callO (sp : DSp) (xs : List DV) (ρ1 : S) (Q : QD) : Prop := xs.all isD = true ∧ ρ1.ob = [] ∧ sp xs [] (fun dv ob' => Q dv ⟨ρ1.sl, ob'⟩) (fun _ _ => False)
def wCallO (sp : DSp) (w : WA) : WE := fun ρ Q X => w ρ (fun xs ρ1 => callO sp xs ρ1 Q) X
theorem callO_ok {K : PySem.W.Frag} {m : Nat} {sp : DSp} {xs : List DV} {ρ1 : S} {Q : QD} {W : WX} {C : VK} {σ : St} {F G1 H1 : Hp} {as1 : List Addr} {vs : List V} (ok1 : Ok K ρ1 σ F G1 H1 as1) (kk : Kv K F G1 as1 σ Q C) (r1 : RepVs K G1 as1 vs xs)
    (hm : xs.length = m) (h1 : callO sp xs ρ1 Q) : SpD K m sp vs H1 C (L2.WE W σ) := by
  obtain ⟨b1, b2, hs⟩ := h1
  obtain ⟨sl1, ob1⟩ := ρ1
  simp only at b2 hs
  subst b2
  have ea : as1 = [] := List.length_eq_zero_iff.mp ok1.mem.len
  subst ea
  have m0 : Mem K (rest G1 H1 []) G1 H1 [] [] := ok1.mem.into 0 rfl
  have fr : ∀ a o, F a = some o → rest G1 H1 [] a = some o := fun a o e => rest_get (ok1.mem.gf a o e) (by simp) (ok1.mem.fh a o e) (ok1.mem.ft a o e)
  refine ⟨rest G1 H1 [], G1, [], xs, [], _, _, m0, r1, hm, hs, fun dv ob' v G' H' as' q m' n' rv => ?_, fun xd ob' d G' H' as' q => q.elim⟩
  have m2 : Mem K F G' H' as' ob' := by
    refine ⟨m'.gh, fun a o e => m'.fh a o (fr a o e), fun a o e => m'.gf a o (fr a o e), m'.nd, m'.len, m'.al, ok1.mem.ft, m'.tb, fun a ha => ?_, m'.own, m'.at_⟩
    cases q : F a with
    | none => rfl
    | some o =>
      have := m'.ofr a ha
      rw [fr a o q] at this
      cases this
  refine kk dv _ v G' H' as' q ⟨m2, ok1.sll, fun i dx e => ?_⟩ n' rv
  obtain ⟨u, e1, r⟩ := ok1.sl i dx e
  exact ⟨u, e1, r.mono n'⟩
theorem pd_callO {x : Str} {p : Pos} {ps : List Str} {st : Stmt} {sp : DSp} (D : Def T x st ps sp) (hg : T.sc.names.lookup x = some .globalImplicit) (ha : PDA T (e :: es) w)
    (hdb : (x == ("__debug__" : Str)) = false := by decide) (he : ∀ env, starEach (e :: es) env = (false, eval e env) :: starEach es env := by intro _; rfl) (hpl : ∀ env, (backTo pos (starEach es env)).any (·.1) = false := by intro _; rfl) :
    PD T (.Call (.Name x p) (e :: es) [] pos) (wCallO sp w) := by
  obtain ⟨⟨k, f, fd, hk, Fn, hm, hkp, hb, _⟩, hlen⟩ := D
  obtain ⟨ta, ha, da⟩ := ha
  refine ⟨fun W => tCallG (SpD T.K ps.length sp) [] W (ta W), fun W X g tk => ?_, fun ρ Q X h W σ F G H as ok acc C kk => ?_⟩
  · obtain ⟨h1, h2, h3, h4, h5, h6, h7, h8, h9, h10, h11, h12, h13⟩ := g
    have ha' := ha W X ⟨h1, h2, h3, h4, h5, h6, h7, h8, h9, h10, h11, h12, h13⟩ tk
    obtain ⟨TP, Tw, TK, Tmg, Tb, TN, Tsc, Tk, Tt⟩ := T
    simp only at h1 h2 h3 h4 h5 h6 h7 h8 h9 h10 h11 h12 h13 hk Fn hm hkp hb hg
    subst h1 h2 h3 h4 h5 h6 h7
    exact pe_callG Fn h13 (h9.mono hk) hg hm hkp hb .nil tk ha' hdb (he _) (hpl _)
  · refine da _ _ _ h W σ F G H as ok acc _ fun xs ρ1 vs G1 H1 as1 h1 ok1 n1 r1 => ?_
    show SpD T.K ps.length sp (vs ++ []) H1 C (L2.WE W σ)
    rw [List.append_nil]
    exact callO_ok ok1 (kk.next n1) r1 (hlen _ _ _ _ h1.2.2) h1
end

/-! ### the law's end -/
theorem cx_none {P : Program} {w : World} {outer : List Env} {H : Hp} {s s' : Shared} {e : Value} (h : L2.CX P w outer H s (fun _ _ _ => False) e s') : False := by
  obtain ⟨_, _, _, _, _, _, _, _, _, _, _, _, z⟩ := h
  exact z
/-- the script alone, as the law finds it -/
def scriptH (a : Addr) (o : Obj) (ns : List Int) : Hp := fun b => if b = a then some (.frz o (.lst (ns.map V.int))) else none
theorem scr_at {a : Addr} {o : Obj} {ns : List Int} : scriptH a o ns a = some (.frz o (.lst (ns.map V.int))) := if_pos rfl
theorem scr_ne {a b : Addr} {o : Obj} {ns : List Int} (h : b ≠ a) : scriptH a o ns b = none := if_neg h
section
variable {P : Program} {w : World} {K : PySem.W.Frag} {mg mb : Str → Option Value} {k : Nat} {fa a : Addr} {fd : FuncData} {x : Str} {sp : DSp} {s0 : Shared} {vs : List Value} {ns : List Int}
abbrev oScr (vs : List Value) : Obj := { cls := .type "list", data := .seq vs.toArray }
abbrev WellDone (s0 : Shared) : Result → Shared → Prop := fun r s' => r = .ok (.ret (.bool true)) ∧ OldK s0.heap s'.heap ∧ s'.os = s0.os ∧ AllBare s'.gens
theorem end_from (H : Hp) (kin : K.In s0.heap) (gns : s0.heap.Ns mainGlobals mg) (bns : s0.heap.Ns builtinsNs mb) (boot : ∀ x : Str, x ≠ "__name__" → mb x = bootBuiltins x) (nolim : s0.heap.NoLimit) (bare : s0.gens = #[])
    (scr : s0.heap.get? a = some (oScr vs)) (room : Room k callerA) (Fn : ∀ base : Heap, K.In base → base.Ns mainGlobals mg → FnG P w K mg base k fa fd [x] (SpD K 1 sp)) (bind : ∀ (s : Shared) (u : Value), BindsTo s fd ⟨[u], []⟩ [(x, u)])
    (tab0 : LamX.Tabs Tab0.T H) (G : Hp) (G0 : Same G H) (rs : Rep K G (.ref a) (.list (ns.map .int))) (post : sp [.d (.list (ns.map .int))] [] (fun dv _ => dv = .d (.bool true)) fun _ _ => False)
    (hok : HOk P w H s0.heap) (just : ∀ b, H b ≠ none → b = a ∧ H b = some (.frz (oScr vs) (.lst (ns.map V.int)))) (apart : H a ≠ none → K.lookup a = none) :
    codeAny (model P w) callerA (.call (.ref fa) ⟨[.ref a], []⟩) (WellDone s0) s0 := by
  have low : ∀ {b : Addr} {o : Obj}, s0.heap.get? b = some o → H b = none → (hidT s0.heap H).get? b = some o := fun e n => hidT_get e n
  have dictN : ∀ {b : Addr} {o : Obj} {es : Array DictEntry} {ep : Nat}, s0.heap.get? b = some o → o.data = .dict es ep → H b = none := fun {b o es ep} e d => by
    cases q : H b with
    | none => rfl
    | some u =>
      obtain ⟨rfl, _⟩ := just b (by rw [q]; exact Option.some_ne_none u)
      have eo := Option.some.inj (scr.symm.trans e)
      rw [← eo] at d
      cases d
  have nsL : ∀ {b : Addr} {m : Str → Option Value}, s0.heap.Ns b m → (hidT s0.heap H).Ns b m := by
    rintro b m ⟨o, es, ep, e, d, r⟩
    exact ⟨o, es, ep, low e (dictN e d), d, r⟩
  have kinL : K.In (hidT s0.heap H) := fun b o e => low (kin b o e) (by
    cases q : H b with
    | none => rfl
    | some u =>
      have nb : H b ≠ none := by rw [q]; exact Option.some_ne_none u
      obtain ⟨rfl, _⟩ := just b nb
      rw [apart nb] at e
      cases e)
  have md : Mod K mg (hidT s0.heap H) := ⟨kinL, nsL gns, ⟨mb, nsL bns, boot⟩, nolim.elim fun mc hm => ⟨mc, nsL hm.1, hm.2⟩⟩
  have env : Env0 P w K mg (hidT s0.heap H) callerA [] s0 H := ⟨rfl, md, fun _ _ e => of_hidT e, Nat.le_of_eq (hidT_size _ _), trivial, fun b hb => (nomatch hb), hok, .of_eq bare⟩
  have m0 : Mem K (rest G H []) G H [] [] := ⟨G0, rest_le, rest_gf, List.nodup_nil, rfl, fun _ h => (nomatch h), rest_ft, tab0, fun _ h => (nomatch h), fun k a x h => by simp at h, fun k a x h => by simp at h⟩
  have wish : SpD K 1 sp [.ref a] H (fun v _ => v = .bl true) (fun _ _ _ => False) :=
    ⟨rest G H [], G, [], [.d (.list (ns.map .int))], [], _, _, m0, .cons rs .nil, rfl, post, fun dv ob' v G' H' as' q m' n' rv => by subst q; exact repB rv, fun _ _ _ _ _ _ q => q.elim⟩
  refine codeAny_mono ((Fn _ kinL (nsL gns)).run callerA rfl room [] s0 H env ⟨[.ref a], []⟩ [.ref a] [.ref a] (bind s0 (.ref a)) (.cons rfl .nil) _ _ wish) fun r s' out => ?_
  match r, out with
  | .error e, out => exact (cx_none out).elim
  | .ok (.ret u), out =>
    obtain ⟨v, H', os, gb, un, hok', rv, q⟩ := out
    have q : v = .bl true := q
    subst q
    have eu : u = Value.bool true := rv
    subst eu
    refine ⟨rfl, OldK.of_keep fun b o e => ?_, os, gb⟩
    cases q : H b with
    | none => exact un.keep b o e q (fun z => nomatch z) (fun z => nomatch z)
    | some u =>
      obtain ⟨rfl, hz⟩ := just b (by rw [q]; exact Option.some_ne_none u)
      have here := (hok b _ hz).1
      have there := (hok' b _ (un.frzs b _ _ hz)).1
      exact (Option.some.inj (e.symm.trans here)) ▸ there
theorem end_call (tabN : Tab0.T = []) (kin : K.In s0.heap) (gns : s0.heap.Ns mainGlobals mg) (bns : s0.heap.Ns builtinsNs mb) (boot : ∀ x : Str, x ≠ "__name__" → mb x = bootBuiltins x) (nolim : s0.heap.NoLimit) (bare : s0.gens = #[])
    (scr : s0.heap.get? a = some (oScr vs)) (whole : IntsAre vs ns) (few : ns.length ≤ sizeLine) (room : Room k callerA) (Fn : ∀ base : Heap, K.In base → base.Ns mainGlobals mg → FnG P w K mg base k fa fd [x] (SpD K 1 sp)) (bind : ∀ (s : Shared) (u : Value), BindsTo s fd ⟨[u], []⟩ [(x, u)])
    (post : sp [.d (.list (ns.map .int))] [] (fun dv _ => dv = .d (.bool true)) fun _ _ => False) : codeAny (model P w) callerA (.call (.ref fa) ⟨[.ref a], []⟩) (WellDone s0) s0 := by
  have rv := vals_ints whole
  have rp : ∀ {G : Hp}, Reps K G (ns.map V.int) (ns.map .int) := fun {G} => reps_mapR (fun i => .int i) ns
  cases hk : K.lookup a with
  | some o =>
    have e := Option.some.inj (scr.symm.trans (kin a o hk))
    subst e
    refine end_from (fun _ => none) kin gns bns boot nolim bare scr room Fn bind (by rw [tabN]; exact fun _ h => nomatch h) (fun _ => none) (fun _ _ z => z) (.lst (.inr ⟨_, vs.toArray, _, hk, rfl, rfl, rfl, ?_, by simpa using rv⟩) rp) post (fun b u z => nomatch (show (none : Option HO) = some u from z)) (fun b z => absurd rfl z) fun z => absurd rfl z
    rw [List.size_toArray, whole.length]
    exact few
  | none =>
    have who : ∀ b, scriptH a (oScr vs) ns b ≠ none → b = a := fun b z => by
      by_cases hb : b = a
      · exact hb
      · exact absurd (scr_ne hb) z
    refine end_from (scriptH a (oScr vs) ns) kin gns bns boot nolim bare scr room Fn bind (by rw [tabN]; exact fun _ h => nomatch h) (scriptH a (oScr vs) ns) (Same.refl _) (.lst (.inl (.inr ⟨oScr vs, scr_at⟩)) rp) post (fun b u z => ?_) (fun b z => ?_) fun _ => hk
    · obtain rfl := who b (by rw [z]; exact Option.some_ne_none u)
      rw [scr_at] at z
      obtain rfl := Option.some.inj z
      exact ⟨scr, by rw [List.length_map]; exact few, vs, _, rv, scr⟩
    · obtain rfl := who b z
      exact ⟨rfl, scr_at⟩
end
theorem end_of (tabN : Tab0.T = []) {l : PySem.W.OpenLaw} {n k : Nat} {q : Program} {loose : List Str} {XP : (Str → Option Value) → Heap → Prop} {YP : World → Heap → Prop} {d : DefRec} {K : Params → PySem.W.Frag} {sp : DSp} {x : Str}
    (most : l.most = some n) (few : n ≤ sizeLine) (nod : d.params.defaults = []) (room : Room k callerA) (hY : ∀ (w : World) (h : Heap), YP w h → (K w.params).In h)
    (F : ∀ (w : World) (mg : Str → Option Value) (fa : Addr) (h : Heap), (K w.params).In h → h.Ns mainGlobals mg → mg d.name = some (.ref fa) →
      ∃ fd : FuncData, (∀ (s : Shared) (u : Value), BindsTo s fd ⟨[u], []⟩ [(x, u)]) ∧ ∀ base : Heap, (K w.params).In base → base.Ns mainGlobals mg → FnG l.prog w (K w.params) mg base k fa fd [x] (SpD (K w.params) 1 sp))
    (post : ∀ ns : List Int, ns.length ≤ n → (∀ z ∈ ns, Builtin.Int.intBits z ≤ 1048576) → sp [.d (.list (ns.map .int))] [] (fun dv _ => dv = .d (.bool true)) fun _ _ => False) :
    PySem.W.WalkO q loose XP YP l.row.toRowW d [] (fun f vs => PySem.call f vs) := by
  refine Att.attach_callB most nod fun w s₀ s₁ mg mb fa o pm cd doc a vs ns G Y _ _ _ hmg scr whole len bits bare => ?_
  have kin := hY w _ Y
  obtain ⟨fd, bind, Fn⟩ := F w mg fa _ kin G.T.g hmg
  exact end_call tabN kin G.T.g G.T.b G.T.builtins G.T.nolimit bare scr whole (Nat.le_trans len few) room Fn bind (post ns len bits)
end DL
end

section
set_option Elab.async false
set_option linter.all false
set_option maxRecDepth 100000
set_option maxHeartbeats 1000000
set_option autoImplicit false
namespace DL
variable [Tab0]
open PySem PySem.Spec PyProof.Rows L2

/-! ### comparisons, as values and as tests -/
def CmpD (T : Sta) (op : CmpOp) (R : DV → DV → S → QD → Prop) : Prop := ∃ r : R2, (∀ X, X.K = T.K → X.calm = true → X.A.units + 64 < cLine → OpR X (compareOp op) r) ∧ OpD T.K r R
section
variable {T : Sta} {pos p p2 q : Pos} {a b c e o i : Expr} {es : List Expr} {wa wb wc we wo wi : WE} {w : WA} {wt : WT} {K : PySem.W.Frag} {op op' : CmpOp} {R R' : DV → DV → S → QD → Prop}
theorem cd_lt : CmpD T .Lt (dII0 gLt) := ⟨_, fun _ _ _ _ => op_lt, opd_I0 (g := gLt) fun _ _ => rfl⟩
theorem cd_le : CmpD T .LtE (dII0 gLe) := ⟨_, fun _ _ _ _ => op_le, opd_I0 (g := gLe) fun _ _ => rfl⟩
theorem cd_gt : CmpD T .Gt (dII0 gGt) := ⟨_, fun _ _ _ _ => op_gt, opd_I0 (g := gGt) fun _ _ => rfl⟩
theorem cd_ge : CmpD T .GtE (dII0 gGe) := ⟨_, fun _ _ _ _ => op_ge, opd_I0 (g := gGe) fun _ _ => rfl⟩
theorem cd_ltD : CmpD T .Lt dLtD := ⟨rLtDD T.K, fun X k _ u => by rw [← k]; exact op_ltDD u, fun x y ρ Q h σ F G H as v u ok rx ry C k => by
  match x, y, h, rx, ry with
  | .d d, .d e, ⟨⟨h1, h2, h3, h4, h5⟩, q⟩, rx, ry =>
    exact ⟨d, e, rep_dp ok.mem.gh d v rx h2, rep_dp ok.mem.gh e u ry h3, h1, (fun z => by subst z; cases h4), h5, k.same ok q (.bl _)⟩⟩
theorem cd_eqD : CmpD T .Eq dEq := ⟨L2.rEqD T.K, fun X k _ u => by rw [← k]; exact op_eqD u, fun x y ρ Q h σ F G H as v u ok rx ry C k => by
  obtain ⟨d, e, h1, h2, s1, s2, q⟩ := h
  exact ⟨d, e, rep_dp (Same.refl H) d v (datOf_rep ok rx h1) s1.1, rep_dp (Same.refl H) e u (datOf_rep ok ry h2) s2.1, s1.2, s2.2, k.same ok q (.bl _)⟩⟩
theorem cd_neD : CmpD T .NotEq dNe := ⟨L2.rNeD T.K, fun X k _ u => by rw [← k]; exact op_neD u, fun x y ρ Q h σ F G H as v u ok rx ry C k => by
  obtain ⟨d, e, h1, h2, s1, s2, q⟩ := h
  exact ⟨d, e, rep_dp (Same.refl H) d v (datOf_rep ok rx h1) s1.1, rep_dp (Same.refl H) e u (datOf_rep ok ry h2) s2.1, s1.2, s2.2, k.same ok q (.bl _)⟩⟩
theorem cd_eqS : CmpD T .Eq dEqS := ⟨_, fun _ _ _ _ => op_eq, fun x y ρ Q h σ F G H as v u ok rx ry C k => by
  match x, y, h, rx, ry with
  | .d (.str s), .d (.str t), q, rx, ry =>
    cases repS rx
    cases repS ry
    exact ⟨rfl, by rw [dec_s]; exact k.same ok q (.bl _)⟩
  | .d (.int s), .d (.int t), q, rx, ry =>
    cases repI rx
    cases repI ry
    exact ⟨rfl, by rw [dec_i]; exact k.same ok q (.bl _)⟩⟩
theorem cd_neS : CmpD T .NotEq dNeS := ⟨_, fun _ _ _ _ => op_ne, fun x y ρ Q h σ F G H as v u ok rx ry C k => by
  match x, y, h, rx, ry with
  | .d (.str s), .d (.str t), q, rx, ry =>
    cases repS rx
    cases repS ry
    exact ⟨rfl, by rw [dec_s]; exact k.same ok q (.bl _)⟩
  | .d (.int s), .d (.int t), q, rx, ry =>
    cases repI rx
    cases repI ry
    exact ⟨rfl, by rw [dec_i]; exact k.same ok q (.bl _)⟩⟩
theorem cd_isN : CmpD T .Is dIsN := ⟨fun x y H Q => y = .non ∧ Q (.bl (decide (x = .non))) H, fun X _ _ _ => op_isN, fun x y ρ Q h σ F G H as v u ok rx ry C k => by
  match x, y, h, rx, ry with
  | .d d, .d .none, q, rx, ry => exact ⟨repNo ry, by rw [repN rx]; exact k.same ok q (.bl _)⟩⟩
theorem cd_notN : CmpD T .IsNot dNotN := ⟨fun x y H Q => y = .non ∧ Q (.bl (!decide (x = .non))) H, fun X _ _ _ => op_notN, fun x y ρ Q h σ F G H as v u ok rx ry C k => by
  match x, y, h, rx, ry with
  | .d d, .d .none, q, rx, ry => exact ⟨repNo ry, by rw [repN rx]; exact k.same ok q (.bl _)⟩⟩
theorem pd_cmpD (c : CmpD T op R) (ha : PD T a wa) (hb : PD T b wb) (hm : behindInMarks op b = false := by first | exact nomark _ | rfl) : PD T (.Compare a [op] [b] pos) (wOp R wa wb) := by
  obtain ⟨r, h1, h2⟩ := c
  exact pd_cmp h1 h2 ha hb hm
theorem dt_of {t : WX → TE} (h : ∀ ρ Q X, wa ρ Q X → DE K t ρ Q X) {ρ : S} {Q : Bool → S → Prop} {X : QX} (hw : wB wa ρ Q X) : DT K (fun W => tTest (t W)) ρ Q X := by
  intro W σ F G H as ok acc C k
  refine h _ _ _ hw W σ F G H as ok acc _ fun x ρ1 v G1 H1 as1 h1 ok1 n1 r1 => ?_
  match x, h1, r1 with
  | .d (.bool i), h1, r1 => exact ⟨i, repB r1, k i ρ1 G1 H1 as1 h1 ok1 n1⟩
theorem pdt_cmpD (c : CmpD T op R) (ha : PD T a wa) (hb : PD T b wb) (hm : behindInMarks op b = false := by first | exact nomark _ | rfl) : PDT T (.Compare a [op] [b] pos) (wB (wOp R wa wb)) := by
  obtain ⟨r, ho, hr⟩ := c
  obtain ⟨ta, ha, da⟩ := ha
  obtain ⟨tb, hb, db⟩ := hb
  exact ⟨fun W => tTest (tOp r (ta W) (tb W)), fun W X g tk => pt_cmpR (ho X g.K g.calm g.room.units) (ha W X g tk) (hb W X g tk) hm, fun ρ Q X h => dt_of (t := fun W => tOp r (ta W) (tb W)) (fun ρ Q X h => de_op hr da db h) h⟩
def wChain (R R' : DV → DV → S → QD → Prop) (wa wb wc : WE) : WE := fun ρ Q X => wa ρ (fun x ρ1 => wb ρ1 (fun y ρ2 => R x y ρ2 (fun z ρ3 => match z with
  | .d (.bool true) => wc ρ3 (fun u ρ4 => R' y u ρ4 Q) X
  | .d (.bool false) => Q (.d (.bool false)) ρ3
  | _ => False)) X) X
theorem de_chain {r r' : R2} {ta tb tc : WX → TE} (hr : OpD K r R) (hr' : OpD K r' R') (ha : ∀ ρ Q X, wa ρ Q X → DE K ta ρ Q X) (hb : ∀ ρ Q X, wb ρ Q X → DE K tb ρ Q X) (hc : ∀ ρ Q X, wc ρ Q X → DE K tc ρ Q X) {ρ : S} {Q : QD} {X : QX} (h : wChain R R' wa wb wc ρ Q X) :
    DE K (fun W => tChain r r' (ta W) (tb W) (tc W)) ρ Q X := by
  intro W σ F G H as ok acc C k
  refine ha _ _ _ h W σ F G H as ok acc _ fun x ρ1 v G1 H1 as1 h1 ok1 n1 r1 => ?_
  refine hb _ _ _ h1 W σ F G1 H1 as1 ok1 (acc.next n1) _ fun y ρ2 u G2 H2 as2 h2 ok2 n2 r2 => ?_
  refine hr x y ρ2 _ h2 σ F G2 H2 as2 v u ok2 (r1.mono n2) r2 _ fun z ρ3 vz G3 H3 as3 h3 ok3 n3 r3 => ?_
  match z, h3, r3 with
  | .d (.bool true), h3, r3 =>
    refine ⟨true, repB r3, iteT ?_⟩
    refine hc _ _ _ h3 W σ F G3 H3 as3 ok3 (acc.next ((n1.trans n2).trans n3)) _ fun w ρ4 vw G4 H4 as4 h4 ok4 n4 r4 => ?_
    exact hr' y w ρ4 _ h4 σ F G4 H4 as4 u vw ok4 (r2.mono (n3.trans n4)) r4 C (k.next (((n1.trans n2).trans n3).trans n4))
  | .d (.bool false), h3, r3 => exact ⟨false, repB r3, iteF ((k.next ((n1.trans n2).trans n3)).same ok3 h3 (.bl false))⟩
theorem pd_chainD (c1 : CmpD T op R) (c2 : CmpD T op' R') (ha : PD T a wa) (hb : PD T b wb) (hc : PD T c wc) (hm : lastMarks [op, op'] [b, c] = false := by with_unfolding_all rfl) : PD T (.Compare a [op, op'] [b, c] pos) (wChain R R' wa wb wc) := by
  obtain ⟨r, ho, hr⟩ := c1
  obtain ⟨r', ho', hr'⟩ := c2
  obtain ⟨ta, ha, da⟩ := ha
  obtain ⟨tb, hb, db⟩ := hb
  obtain ⟨tc, hc, dc⟩ := hc
  exact ⟨fun W => tChain r r' (ta W) (tb W) (tc W), fun W X g tk => pe_chain (ho X g.K g.calm g.room.units) (ho' X g.K g.calm g.room.units) (ha W X g tk) (hb W X g tk) (hc W X g tk) hm, fun ρ Q X h => de_chain hr hr' da db dc h⟩
theorem pdt_chainD (c1 : CmpD T op R) (c2 : CmpD T op' R') (ha : PD T a wa) (hb : PD T b wb) (hc : PD T c wc) (hm : lastMarks [op, op'] [b, c] = false := by with_unfolding_all rfl) : PDT T (.Compare a [op, op'] [b, c] pos) (wB (wChain R R' wa wb wc)) := by
  obtain ⟨r, ho, hr⟩ := c1
  obtain ⟨r', ho', hr'⟩ := c2
  obtain ⟨ta, ha, da⟩ := ha
  obtain ⟨tb, hb, db⟩ := hb
  obtain ⟨tc, hc, dc⟩ := hc
  exact ⟨fun W => tTest (tChain r r' (ta W) (tb W) (tc W)), fun W X g tk => pt_chain (ho X g.K g.calm g.room.units) (ho' X g.K g.calm g.room.units) (ha W X g tk) (hb W X g tk) (hc W X g tk) hm, fun ρ Q X h => dt_of (t := fun W => tChain r r' (ta W) (tb W) (tc W)) (fun ρ Q X h => de_chain hr hr' da db dc h) h⟩
theorem pdt_neSd (ha : PD T a wa) (hb : PD T b wb) (hg : T.sc.names.lookup ("sorted" : Str) = some .globalImplicit) (hm : T.mg "sorted" = none) (he : ∀ env, starEach [b] env = (false, eval b env) :: starEach [] env := by intro _; rfl) :
    PDT T (.Compare a [.NotEq] [.Call (.Name "sorted" p2) [b] [] q] pos) (wB (wOp dNeSd wa wb)) := by
  obtain ⟨ta, ha, da⟩ := ha
  obtain ⟨tb, hb, db⟩ := hb
  refine ⟨fun W => tTest (tOp (rNeD T.K) (ta W) (tCB (rSortDT T.K) (tCons (tb W) tNil))), fun W X g tk => ?_, fun ρ Q X h => dt_of (t := fun W => tOp (rNeD T.K) (ta W) (tCB (rSortDT T.K) (tCons (tb W) tNil))) (fun ρ Q X h => de_neSd da db h) h⟩
  rw [← g.K]
  exact pt_cmpR (op_neD g.room.units) (ha W X g tk) (pe_callB (cr_sortDT g.calm g.room.units) (by show X.env.scope.names.lookup _ = _; rw [g.sc]; exact hg) (by rw [g.mg]; exact hm) (by decide +kernel) (pa_cons (hb W X g tk) pa_nil (he _)) (by decide) (by decide) (he _) rfl) rfl
/-! ### y = [.. for .. for ..] -/
theorem pds_setLc2 {y : Str} {py spos : Pos} {tg iter tg1 iter1 elt : Expr} {scope : Scope} {own : List (Str × Nat)} {wi wi1 : WI} {wg wg1 : WG} {js js1 : List Nat} (i : Nat) (vs1 : List Nat) (hi : PDI T tg iter wi) (ok : BlkOk T.N T.sc scope own) (hg : PDG (blkT T scope) tg wg js) (hi1 : PDI (blkT T scope) tg1 iter1 wi1) (hg1 : PDG (blkT T scope) tg1 wg1 js1) (he : PD (blkT T scope) elt we)
    (hsw : ∀ env : Env, env.scope = T.sc → swapsWith (.ListComp elt [⟨tg, iter, [], 0⟩, ⟨tg1, iter1, [], 0⟩] scope pos) (some (.Name y py)) spos.line env = pure true)
    (hN : T.N[i]? = some y := by rfl) (hy : T.sc.names.lookup y = some .local := by rfl) (hj : ∀ j ∈ js, j ∈ own.map (·.2) := by decide) (hj1 : ∀ j ∈ js1, j ∈ vs1 := by decide) (hv : ∀ j ∈ vs1, j ∈ own.map (·.2) := by decide) (hs : ∀ env x, foldedSetIterable iter env x = pure x := by intro _ _; rfl) (hs1 : ∀ env x, foldedSetIterable iter1 env x = pure x := by intro _ _; rfl) :
    PDS T (.Assign [.Name y py] (.ListComp elt [⟨tg, iter, [], 0⟩, ⟨tg1, iter1, [], 0⟩] scope pos) spos) (wAsg (wLc2 wi wg wi1 wg1 we (own.map (·.2)) vs1) (wgName i)) := by
  obtain ⟨ti, hti, di⟩ := hi
  obtain ⟨g, hg, dg⟩ := hg
  obtain ⟨ti1, hti1, di1⟩ := hi1
  obtain ⟨g1, hg1, dg1⟩ := hg1
  obtain ⟨te, he, de⟩ := he
  refine ⟨fun W => tAsg (tLc2 (ti W) g tYes (ti1 W0) g1 tYes (te W0) (own.map (·.2)) vs1) (gName i), fun W X gd tk => ps_setLc2 gd.calm (by rw [gd.N]; exact gd.nd) (by rw [gd.N]; exact hN) (by rw [gd.sc]; exact hy) (hsw _ gd.sc) (hti W X gd tk) (by rw [gd.N, gd.sc]; exact ok) hv (fun s H C cl fp => hg _ (gd.blk s H scope cl C fp))
    (fun s H C cl fp => pts_nil) (fun s H C cl fp => hti1 W0 _ (gd.blk s H scope cl C fp) takes0) (fun s H C cl fp => hg1 _ (gd.blk s H scope cl C fp)) (fun s H C cl fp => pts_nil)
    (fun s H C cl fp => he W0 _ (gd.blk s H scope cl C fp) takes0) (hs _) (hs1 := hs1), fun ρ E h W σ F G H as ok acc D l => ?_⟩
  have d := de_lc2 (K := T.K) (ti1 := ti1 W0) (te := te W0) di dg (fun ρ Q h W σ F G H as ok acc R k => di1 ρ Q X0 h W0 σ F G H as ok acc0 R k) dg1 (fun ρ Q h W σ F G H as ok acc C k => de ρ Q X0 h W0 σ F G H as ok acc0 C k) hj hj1 h
  exact d W σ F G H as ok (acc.at σ) _ fun dv ρ' v G' H' as' q o n r => l.nx _ _ G' H' as' q (o.set i r) n
end

/-! ### defs as they are handed on -/
structure DefG (P : Program) (w0 : World) (K : PySem.W.Frag) (mg : Str → Option Value) (base : Heap) (k : Nat) (x : Str) (st : Stmt) (ps : List Str) (sp : DSp) : Prop where
  ex : ∃ (f : Addr) (fd : FuncData), FnG P w0 K mg base k f fd ps (SpD K ps.length sp) ∧ mg x = some (.ref f) ∧ PySem.W.keepIn K (.ref f) = true ∧ Binds K fd ps [] ∧ Fun K x x st f fd
  len : ∀ ys ob R X, sp ys ob R X → ys.length = ps.length
theorem DefG.to {P : Program} {w0 : World} {K : PySem.W.Frag} {mg : Str → Option Value} {base : Heap} {k k' : Nat} {x : Str} {st : Stmt} {ps N : List Str} {sp : DSp} {sc : Scope} {top : Bool} (G : DefG P w0 K mg base k x st ps sp) (h : k ≤ k' := by decide) : Def ⟨P, w0, K, mg, base, N, sc, k', top⟩ x st ps sp := by
  obtain ⟨f, fd, h1, h2, h3, h4, h5⟩ := G.ex
  exact ⟨⟨k, f, fd, h, h1, h2, h3, h4, h5⟩, G.len⟩
theorem DefG.toB {P : Program} {w0 : World} {K : PySem.W.Frag} {mg : Str → Option Value} {base : Heap} {k k' : Nat} {x : Str} {st : Stmt} {ps N : List Str} {sp : DSp} {sc sc2 : Scope} {top : Bool} (G : DefG P w0 K mg base k x st ps sp) (h : k ≤ k' := by decide) : Def (blkT ⟨P, w0, K, mg, base, N, sc, k', top⟩ sc2) x st ps sp := by
  obtain ⟨f, fd, h1, h2, h3, h4, h5⟩ := G.ex
  exact ⟨⟨k, f, fd, h, h1, h2, h3, h4, h5⟩, G.len⟩
/-- what the module's head tells of a def -/
structure Hd (K : PySem.W.Frag) (mg : Str → Option Value) (x : Str) (st : Stmt) (ps : List Str) : Prop where
  ex : ∃ (f : Addr) (fd : FuncData), Fun K x x st f fd ∧ mg x = some (.ref f) ∧ Binds K fd ps []
theorem mk_def {P : Program} {w0 : World} {K : PySem.W.Frag} {mg : Str → Option Value} {base : Heap} {k : Nat} {x : Str} {st : Stmt} {N ps : List Str} {sp : DSp} {w : WS} (h : Hd K mg x st ps) (S : FnScope N ps (defScope st)) (len : ∀ ys ob R X, sp ys ob R X → ys.length = ps.length)
    (hb : PDSs ⟨P, w0, K, mg, base, N, defScope st, k, true⟩ (defBody st) w) (hsp : ∀ dvs ob R X, sp dvs ob R X → ∀ sl, startS N dvs = sl → w (ends R X) ⟨sl, ob⟩) : DefG P w0 K mg base (k + 1) x st ps sp := by
  obtain ⟨f, fd, F, hm, bd⟩ := h.ex
  exact ⟨⟨f, fd, ok_def F S hb fun dvs ob R X _ h => hsp dvs ob R X h _ rfl, hm, F.kp, bd, F⟩, len⟩
end DL
end

section
set_option Elab.async false
set_option linter.all false
set_option maxRecDepth 100000
set_option maxHeartbeats 1000000
set_option autoImplicit false
namespace DL
variable [Tab0]
open PySem PySem.Spec PyProof.Rows L2

/-! ### enumerate over a tuple or a list -/
def iEnuA (K : PySem.W.Frag) (ta : TA) : TI := fun σ H R => ta σ H fun vs H1 => ∃ (a : Addr) (xs : List V), vs = [.ref a] ∧ ((SqL K H1 a xs ∧ R (Ite K a) H1) ∨ (SqT K H1 a xs ∧ R (IteT K a) H1))
theorem pi_enuA {X : Cx} {e : Expr} {ta : TA} {p pos tpos : Pos} {elts : List Expr} {kk : Nat} (hg : Gl X "enumerate") (hm : X.mg "enumerate" = none) (ha : PA X [e] ta) (hs : starEach [e] X.env = [(false, eval e X.env)]) :
    PI X (.Tuple elts kk tpos) (.Call (.Name "enumerate" p) [e] [] pos) (iEnuA X.K ta) := by
  constructor
  intro pins s σ H R I h
  refine Call_ (ld_blt I hg hm boot_enumerate ?_)
  refine PyProof.Rows.callWith_type1 (thn (ha.run pos pins s σ H _ I h) ?_) hs rfl
  rintro us s1 ⟨vs, H1, I1, r1, a, xs, ex, cs⟩
  subst ex
  rw [Vals.ref1 r1]
  have feet : ∀ b ∈ [s1.heap.objs.size + 1, s1.heap.objs.size], FpOk X pins H1 b := fun b hb => by
    have le : s1.heap.objs.size ≤ b := by
      rcases List.mem_cons.mp hb with rfl | hb
      · exact Nat.le_succ _
      · exact Nat.le_of_eq (List.mem_singleton.mp hb).symm
    exact I1.fpOk le (I1.hok.fresh le)
  rcases cs with ⟨hq, q⟩ | ⟨hq, q⟩
  · obtain ⟨its, rv, p2, hz⟩ := I1.list hq
    refine call_enumerate_list p2.isList fun h2 en ti hsz k => wpAny_pyIter_enum en ?_
    exact ⟨s1.heap.objs.size + 1, [s1.heap.objs.size + 1, s1.heap.objs.size], _, Ite X.K a, H1, rfl, I1.kept (t' := s1.toks) k, turn_enum a (s1.heap.objs.size + 1) s1.heap.objs.size, ⟨⟨.none, en⟩, ti, Nat.succ_ne_self _⟩, feet, q⟩
  · obtain ⟨its, rv, p2, hz⟩ := I1.tuple hq
    have tup : s1.heap.IsTuple a its.toArray := p2
    have ha2 : a < s1.heap.objs.size := by obtain ⟨o, ho, _⟩ := id tup; exact Heap.lt_size ho
    refine enu_call tup fun h2 en ti k => wpAny_pyIter_enum en ?_
    exact ⟨s1.heap.objs.size + 1, [s1.heap.objs.size + 1, s1.heap.objs.size], _, IteT X.K a, H1, rfl, I1.kept (t' := s1.toks) k, turn_enuT (it := s1.heap.objs.size) (Nat.ne_of_lt ha2) (Nat.ne_of_lt (Nat.lt_succ_of_lt ha2)), ⟨⟨.none, en⟩, ti, Nat.succ_ne_self _⟩, feet, q⟩
section
variable {T : Sta} {pos p : Pos} {a e : Expr} {w : WA} {wa : WE}
def wiEnuA (w : WA) : WI := fun ρ Q X => w ρ (fun xs ρ1 => match xs with
  | [.d (.tuple ds)] => Q (zipP (rng 0 ds.length) ds) ρ1
  | [.d (.list ds)] => Q (zipP (rng 0 ds.length) ds) ρ1
  | _ => False) X
theorem pdi_enumA {elts : List Expr} {kk : Nat} {tpos : Pos} (ha : PDA T [a] w) (hg : T.sc.names.lookup ("enumerate" : Str) = some .globalImplicit) (hm : T.mg "enumerate" = none) (hs : ∀ env, starEach [a] env = [(false, eval a env)] := by intro _; rfl) :
    PDI T (.Tuple elts kk tpos) (.Call (.Name "enumerate" p) [a] [] pos) (wiEnuA w) := by
  obtain ⟨t, ht, d⟩ := ha
  refine ⟨fun W => iEnuA T.K (t W), fun W X g tk => by rw [← g.K]; exact pi_enuA (by show X.env.scope.names.lookup _ = _; rw [g.sc]; exact hg) (by rw [g.mg]; exact hm) (ht W X g tk) (hs _), fun ρ Q X h W σ F G H as ok acc R k => ?_⟩
  refine d _ _ _ h W σ F G H as ok acc _ fun x ρ1 v G1 H1 as1 h1 ok1 n1 r1 => ?_
  match x, h1, r1 with
  | [.d (.tuple ds)], h1, .cons (v := v) q .nil =>
    obtain ⟨a, xs, rfl, hs, r⟩ := repT q
    exact ⟨a, xs, rfl, .inr ⟨same_sqT ok1.mem.gh hs, k _ ρ1 G1 H1 as1 _ h1 ok1 n1 (it_enumT hs r)⟩⟩
  | [.d (.list ds)], h1, .cons (v := v) q .nil =>
    obtain ⟨a, xs, rfl, hs, r⟩ := repL q
    exact ⟨a, xs, rfl, .inl ⟨ok1.mem.gh.seq hs, k _ ρ1 G1 H1 as1 _ h1 ok1 n1 (it_enumL hs r)⟩⟩
theorem pds_asgS {tg : Expr} {wg : WG} {js : List Nat} (ha : PD T a wa) (hg : PDG T tg wg js) (hw : ∀ env : Env, env.scope = T.sc → swappedStores [tg] a env = pure none) (hs : ∀ env, swapsWithSole [tg] a pos.line env = pure false := by intro _; rfl)
    (h1 : ∀ env, (assignEach [tg] env).map (·.2) = [assign tg env] := by intro _; rfl) : PDS T (.Assign [tg] a pos) (wAsg wa wg) := by
  obtain ⟨t, ht, d⟩ := ha
  obtain ⟨g, hg, dg⟩ := hg
  refine ⟨fun W => tAsg (t W) g, fun W X gd tk => ps_asg (ht W X gd tk) (hg X gd) (hs _) (hw _ gd.sc) (h1 _), fun ρ E h W σ F G H as ok acc D l => ?_⟩
  refine d _ _ _ h W σ F G H as ok (acc.at σ) _ fun dv ρ' v G' H' as' q o n r => ?_
  exact dg dv ρ' _ q σ F G' H' as' v o r _ fun ρ2 σ2 G2 H2 as2 q2 o2 n2 _ => l.nx ρ2 σ2 G2 H2 as2 q2 o2 (n.trans n2)
end
end DL
end

section
set_option Elab.async false
set_option linter.all false
set_option maxRecDepth 100000
set_option maxHeartbeats 1000000
set_option autoImplicit false
namespace DL
variable [Tab0]
open PySem PySem.Spec PyProof.Rows L2
/-! ### defs that take data and give data -/
def pur (n : Nat) (v : List PyData → PyData → Prop) : DSp := fun dvs _ R _ => ∃ (ds : List PyData) (y : PyData), dvs = ds.map .d ∧ ds.length = n ∧ v ds y ∧ ∀ ob', R (.d y) ob'
theorem pur_len {n : Nat} {v : List PyData → PyData → Prop} : ∀ (ys : List DV) (ob : List OB) (R : DV → List OB → Prop) (X : XD → List OB → Prop), pur n v ys ob R X → ys.length = n := by
  rintro ys ob R X ⟨ds, y, rfl, h, _⟩
  rw [List.length_map]
  exact h
theorem all_bel (n : Nat) : ∀ ds : List PyData, (ds.map DV.d).all (belV n) = true
  | [] => rfl
  | d :: ds => by
    rw [List.map_cons, List.all_cons, all_bel n ds]
    rfl
theorem call_pur {n : Nat} {v : List PyData → PyData → Prop} (ds : List PyData) (y : PyData) {ρ : S} {Q : QD} {X : QX} (hl : ds.length = n) (h : v ds y) (q : Q (.d y) ρ) : callD 0 (pur n v) (ds.map .d) ρ Q X :=
  ⟨all_bel 0 ds, Nat.zero_le _, rfl, ds, y, rfl, hl, h, fun ob' => ⟨rfl, Nat.zero_le _, rfl, q⟩⟩
theorem len1 {α : Type} {l : List α} (h : l.length = 1) : ∃ a, l = [a] := by
  match l, h with
  | [a], _ => exact ⟨a, rfl⟩
theorem len2 {α : Type} {l : List α} (h : l.length = 2) : ∃ a b, l = [a, b] := by
  match l, h with
  | [a, b], _ => exact ⟨a, b, rfl⟩
theorem len3 {α : Type} {l : List α} (h : l.length = 3) : ∃ a b c, l = [a, b, c] := by
  match l, h with
  | [a, b, c], _ => exact ⟨a, b, c, rfl⟩
/-! ### isinstance, by data -/
theorem tyN_ne {ρ : S} (x : PyData) : tyN ρ (.d x) ≠ "?" := by
  cases x <;> simp [tyN]
def isInt : PyData → Bool
  | .int _ => true
  | .bool _ => true
  | _ => false
def isBool : PyData → Bool
  | .bool _ => true
  | _ => false
def isTup : PyData → Bool
  | .tuple _ => true
  | _ => false
theorem k_int {ρ : S} : ∀ x : PyData, kitB (tyN ρ (.d x)) "int" = some (isInt x)
  | .none => (by decide +kernel : kitB "NoneType" "int" = some false)
  | .bool _ => (by decide +kernel : kitB "bool" "int" = some true)
  | .int _ => (by decide +kernel : kitB "int" "int" = some true)
  | .str _ => (by decide +kernel : kitB "str" "int" = some false)
  | .list _ => (by decide +kernel : kitB "list" "int" = some false)
  | .tuple _ => (by decide +kernel : kitB "tuple" "int" = some false)
  | .dict _ => (by decide +kernel : kitB "dict" "int" = some false)
theorem k_bool {ρ : S} : ∀ x : PyData, kitB (tyN ρ (.d x)) "bool" = some (isBool x)
  | .none => (by decide +kernel : kitB "NoneType" "bool" = some false)
  | .bool _ => (by decide +kernel : kitB "bool" "bool" = some true)
  | .int _ => (by decide +kernel : kitB "int" "bool" = some false)
  | .str _ => (by decide +kernel : kitB "str" "bool" = some false)
  | .list _ => (by decide +kernel : kitB "list" "bool" = some false)
  | .tuple _ => (by decide +kernel : kitB "tuple" "bool" = some false)
  | .dict _ => (by decide +kernel : kitB "dict" "bool" = some false)
theorem k_tup {ρ : S} : ∀ x : PyData, kitB (tyN ρ (.d x)) "tuple" = some (isTup x)
  | .none => (by decide +kernel : kitB "NoneType" "tuple" = some false)
  | .bool _ => (by decide +kernel : kitB "bool" "tuple" = some false)
  | .int _ => (by decide +kernel : kitB "int" "tuple" = some false)
  | .str _ => (by decide +kernel : kitB "str" "tuple" = some false)
  | .list _ => (by decide +kernel : kitB "list" "tuple" = some false)
  | .tuple _ => (by decide +kernel : kitB "tuple" "tuple" = some true)
  | .dict _ => (by decide +kernel : kitB "dict" "tuple" = some false)
theorem u_isi {u : String} {x : PyData} {b : Bool} {ρ : S} {Q : QD} (h : kitB (tyN ρ (.d x)) u = some b) (q : Q (.d (.bool b)) ρ) : dIsi u (.d x) ρ Q := ⟨tyN_ne x, b, h, q⟩
/-! ### [f(x) for x in xs], nothing of one's own touched -/
theorem lc_map {xs : List PyData} {ρ1 : S} {Q : QD} {wg : WG} {we : WE} {vs : List Nat} (f : PyData → PyData) (hl : xs.length ≤ sizeLine)
    (h : ∀ x ∈ xs, ∀ (o : OB) (E : QD), (∀ ρ4 : S, ρ4.ob = ρ1.ob ++ [o] → E (.d (f x)) ρ4) → wg (.d x) ⟨wipeS ρ1.sl vs, ρ1.ob ++ [o]⟩ fun ρ2 => we ρ2 E X0) (q : Q (.o ρ1.ob.length) ⟨ρ1.sl, ρ1.ob ++ [.lst ((xs.map f).map .d)]⟩) :
    ∃ I : Nat → List OB → List PyData → Prop, I 0 ρ1.ob [] ∧
  (∀ (i : Nat) (x : PyData) (ob : List OB) (acc : List PyData), xs[i]? = some x → I i ob acc → ob.length = ρ1.ob.length → wg (.d x) ⟨wipeS ρ1.sl vs, ob ++ [.lst (acc.map .d)]⟩ fun ρ2 => wYes ρ2 (fun b ρ3 => match b with
    | true => we ρ3 (fun y ρ4 => acc.length < sizeLine ∧ ∃ (dy : PyData) (ob' ex : List OB), y = .d dy ∧ ρ4.ob = ob' ++ .lst (acc.map .d) :: ex ∧ ob'.length = ρ1.ob.length ∧ (ex = [] ∨ ob'.all (belB (ob'.length + 1)) = true) ∧ I (i + 1) ob' (acc ++ [dy])) X0
    | false => ∃ (ob' : List OB), ρ3.ob = ob' ++ [.lst (acc.map .d)] ∧ ob'.length = ρ1.ob.length ∧ I (i + 1) ob' acc) X0) ∧
  (∀ (ob : List OB) (acc : List PyData), I xs.length ob acc → ob.length = ρ1.ob.length → Q (.o ob.length) ⟨ρ1.sl, ob ++ [.lst (acc.map .d)]⟩) := by
  refine ⟨fun i ob acc => ob = ρ1.ob ∧ acc = (xs.take i).map f, ⟨rfl, by simp⟩, ?_, ?_⟩
  · rintro i x ob acc hx ⟨rfl, rfl⟩ _
    have hi : i < xs.length := (List.getElem?_eq_some_iff.mp hx).1
    refine h x (List.mem_of_getElem? hx) _ _ fun ρ4 e4 => ?_
    refine ⟨by rw [List.length_map, List.length_take]; omega, f x, ρ1.ob, [], rfl, e4, rfl, .inl rfl, rfl, ?_⟩
    rw [List.take_succ, hx, List.map_append]
    rfl
  · rintro ob acc ⟨rfl, rfl⟩ _
    rw [List.take_length]
    exact q
theorem lc_fun {wi : WI} {wg : WG} {we : WE} {vs : List Nat} {ρ : S} {Q : QD} {X : QX} (xs : List PyData) (ρ1 : S) (f : PyData → PyData) (hi : ∀ C : List PyData → S → Prop, C xs ρ1 → wi ρ C X) (hl : xs.length ≤ sizeLine)
    (h : ∀ x ∈ xs, ∀ (o : OB) (E : QD), (∀ ρ4 : S, ρ4.ob = ρ1.ob ++ [o] → E (.d (f x)) ρ4) → wg (.d x) ⟨wipeS ρ1.sl vs, ρ1.ob ++ [o]⟩ fun ρ2 => we ρ2 E X0) (q : Q (.o ρ1.ob.length) ⟨ρ1.sl, ρ1.ob ++ [.lst ((xs.map f).map .d)]⟩) : wLc wi wg wYes we vs ρ Q X :=
  hi _ (lc_map f hl h q)
/-- [.. for .. for ..] -/
theorem lc2_fun {wi wi1 : WI} {wg wg1 : WG} {we : WE} {vs vs1 : List Nat} {ρ : S} {Q : QD} {X : QX} (xs : List PyData) (ρ1 : S) (f : PyData → List PyData) (hi : ∀ C : List PyData → S → Prop, C xs ρ1 → wi ρ C X) (hl : (xs.flatMap f).length ≤ sizeLine)
    (h : ∀ (x : PyData), x ∈ xs → ∀ l : List PyData, wg (.d x) ⟨wipeS ρ1.sl vs, ρ1.ob ++ [.lst (l.map .d)]⟩ fun ρ2 => wi1 ρ2 (fun ys ρ3 => ρ3.ob = ρ1.ob ++ [.lst (l.map .d)] ∧ ys.length = (f x).length ∧
    ∀ (j : Nat) (y : PyData), ys[j]? = some y → ∀ l' : List PyData, wg1 (.d y) ⟨wipeS ρ3.sl vs1, ρ1.ob ++ [.lst (l'.map .d)]⟩ fun ρ4 => we ρ4 (fun z ρ5 => ρ5.ob = ρ1.ob ++ [.lst (l'.map .d)] ∧ ∃ dz, (f x)[j]? = some dz ∧ z = .d dz) X0) X0)
    (q : Q (.o ρ1.ob.length) ⟨ρ1.sl, ρ1.ob ++ [.lst ((xs.flatMap f).map .d)]⟩) : wLc2 wi wg wi1 wg1 we vs vs1 ρ Q X :=
  hi _ ⟨f, hl, fun i x hx l => h x (List.mem_of_getElem? hx) l, q⟩
theorem obK_last {sl : List (Option DV)} {ob : List OB} {x : OB} : obK ⟨sl, ob ++ [x]⟩ ob.length = x := by
  unfold obK
  rw [show (ob ++ [x])[ob.length]? = some x from get_last _ _]
theorem allD_map (l : List PyData) : allD (l.map .d) = some l := by
  induction l with
  | nil => rfl
  | cons x r ih =>
    show (match allD (r.map .d) with | some l => some (x :: l) | none => none) = _
    rw [ih]
theorem lst_last {sl : List (Option DV)} {ob : List OB} {l : List PyData} : lstOf ⟨sl, ob ++ [.lst (l.map .d)]⟩ (.o ob.length) = some l := by
  show (match obK ⟨sl, ob ++ [.lst (l.map .d)]⟩ ob.length with | .lst xs => allD xs | _ => none) = some l
  rw [obK_last]
  exact allD_map l
/-- all(..) of a list just made -/
theorem u_all {sl : List (Option DV)} {ob : List OB} {xs : List PyData} {p : PyData → Bool} {Q : QD} (q : Q (.d (.bool (xs.all p))) ⟨sl, ob ++ [.lst ((xs.map fun x => .bool (p x)).map .d)]⟩) : dAll [.o ob.length] ⟨sl, ob ++ [.lst ((xs.map fun x => .bool (p x)).map .d)]⟩ Q := by
  refine ⟨_, xs.map p, lst_last, ?_, ?_⟩
  · have := bools_map (xs.map p)
    rwa [List.map_map] at this
  · rw [List.all_map]
    exact q
theorem for_in {wi : WI} {wg : WG} {wb : WS} {E : DEnds} {ρ : S} (xs : List PyData) (ρ1 : S) (I : Nat → S → Prop) (hi : ∀ C : List PyData → S → Prop, C xs ρ1 → wi ρ C E.xr) (h0 : I 0 ρ1)
    (hs : ∀ (i : Nat) (x : PyData) (ρ' : S), xs[i]? = some x → I i ρ' → wg (.d x) ρ' fun ρ2 => wb { E with nx := I (i + 1), ct := I (i + 1), bk := E.nx } ρ2) (he : ∀ ρ' : S, I xs.length ρ' → E.nx ρ') : wFor wi wg wb E ρ := hi _ ⟨I, h0, hs, he⟩
end DL
end

section
set_option Elab.async false
set_option linter.all false
set_option maxRecDepth 100000
set_option maxHeartbeats 1000000
set_option autoImplicit false
namespace DL
variable [Tab0]
open PySem PySem.Spec PyProof.Rows L2
/-! ### objects picked out and numbered anew -/
def renV (is : List Nat) : DV → DV
  | .d x => .d x
  | .o j => .o (is.idxOf j)
def inV (is : List Nat) : DV → Bool
  | .d _ => true
  | .o j => decide (j ∈ is)
def renB (is : List Nat) : OB → OB
  | .lst xs => .lst (xs.map (renV is))
  | .dk kvs => .dk (kvs.map fun p => (p.1, renV is p.2))
  | .dt kvs => .dt (kvs.map fun p => (p.1, renV is p.2))
  | .st xs => .st xs
  | .gone => .gone
def inB (is : List Nat) : OB → Bool
  | .lst xs => xs.all (inV is)
  | .dk kvs => kvs.all fun p => inV is p.2
  | .dt kvs => kvs.all fun p => inV is p.2
  | .st _ => true
  | .gone => true
def pickA (is : List Nat) (as : List Addr) : List Addr := is.map fun i => as.getD i 0
def pickB (is : List Nat) (ob : List OB) : List OB := is.map fun i => renB is (ob.getD i .gone)
section
variable {K : PySem.W.Frag} {F G H : Hp} {as : List Addr} {is : List Nat}
theorem pick_get (hl : ∀ i ∈ is, i < as.length) {j : Nat} {a : Addr} (h : j ∈ is) (e : as[j]? = some a) : (pickA is as)[is.idxOf j]? = some a := by
  have hj : is.idxOf j < is.length := List.idxOf_lt_length_of_mem h
  unfold pickA
  rw [List.getElem?_map, List.getElem?_eq_getElem hj, List.getElem_idxOf hj]
  show some (as.getD j 0) = some a
  rw [List.getD_eq_getElem?_getD, e]
  rfl
theorem RepV.pick (hl : ∀ i ∈ is, i < as.length) {v : V} : ∀ {x : DV}, inV is x = true → RepV K G as v x → RepV K G (pickA is as) v (renV is x)
  | .d _, _, r => r
  | .o j, b, ⟨a, e, q⟩ => ⟨a, pick_get hl (of_decide_eq_true b) e, q⟩
theorem RepVs.pick (hl : ∀ i ∈ is, i < as.length) : ∀ {v : List V} {x : List DV}, x.all (inV is) = true → RepVs K G as v x → RepVs K G (pickA is as) v (x.map (renV is))
  | _, _, _, .nil => .nil
  | _, _, b, .cons r rs => by
    rw [List.all_cons, Bool.and_eq_true] at b
    exact .cons (r.pick hl b.1) (RepVs.pick hl b.2 rs)
theorem ObAt.pick (hl : ∀ i ∈ is, i < as.length) {a : Addr} : ∀ {x : OB}, inB is x = true → ObAt K G H as a x → ObAt K G H (pickA is as) a (renB is x)
  | .lst _, b, ⟨vs, e, r⟩ => ⟨vs, e, r.pick hl b⟩
  | .dk kvs, b, ⟨vs, e, e2, r⟩ => by
    refine ⟨vs, e, by rw [e2, List.map_map]; rfl, ?_⟩
    have := RepVs.pick hl (show (kvs.map (·.2)).all (inV is) = true by simpa [inB, List.all_map] using b) r
    rw [List.map_map] at this ⊢
    exact this
  | .dt kvs, b, ⟨vs, e, e2, r⟩ => by
    refine ⟨vs, e, by rw [e2, List.map_map]; rfl, ?_⟩
    have := RepVs.pick hl (show (kvs.map (·.2)).all (inV is) = true by simpa [inB, List.all_map] using b) r
    rw [List.map_map] at this ⊢
    exact this
  | .st _, _, r => r
  | .gone, _, _ => trivial
theorem Mem.pick {ob : List OB} (m : Mem K F G H as ob) (hn : is.Nodup) (hl : ∀ i ∈ is, i < ob.length) (hb : ∀ i ∈ is, inB is (ob.getD i .gone) = true) : Mem K F G H (pickA is as) (pickB is ob) := by
  have hla : ∀ i ∈ is, i < as.length := fun i hi => by rw [m.len]; exact hl i hi
  have at_k : ∀ {k : Nat} {a : Addr}, (pickA is as)[k]? = some a → ∃ i, i ∈ is ∧ is[k]? = some i ∧ as[i]? = some a := fun {k a} e => by
    unfold pickA at e
    rw [List.getElem?_map] at e
    cases q : is[k]? with
    | none => rw [q] at e; cases e
    | some i =>
      rw [q] at e
      have hi := List.mem_of_getElem? q
      have e : some (as.getD i 0) = some a := e
      rw [List.getD_eq_getElem?_getD, List.getElem?_eq_getElem (hla i hi)] at e
      exact ⟨i, hi, rfl, by rw [List.getElem?_eq_getElem (hla i hi)]; exact e⟩
  have ob_k : ∀ {k i : Nat} {x : OB}, is[k]? = some i → (pickB is ob)[k]? = some x → i ∈ is ∧ x = renB is (ob.getD i .gone) ∧ ob[i]? = some (ob.getD i .gone) := fun {k i x} q e => by
    have hi := List.mem_of_getElem? q
    unfold pickB at e
    rw [List.getElem?_map, q] at e
    refine ⟨hi, (Option.some.inj e).symm, ?_⟩
    rw [List.getD_eq_getElem?_getD, List.getElem?_eq_getElem (hl i hi)]
    rfl
  refine ⟨m.gh, m.fh, m.gf, ?_, by unfold pickA pickB; rw [List.length_map, List.length_map], fun a ha => ?_, m.ft, m.tb, fun a ha => ?_, fun k a x e1 e2 e3 => ?_, fun k a x e1 e2 => ?_⟩
  · unfold pickA
    refine List.pairwise_map.mpr (List.Pairwise.imp_of_mem (fun {i j} hi hj hne he => hne ?_) hn)
    rw [List.getD_eq_getElem?_getD, List.getD_eq_getElem?_getD, List.getElem?_eq_getElem (hla i hi), List.getElem?_eq_getElem (hla j hj)] at he
    have he : as[i]'(hla i hi) = as[j]'(hla j hj) := he
    exact (List.getElem_inj m.nd).mp he
  · obtain ⟨k, hk⟩ := List.getElem?_of_mem ha
    obtain ⟨i, _, _, e⟩ := at_k hk
    exact m.al a (List.mem_of_getElem? e)
  · obtain ⟨k, hk⟩ := List.getElem?_of_mem ha
    obtain ⟨i, _, _, e⟩ := at_k hk
    exact m.ofr a (List.mem_of_getElem? e)
  · obtain ⟨i, hi, q, e⟩ := at_k e1
    obtain ⟨_, rfl, eo⟩ := ob_k q e2
    exact m.own i a _ e eo fun z => by
      rw [z] at e3
      exact e3 rfl
  · obtain ⟨i, hi, q, e⟩ := at_k e1
    obtain ⟨_, rfl, eo⟩ := ob_k q e2
    exact (m.at_ i a _ e eo).pick hla (hb i hi)
end
/-! ### a call whose result may be one's own: the caller has no objects yet; of the callee's those of is are kept -/
section
variable {T : Sta} {pos p : Pos} {e : Expr} {es : List Expr} {w : WA}
def callP (is : List Nat) (sp : DSp) (xs : List DV) (ρ1 : S) (Q : QD) : Prop := xs.all isD = true ∧ ρ1.ob = [] ∧
  sp xs [] (fun dv ob' => is.Nodup ∧ (∀ i ∈ is, i < ob'.length) ∧ (∀ i ∈ is, inB is (ob'.getD i .gone) = true) ∧ inV is dv = true ∧ Q (renV is dv) ⟨ρ1.sl, pickB is ob'⟩) (fun _ _ => False)
def wCallP (is : List Nat) (sp : DSp) (w : WA) : WE := fun ρ Q X => w ρ (fun xs ρ1 => callP is sp xs ρ1 Q) X
theorem callP_ok {K : PySem.W.Frag} {m : Nat} {is : List Nat} {sp : DSp} {xs : List DV} {ρ1 : S} {Q : QD} {W : WX} {C : VK} {σ : St} {F G1 H1 : Hp} {as1 : List Addr} {vs : List V} (ok1 : Ok K ρ1 σ F G1 H1 as1) (kk : Kv K F G1 as1 σ Q C) (r1 : RepVs K G1 as1 vs xs)
    (hm : xs.length = m) (h1 : callP is sp xs ρ1 Q) : SpD K m sp vs H1 C (L2.WE W σ) := by
  obtain ⟨b1, b2, hs⟩ := h1
  obtain ⟨sl1, ob1⟩ := ρ1
  simp only at b2 hs
  subst b2
  have ea : as1 = [] := List.length_eq_zero_iff.mp ok1.mem.len
  subst ea
  have m0 : Mem K (rest G1 H1 []) G1 H1 [] [] := ok1.mem.into 0 rfl
  have fr : ∀ a o, F a = some o → rest G1 H1 [] a = some o := fun a o e => rest_get (ok1.mem.gf a o e) (by simp) (ok1.mem.fh a o e) (ok1.mem.ft a o e)
  refine ⟨rest G1 H1 [], G1, [], xs, [], _, _, m0, r1, hm, hs, fun dv ob' v G' H' as' q m' n' rv => ?_, fun xd ob' d G' H' as' q => q.elim⟩
  obtain ⟨q1, q2, q3, q4, q5⟩ := q
  have m2 : Mem K F G' H' as' ob' := by
    refine ⟨m'.gh, fun a o e => m'.fh a o (fr a o e), fun a o e => m'.gf a o (fr a o e), m'.nd, m'.len, m'.al, ok1.mem.ft, m'.tb, fun a ha => ?_, m'.own, m'.at_⟩
    cases q : F a with
    | none => rfl
    | some o =>
      have := m'.ofr a ha
      rw [fr a o q] at this
      cases this
  have n2 : Nxt G1 [] G' (pickA is as') := ⟨n'.g, pickA is as', rfl⟩
  refine kk (renV is dv) _ v G' H' (pickA is as') q5 ⟨m2.pick q1 q2 q3, ok1.sll, fun i dx e => ?_⟩ n2 (rv.pick (fun i hi => by rw [m2.len]; exact q2 i hi) q4)
  obtain ⟨u, e1, r⟩ := ok1.sl i dx e
  exact ⟨u, e1, r.mono n2⟩
theorem pd_callP {x : Str} {p : Pos} {ps : List Str} {st : Stmt} {sp : DSp} (is : List Nat) (D : Def T x st ps sp) (hg : T.sc.names.lookup x = some .globalImplicit) (ha : PDA T (e :: es) w)
    (hdb : (x == ("__debug__" : Str)) = false := by decide) (he : ∀ env, starEach (e :: es) env = (false, eval e env) :: starEach es env := by intro _; rfl) (hpl : ∀ env, (backTo pos (starEach es env)).any (·.1) = false := by intro _; rfl) :
    PD T (.Call (.Name x p) (e :: es) [] pos) (wCallP is sp w) := by
  obtain ⟨⟨k, f, fd, hk, Fn, hm, hkp, hb, _⟩, hlen⟩ := D
  obtain ⟨ta, ha, da⟩ := ha
  refine ⟨fun W => tCallG (SpD T.K ps.length sp) [] W (ta W), fun W X g tk => ?_, fun ρ Q X h W σ F G H as ok acc C kk => ?_⟩
  · obtain ⟨h1, h2, h3, h4, h5, h6, h7, h8, h9, h10, h11, h12, h13⟩ := g
    have ha' := ha W X ⟨h1, h2, h3, h4, h5, h6, h7, h8, h9, h10, h11, h12, h13⟩ tk
    obtain ⟨TP, Tw, TK, Tmg, Tb, TN, Tsc, Tk, Tt⟩ := T
    simp only at h1 h2 h3 h4 h5 h6 h7 h8 h9 h10 h11 h12 h13 hk Fn hm hkp hb hg
    subst h1 h2 h3 h4 h5 h6 h7
    exact pe_callG Fn h13 (h9.mono hk) hg hm hkp hb .nil tk ha' hdb (he _) (hpl _)
  · refine da _ _ _ h W σ F G H as ok acc _ fun xs ρ1 vs G1 H1 as1 h1 ok1 n1 r1 => ?_
    show SpD T.K ps.length sp (vs ++ []) H1 C (L2.WE W σ)
    rw [List.append_nil]
    exact callP_ok ok1 (kk.next n1) r1 (hlen _ _ _ _ h1.2.2) h1
end
/-! ### the deck of a law: its objects 0 and 1 -/
def deckO (m d : Int) : OB := .dk [(.inr "cells", .o 1), (.inr "mixed", .d (.int m)), (.inr "draws", .d (.int d))]
def cellsO (c : List Int) : OB := .lst ((c.map PyData.int).map .d)
/-- a def that draws: takes the deck and data, gives data -/
def dkS (n : Nat) (pre : List PyData → Prop) (v : List PyData → PyData → Prop) : DSp := fun dvs ob R _ => ∃ (ds : List PyData) (c : List Int) (m d : Int), dvs = .o 0 :: ds.map .d ∧ ds.length = n ∧ pre ds ∧ c.length ≤ 63 ∧ ob = [deckO m d, cellsO c] ∧
  ∀ (y : PyData) (c' : List Int) (m' d' : Int) (rest : List OB), v ds y → c'.length ≤ 63 → R (.d y) (deckO m' d' :: cellsO c' :: rest)
theorem dkS_len {n : Nat} {pre : List PyData → Prop} {v : List PyData → PyData → Prop} : ∀ (ys : List DV) (ob : List OB) (R : DV → List OB → Prop) (X : XD → List OB → Prop), dkS n pre v ys ob R X → ys.length = n + 1 := by
  rintro ys ob R X ⟨ds, c, m, d, rfl, h, _⟩
  rw [List.length_cons, List.length_map, h]
theorem bel_cells (c : List Int) : belB 2 (cellsO c) = true := bel_data 2 (c.map .int)
theorem call_dk {n : Nat} {pre : List PyData → Prop} {v : List PyData → PyData → Prop} (ds : List PyData) {sl : List (Option DV)} {c : List Int} {m d : Int} {rest : List OB} {Q : QD} {X : QX} (hl : ds.length = n) (hp : pre ds) (hc : c.length ≤ 63)
    (q : ∀ (y : PyData) (c' : List Int) (m' d' : Int), v ds y → c'.length ≤ 63 → Q (.d y) ⟨sl, deckO m' d' :: cellsO c' :: rest⟩) : callD 2 (dkS n pre v) (.o 0 :: ds.map .d) ⟨sl, deckO m d :: cellsO c :: rest⟩ Q X := by
  have bb : ∀ (c : List Int) (m d : Int), [deckO m d, cellsO c].all (belB 2) = true := fun c m d => by
    show (belB 2 (deckO m d) && (belB 2 (cellsO c) && true)) = true
    rw [bel_cells]
    rfl
  refine ⟨?_, by simp, bb c m d, ds, c, m, d, rfl, hl, hp, hc, rfl, fun y c' m' d' r' hv hc' => ⟨rfl, by simp, bb c' m' d', ?_⟩⟩
  · show (belV 2 (.o 0) && (ds.map DV.d).all (belV 2)) = true
    rw [all_bel]
    rfl
  · exact q y c' m' d' hv hc'
end DL
end

section
set_option Elab.async false
set_option linter.all false
set_option maxRecDepth 100000
set_option maxHeartbeats 1000000
set_option autoImplicit false
namespace DL
variable [Tab0]
open PySem PySem.Spec PyProof.Rows L2
/-! ### what is read off the deck -/
theorem k_cm : (("cells" : Str) = ("mixed" : Str)) = False := by decide
theorem k_cd : (("cells" : Str) = ("draws" : Str)) = False := by decide
theorem k_md : (("mixed" : Str) = ("draws" : Str)) = False := by decide
section
variable {sl : List (Option DV)} {rest : List OB} {m d : Int} {Q : QD}
theorem look_cells {x y z : DV} : lookD [((.inr ("cells" : Str) : Key), x), (.inr ("mixed" : Str), y), (.inr ("draws" : Str), z)] (.inr ("cells" : Str)) = some x := by simp [lookD]
theorem look_mixed {x y z : DV} : lookD [((.inr ("cells" : Str) : Key), x), (.inr ("mixed" : Str), y), (.inr ("draws" : Str), z)] (.inr ("mixed" : Str)) = some y := by simp [lookD, k_cm]
theorem look_draws {x y z : DV} : lookD [((.inr ("cells" : Str) : Key), x), (.inr ("mixed" : Str), y), (.inr ("draws" : Str), z)] (.inr ("draws" : Str)) = some z := by simp [lookD, k_cd, k_md]
theorem dg_cells (q : Q (.o 1) ⟨sl, deckO m d :: rest⟩) : dDG (.o 0) (.d (.str ("cells" : Str))) ⟨sl, deckO m d :: rest⟩ Q := by
  show (match some (lookD [((.inr ("cells" : Str) : Key), DV.o 1), (.inr ("mixed" : Str), .d (.int m)), (.inr ("draws" : Str), .d (.int d))] (.inr ("cells" : Str))) with | some (some z) => Q z ⟨sl, deckO m d :: rest⟩ | _ => False)
  rw [look_cells]
  exact q
theorem dg_mixed (q : Q (.d (.int m)) ⟨sl, deckO m d :: rest⟩) : dDG (.o 0) (.d (.str ("mixed" : Str))) ⟨sl, deckO m d :: rest⟩ Q := by
  show (match some (lookD [((.inr ("cells" : Str) : Key), DV.o 1), (.inr ("mixed" : Str), .d (.int m)), (.inr ("draws" : Str), .d (.int d))] (.inr ("mixed" : Str))) with | some (some z) => Q z ⟨sl, deckO m d :: rest⟩ | _ => False)
  rw [look_mixed]
  exact q
theorem dg_draws (q : Q (.d (.int d)) ⟨sl, deckO m d :: rest⟩) : dDG (.o 0) (.d (.str ("draws" : Str))) ⟨sl, deckO m d :: rest⟩ Q := by
  show (match some (lookD [((.inr ("cells" : Str) : Key), DV.o 1), (.inr ("mixed" : Str), .d (.int m)), (.inr ("draws" : Str), .d (.int d))] (.inr ("draws" : Str))) with | some (some z) => Q z ⟨sl, deckO m d :: rest⟩ | _ => False)
  rw [look_draws]
  exact q
theorem put_draws {e : Int} : putR ⟨sl, deckO m d :: rest⟩ (.o 0) (.d (.str ("draws" : Str))) (.d (.int e)) = some ⟨sl, deckO m e :: rest⟩ := by
  show some (⟨sl, (deckO m d :: rest).set 0 (.dk (putD _ _ _))⟩ : S) = _
  simp [putD, k_cd, k_md, deckO]
theorem few_deck : fewD ⟨sl, deckO m d :: rest⟩ (.o 0) = true := by
  show decide ((3 : Nat) < sizeLine) = true
  decide
end
theorem canLay_ints : ∀ l : List Int, PyData.canLayAll0 (l.map .int) = true
  | [] => rfl
  | x :: r => by simp [PyData.canLayAll0, PyData.canLay0, canLay_ints r]
theorem noDict_ints : ∀ l : List Int, PyData.hasDictAll (l.map .int) = false
  | [] => rfl
  | x :: r => by simp [PyData.hasDictAll, PyData.hasDict, noDict_ints r]
theorem eqs_ints (l : List Int) : Eqs (.list (l.map .int)) := by
  have h1 := noDict_ints l
  have h2 := canLay_ints l
  have h3 : PyData.depthAll (l.map .int) = 0 := PySem.W.depth_ints l
  refine ⟨by simpa [PyData.hasDict] using h1, ?_⟩
  unfold SeqAt.shaped
  simp [PyData.canLay0, h2, PyData.depth, h3]
theorem eqs_nil : Eqs (.list []) := eqs_ints []
theorem eqv_nil (l : List PyData) : PyData.eqv (.list l) (.list []) = l.isEmpty := by
  cases l <;> simp [PyData.eqv, PyData.eqvAll]
theorem dat_of {ρ : S} {k : Nat} {l : List PyData} (h : obK ρ k = .lst (l.map .d)) : datOf ρ (.o k) = some (.list l) := by
  show (match obK ρ k with | .lst xs => (allD xs).map PyData.list | _ => none) = _
  rw [h]
  show (allD (l.map .d)).map PyData.list = _
  rw [allD_map]
  rfl
/-- xs != [] -/
theorem u_neNil {ρ : S} {k j : Nat} {l : List PyData} {Q : QD} (h1 : obK ρ k = .lst (l.map .d)) (h2 : obK ρ j = .lst (([] : List PyData).map .d)) (he : Eqs (.list l)) (q : Q (.d (.bool (!l.isEmpty))) ρ) : dNe (.o k) (.o j) ρ Q :=
  ⟨_, _, dat_of h1, dat_of h2, he, eqs_nil, by rw [eqv_nil]; exact q⟩
theorem u_eqNil {ρ : S} {k j : Nat} {l : List PyData} {Q : QD} (h1 : obK ρ k = .lst (l.map .d)) (h2 : obK ρ j = .lst (([] : List PyData).map .d)) (he : Eqs (.list l)) (q : Q (.d (.bool l.isEmpty)) ρ) : dEq (.o k) (.o j) ρ Q :=
  ⟨_, _, dat_of h1, dat_of h2, he, eqs_nil, by rw [eqv_nil]; exact q⟩
theorem snoc_of {α : Type} {l : List α} (h : l ≠ []) : ∃ r x, l = r ++ [x] := ⟨l.dropLast, l.getLast h, (List.dropLast_concat_getLast h).symm⟩
/-- xs.pop() -/
theorem u_pop {ρ : S} {k : Nat} {l : List PyData} {x : PyData} {Q : QD} (h : obK ρ k = .lst ((l ++ [x]).map .d)) (q : Q (.d x) ⟨ρ.sl, ρ.ob.set k (.lst (l.map .d))⟩) : dPop (.o k) [] ρ Q := by
  show (match obK ρ k with | .lst xs => ∃ z, xs[xs.length - 1]? = some z ∧ Q z ⟨ρ.sl, ρ.ob.set k (.lst xs.dropLast)⟩ | _ => False)
  rw [h, List.map_append]
  refine ⟨.d x, by simp, ?_⟩
  rw [show (l.map DV.d ++ [x].map DV.d).dropLast = l.map DV.d from by simp]
  exact q
theorem u_tyL {ρ : S} {k : Nat} {xs : List DV} (h : obK ρ k = .lst xs) : tyD "list" ρ (.o k) := by
  show (match obK ρ k with | .lst _ => "list" = "list" | .dk _ => "list" = "dict" | .dt _ => "list" = "dict" | .st _ => "list" = "set" | .gone => False)
  rw [h]
/-- xs.append(y) -/
theorem u_app {ρ : S} {k : Nat} {l : List PyData} {x : PyData} {Q : QD} (h : obK ρ k = .lst (l.map .d)) (hl : l.length < sizeLine) (q : Q (.d .none) ⟨ρ.sl, ρ.ob.set k (.lst ((l ++ [x]).map .d))⟩) : dApp (.o k) [.d x] ρ Q := by
  show (match obK ρ k with | .lst xs => xs.length < sizeLine ∧ Q (.d .none) ⟨ρ.sl, ρ.ob.set k (.lst (xs ++ [.d x]))⟩ | _ => False)
  rw [h]
  refine ⟨by rw [List.length_map]; exact hl, ?_⟩
  rw [List.map_append] at q
  exact q
theorem cells_snoc (c : List Int) (x : Int) : OB.lst ((c.map PyData.int ++ [PyData.int x]).map .d) = cellsO (c ++ [x]) := by
  unfold cellsO
  rw [List.map_append (f := PyData.int)]
  rfl
theorem cells_eq (c : List Int) : OB.lst ((c.map PyData.int).map .d) = cellsO c := rfl
theorem frz_of {ρ : S} {k : Nat} (l : List PyData) (h : obK ρ k = .lst (l.map .d)) : frz ρ k = some (.list l, ⟨ρ.sl.map (ren k (.list l)), ρ.ob.set k .gone⟩) := by
  unfold frz
  rw [h]
  show (allD (l.map .d)).map _ = _
  rw [allD_map]
  rfl
end DL
namespace DL
variable [Tab0]
open PySem PySem.Spec PyProof.Rows L2
/-- the same, without objects of one's own at the start -/
def pur0 (n : Nat) (v : List PyData → PyData → Prop) : DSp := fun dvs ob R _ => ∃ (ds : List PyData) (y : PyData), dvs = ds.map .d ∧ ds.length = n ∧ v ds y ∧ ob = [] ∧ ∀ ob', R (.d y) ob'
theorem pur0_len {n : Nat} {v : List PyData → PyData → Prop} : ∀ (ys : List DV) (ob : List OB) (R : DV → List OB → Prop) (X : XD → List OB → Prop), pur0 n v ys ob R X → ys.length = n := by
  rintro ys ob R X ⟨ds, y, rfl, h, _⟩
  rw [List.length_map]
  exact h
theorem call_pur0 {n : Nat} {v : List PyData → PyData → Prop} (ds : List PyData) (y : PyData) {ρ : S} {Q : QD} {X : QX} (hl : ds.length = n) (h : v ds y) (q : Q (.d y) ρ) : callD 0 (pur0 n v) (ds.map .d) ρ Q X :=
  ⟨all_bel 0 ds, Nat.zero_le _, rfl, ds, y, rfl, hl, h, rfl, fun ob' => ⟨rfl, Nat.zero_le _, rfl, q⟩⟩
theorem u_lenO {ρ : S} {k : Nat} {l : List PyData} {Q : QD} (h : obK ρ k = .lst (l.map .d)) (q : Q (.d (.int (l.length : Nat))) ρ) : dLen [.o k] ρ Q := by
  refine ⟨l.map .d, ?_, by rw [List.length_map]; exact q⟩
  show (match obK ρ k with | .lst xs => some xs | _ => none) = _
  rw [h]
theorem erase_map {α β : Type} (f : α → β) : ∀ (l : List α) (n : Nat), (l.map f).eraseIdx n = (l.eraseIdx n).map f
  | [], _ => rfl
  | _ :: _, 0 => rfl
  | x :: r, n + 1 => by
    show f x :: (r.map f).eraseIdx n = f x :: (r.eraseIdx n).map f
    rw [erase_map f r n]
theorem u_popAt {ρ : S} {k : Nat} {l : List PyData} {x : PyData} {i : Int} {Q : QD} (h : obK ρ k = .lst (l.map .d)) (h0 : 0 ≤ i) (h1 : i < 2 ^ 62) (hx : l[i.toNat]? = some x) (q : Q (.d x) ⟨ρ.sl, ρ.ob.set k (.lst ((l.eraseIdx i.toNat).map .d))⟩) : dPopAt (.o k) [.d (.int i)] ρ Q := by
  show (match obK ρ k with | .lst xs => ∃ z, 0 ≤ i ∧ i < 2 ^ 62 ∧ xs[i.toNat]? = some z ∧ Q z ⟨ρ.sl, ρ.ob.set k (.lst (xs.eraseIdx i.toNat))⟩ | _ => False)
  rw [h]
  refine ⟨.d x, h0, h1, by rw [List.getElem?_map, hx]; rfl, ?_⟩
  rw [erase_map]
  exact q
theorem u_ext {ρ : S} {k j : Nat} {l l2 : List PyData} {Q : QD} (h1 : obK ρ k = .lst (l.map .d)) (h2 : obK ρ j = .lst (l2.map .d)) (hl : l.length + l2.length ≤ sizeLine) (q : Q (.d .none) ⟨ρ.sl, ρ.ob.set k (.lst ((l ++ l2).map .d))⟩) : dExt (.o k) [.o j] ρ Q := by
  show (match obK ρ k, obK ρ j with | .lst xs, .lst zs => xs.length + zs.length ≤ sizeLine ∧ Q (.d .none) ⟨ρ.sl, ρ.ob.set k (.lst (xs ++ zs))⟩ | _, _ => False)
  rw [h1, h2]
  refine ⟨by rw [List.length_map, List.length_map]; exact hl, ?_⟩
  rw [List.map_append] at q
  exact q
theorem u_tupL {ρ : S} {k : Nat} {l : List PyData} {Q : QD} (h : obK ρ k = .lst (l.map .d)) (q : Q (.d (.tuple l)) ρ) : dTuple [.o k] ρ Q := ⟨l, lst_of' h, q⟩
where
  lst_of' {ρ : S} {k : Nat} {l : List PyData} (h : obK ρ k = .lst (l.map .d)) : lstOf ρ (.o k) = some l := by
    show (match obK ρ k with | .lst xs => allD xs | _ => none) = some l
    rw [h]
    exact allD_map l
/-- for, the walked row known by what holds of it -/
theorem for_in' {wi : WI} {wg : WG} {wb : WS} {E : DEnds} {ρ : S} (P : List PyData → S → Prop) (I : Nat → S → Prop) (hi : ∀ C : List PyData → S → Prop, (∀ xs ρ1, P xs ρ1 → C xs ρ1) → wi ρ C E.xr) (h0 : ∀ xs ρ1, P xs ρ1 → I 0 ρ1)
    (hs : ∀ xs ρ1, P xs ρ1 → ∀ (i : Nat) (x : PyData) (ρ' : S), xs[i]? = some x → I i ρ' → wg (.d x) ρ' fun ρ2 => wb { E with nx := I (i + 1), ct := I (i + 1), bk := E.nx } ρ2) (he : ∀ xs ρ1, P xs ρ1 → ∀ ρ' : S, I xs.length ρ' → E.nx ρ') : wFor wi wg wb E ρ :=
  hi _ fun xs ρ1 p => ⟨I, h0 xs ρ1 p, hs xs ρ1 p, he xs ρ1 p⟩
end DL
end

section
set_option Elab.async false
set_option linter.all false
set_option maxRecDepth 100000
set_option maxHeartbeats 1000000
set_option autoImplicit false
namespace DL
variable [Tab0]
open PySem PySem.Spec PyProof.Rows L2
/-! ### data whose repr is short -/
structure Sh (w k : Nat) (d : PyData) : Prop where
  s : d.showable = true
  n : d.hasDict = false
  l : d.leavesShort 13 = true
  w : d.weight ≤ w
  k : d.depth ≤ k
theorem short64 : ((List.range 65).all fun n => decide ((PyData.shown (.int (n : Int))).length ≤ 13) && decide ((n : Int).natAbs.log2 < 1920) && decide ((PyData.int (n : Int)).weight ≤ 7)) = true := by decide +kernel
theorem sh_int {i : Int} (h0 : 0 ≤ i) (h1 : i ≤ 64) : Sh 7 0 (.int i) := by
  have h := List.all_eq_true.mp short64 i.toNat (List.mem_range.mpr (by omega))
  rw [Int.toNat_of_nonneg h0, Bool.and_eq_true, Bool.and_eq_true, decide_eq_true_eq, decide_eq_true_eq, decide_eq_true_eq] at h
  exact ⟨by simp [PyData.showable, h.1.2], by simp [PyData.hasDict], by simp [PyData.leavesShort, h.1.1], h.2, by simp [PyData.depth]⟩
theorem sh_bool (b : Bool) : Sh 0 0 (.bool b) := ⟨by simp [PyData.showable], by simp [PyData.hasDict], by simp [PyData.leavesShort], by simp [PyData.weight], by simp [PyData.depth]⟩
theorem sh_none : Sh 0 0 .none := ⟨by simp [PyData.showable], by simp [PyData.hasDict], by simp [PyData.leavesShort], by simp [PyData.weight], by simp [PyData.depth]⟩
theorem sh_tup {w k : Nat} {xs : List PyData} (h : ∀ x ∈ xs, Sh w k x) : Sh ((w + 1) * xs.length) (k + 1) (.tuple xs) := by
  have all : PyData.showableAll xs = true ∧ PyData.hasDictAll xs = false ∧ PyData.leavesShortAll 13 xs = true ∧ PyData.weightAll xs ≤ (w + 1) * xs.length ∧ PyData.depthAll xs ≤ k := by
    induction xs with
    | nil => simp [PyData.showableAll, PyData.hasDictAll, PyData.leavesShortAll, PyData.weightAll, PyData.depthAll]
    | cons x r ih =>
      obtain ⟨a, b, c, d, e⟩ := ih fun y hy => h y (List.mem_cons_of_mem _ hy)
      obtain ⟨a', b', c', d', e'⟩ := h x List.mem_cons_self
      refine ⟨by simp [PyData.showableAll, a, a'], by simp [PyData.hasDictAll, b, b'], by simp [PyData.leavesShortAll, c, c'], ?_, ?_⟩
      · simp only [PyData.weightAll, List.length_cons]
        have : (w + 1) * (r.length + 1) = (w + 1) * r.length + (w + 1) := by rw [Nat.mul_add, Nat.mul_one]
        omega
      · simp only [PyData.depthAll]
        omega
  obtain ⟨a, b, c, d, e⟩ := all
  exact ⟨by simp [PyData.showable, a], by simp [PyData.hasDict, b], by simp [PyData.leavesShort, c], by simp only [PyData.weight]; exact d, by simp only [PyData.depth]; omega⟩
theorem Sh.mono {w k w' k' : Nat} {d : PyData} (h : Sh w k d) (hw : w ≤ w') (hk : k ≤ k') : Sh w' k' d := ⟨h.s, h.n, h.l, Nat.le_trans h.w hw, Nat.le_trans h.k hk⟩
theorem Sh.shows {w k : Nat} {d : PyData} (h : Sh w k d) (hw : w ≤ 1000000) (hk : k ≤ 60) : Shows d := by
  refine ⟨h.s, h.n, ?_, Nat.le_trans h.k hk⟩
  have h1 := PyData.shown_le 13 (by decide) d h.l
  have h2 := h.w
  have e : sizeLine = 16777216 := by decide
  rw [e]
  omega
end DL
end

section
set_option Elab.async false
set_option linter.all false
set_option maxRecDepth 100000
set_option maxHeartbeats 4000000
set_option autoImplicit false
namespace DL
variable [Tab0]
open PySem PySem.Spec PyProof.Rows L2
/-! ### own exceptions over Exception, through own classes: raised, with fields that their __init__ writes -/
abbrev tailE : List Value := [.type "Exception", .type "BaseException", .type "object"]
/-- the classes behind such a class: some own ones, then Exception's -/
def lineE (cs : List Addr) : List Value := cs.map Value.ref ++ tailE
theorem lineE_has (X : String) : ∀ cs : List Addr, (lineE cs).contains (.type X) = tailE.contains (.type X)
  | [] => rfl
  | c :: cs => by
    have := lineE_has X cs
    show (Value.ref c :: lineE cs).contains (.type X) = _
    rw [List.contains_cons, this]
    rfl
theorem lineE_pass (self : Value) : ∀ cs : List Addr, refuseLoop self "__setattr__" (lineE cs) = pure ()
  | [] => F.store_Exception.passes self
  | c :: cs => by
    show refuseLoop self "__setattr__" (Value.ref c :: lineE cs) = _
    rw [refuseLoop_ref]
    exact lineE_pass self cs

/-- what the written part says of the class -/
structure OexE (K : PySem.W.Frag) (C : Addr) : Prop where
  cls : ∃ nm q N bs cs sn sub ab col dd k0 k1 k2 k3 k5, K.lookup C = some (excClassObj nm q C N bs (lineE cs) true sn sub ab col dd k0 k1 k2 k3 k5 "Exception.__new__")
  sa : PySem.W.findIn K (.ref C) "__setattr__" = some (some (.builtin "object.__setattr__"))
  exC : PySem.W.subIn K (.ref C) (.type "BaseException") = some true
  tyC : PySem.W.typeIn K (.ref C) = some (.type "type")
  kC : PySem.W.keepIn K (.ref C) = true

section
open Builtin Builtin.ObjectAttr PySem.HandSPX
variable {prog : Program} {w : World} {A : Around} {E : Value → Shared → Prop} {R : Result → Shared → Prop} {hp : Heap} {g : Array GenState} {d : Drawn} {t : Nat} {os : OsState}
/-- object.__setattr__ on it, up to the store in its dict -/
theorem osa_line {K : W.Frag} {name : Str} {tk : Tok} {v : Value} {x C : Addr} {ox : Obj} {od : Option Obj} {cd : ClassData} {cs : List Addr}
    (X : K.In hp) (I : W.InstAt hp x ox C od) (hcd : W.clsIn K C = some cd) (hm : cd.mro = lineE cs) (ha : W.findIn K (.ref C) name = some none)
    (hq : wpAny (model prog w) A.in1 (storeInOwnDict (.ref x) (.ref C) (.str name tk) name v false)
      (fun fin s' => match fin with | .done f => R (.ok f) s' | .again c' => c'.quiet = true ∧ codeAny (model prog w) A c' R s') (fun e s' => R (.error e) s') ⟨hp, g, d, t, os⟩) :
    codeAny (model prog w) A (.call (.builtin "object.__setattr__") ⟨[.ref x, .str name tk, v], []⟩) R ⟨hp, g, d, t, os⟩ := by
  have SF := F.store_object
  have hob : cd.mro.contains (.type "object") = true := by
    rw [hm, lineE_has]
    decide +kernel
  have ne : cd.mro.isEmpty = false := by
    cases q : cd.mro with
    | nil =>
      rw [q] at hob
      cases hob
    | cons _ _ => rfl
  have sub : W.Looks (model prog w) hp (isInstance (.ref x) (.type "object")) true :=
    I.type.andThen (W.looks_mroIn X (by unfold W.mroIn; rw [hcd, Option.bind_some, if_neg (by rw [ne]; decide), hob]))
  refine codeAny_call_builtin SF.slot.plain SF.entry (@W.check_slot (model prog w) _ _ ⟨hp, g, d, t, os⟩ "object.__setattr__" "object" "__setattr__" (.ref x) [.str name tk, v] [] _ SF.kind SF.split sub (SF.args (.ref x) (.str name tk) v) ?_)
  have l1 : W.Looks (model prog w) hp (mroOf (.ref C)) cd.mro := (W.looks_clsIn X hcd).andThen .now
  have l2 : W.Looks (model prog w) hp (storeTaker? none) none := .now
  rw [W.osa_eq, refuse_eq]
  refine wpAny_bind (wpAny_bind (I.type.at (wpAny_bind (l1.at ?_))))
  rw [hm, lineE_pass]
  exact wpAny_pure (wpAny_bind (I.type.at (wpAny_bind ((W.looks_findIn X ha).at (wpAny_bind (l2.at hq))))))
/-- the first field: its dict is made -/
theorem osa_first {K : W.Frag} {name : Str} {tk : Tok} {v : Value} {x C : Addr} {fv : Array Value} {cd : ClassData} {cs : List Addr}
    (X : K.In hp) (hx : hp.get? x = some { cls := .ref C, data := .fields fv }) (hcd : W.clsIn K C = some cd) (hm : cd.mro = lineE cs) (hh : cd.hasDict = true) (ha : W.findIn K (.ref C) name = some none)
    (hq : ∀ h' tk' dx, (∀ b o, b ≠ x → hp.get? b = some o → h'.get? b = some o) → hp.objs.size ≤ dx → dx ≠ x → h'.get? x = some { cls := .ref C, dict := some dx, data := .fields fv } →
      h'.Ns1 dx (fun y => if y = name then some v else none) → R (.ok (.ret .none)) ⟨h', g, d, tk', os⟩) :
    codeAny (model prog w) A (.call (.builtin "object.__setattr__") ⟨[.ref x, .str name tk, v], []⟩) R ⟨hp, g, d, t, os⟩ := by
  have I : W.InstAt hp x { cls := .ref C, data := .fields fv } C none := ⟨hx, rfl, rfl, trivial⟩
  have hcls : W.Looks (model prog w) hp (classData C) cd := W.looks_clsIn X hcd
  have hxs : x ≠ hp.objs.size := Nat.ne_of_lt (Heap.lt_size hx)
  refine osa_line X I hcd hm ha ?_
  obtain ⟨nm, bs, mro, ns, qn, hd, sn, sb, ab, col, del⟩ := cd
  dsimp only at hh
  subst hh
  unfold storeInOwnDict ownDictForStores
  repeat (first | with_reducible refine store_in_new ?_ ?_ | with_reducible refine wpAny_loadPart_at hx ?_ | with_reducible refine hcls.at ?_ | wp_step)
  · exact ⟨_, #[], _, (Heap.get?_update_ne _ _ _ _ hxs.symm).trans (Heap.get?_push_at rfl rfl), rfl, fun e he => absurd he (by simp), fun _ => rfl⟩
  · intro h' tk' hn' hs
    have hx1 : (hp.push { cls := .type "dict", data := .dict #[] }).get? x = some { cls := .ref C, data := .fields fv } := Heap.get?_push_of_some _ hx
    exact hq h' tk' hp.objs.size (fun b o hb ho => (hs.2 b (Nat.ne_of_lt (Heap.lt_size ho))).trans ((Heap.get?_update_ne _ _ _ _ hb).trans (Heap.get?_push_of_some _ ho))) (Nat.le_refl _) hxs.symm
      ((hs.2 x hxs).trans (Heap.get?_update_self _ hx1 rfl)) hn'
end
end DL

namespace DL
variable [Tab0]
open PySem PySem.Spec PyProof.Rows L2
section
variable {X : Cx} {pins : List (Addr × Obj)} {σ : St} {H : Hp} {s : Shared} {a C : Addr} {f : Str} {y : V} {u : Value} {Q : Unit → Shared → Prop} {E : Value → Shared → Prop} {A : Around}
/-- self.f = y, the first one -/
theorem ostE (T : OexE X.K C) (I : Inv X pins σ H s) (e : H a = some (exo a C none)) (hno : PySem.W.findIn X.K (.ref C) f = some none) (ry : RelV y u)
    (h : ∀ dx s', H dx = none → dx ≠ a → Inv X pins σ (upd (upd H dx (exd dx [(f, y)])) a (exo a C (some dx))) s' → Q () s') : wpAny (model X.prog X.w) A (setAttr (.ref a) f u) Q E s := by
  obtain ⟨nm, q, N, bs, cs, sn, sub, ab, col, dd, k0, k1, k2, k3, k5, hC⟩ := T.cls
  have hcl : PySem.W.clsIn X.K C = some { name := nm, bases := bs, mro := lineE (C :: cs), ns := N, qualname := q, hasDict := true, slotNames := sn, subclasses := sub, abstract := ab, collection := col, hasDel := false } := by
    unfold PySem.W.clsIn
    rw [hC] <;> rfl
  obtain ⟨t1, ho⟩ := exo_at I.hok e
  obtain ⟨hp, g, d, t, os⟩ := s
  refine PySem.W.set_plain I.kIn (od := none) ⟨ho, rfl, rfl, trivial⟩ T.sa ?_
  refine osa_first I.kIn ho hcl rfl rfl hno fun h' tk' dx k dn dne hx hn => ?_
  have fr : H dx = none := I.hok.fresh dn
  have old : ∀ {b : Addr} {o : Obj}, hp.get? b = some o → b ≠ dx := fun {b o} z => Nat.ne_of_lt (Nat.lt_of_lt_of_le (Heap.lt_size z) dn)
  have out : ∀ {b : Addr}, H b = none → b ≠ a := fun {b} n z => by
    rw [z, e] at n
    cases n
  have same : ∀ {b : Addr} {o : HO}, H b = some o → (∀ c, o ≠ exo a C c) → upd (upd H dx (exd dx [(f, y)])) a (exo a C (some dx)) b = some o := fun {b o} z n => by
    rw [upd_ne (fun q => by rw [q, e] at z; exact n none (Option.some.inj z).symm), upd_ne (ne_of_none z fr)]
    exact z
  have U : Un X.fs [] H (upd (upd H dx (exd dx [(f, y)])) a (exo a C (some dx))) hp h' :=
    ⟨fun b o z n _ _ => k b o (out n) z, fun b o z n _ _ => ⟨o.slots, k b o (out n) z⟩, fun b o z n _ => by rw [upd_ne (out n), upd_ne (old z)]; exact n,
     fun b o z _ => if hb : b = a then ⟨_, hb ▸ hx⟩ else ⟨o, k b o hb z⟩,
     fun b xs z => same z fun c q => exo_tup q.symm, fun b o v z => same z fun c q => exo_frz q.symm, fun b ps z => ⟨#[], by rw [Array.append_empty]; exact same z fun c q => exo_tbl q.symm⟩⟩
  refine h dx _ fr dne (I.un (t' := tk') U fun b o z => ?_)
  by_cases hb : b = a
  · subst hb
    rw [upd_same] at z
    cases z
    exact exo_ok hx
  rw [upd_ne hb] at z
  by_cases hd : b = dx
  · subst hd
    rw [upd_same] at z
    cases z
    exact exd_ok hn (relO_put (fs := []) ry fun _ => True.intro)
  rw [upd_ne hd] at z
  refine (I.hok b o z).stay (fun c v hc q => k c v ?_ q) (fun c hc => same hc fun d q => exo_own q.symm) fun c xs hc => same hc fun d q => exo_tup q.symm
  rcases hc with rfl | hc
  · exact hb
  · exact at_ne e hc exo_own
/-- the reading of self.f = e in such an __init__ -/
def tOstE (K : PySem.W.Frag) (f : Str) (to te : TE) : TS := fun D σ H => te σ H fun y H1 => to σ H1 fun x H2 => ∃ a C : Addr, x = .ref a ∧ OexE K C ∧ PySem.W.findIn K (.ref C) f = some none ∧
  H2 a = some (exo a C none) ∧ ∀ dx, H2 dx = none → dx ≠ a → D.nx σ (upd (upd H2 dx (exd dx [(f, y)])) a (exo a C (some dx)))
theorem ps_ostE {o e : Expr} {to te : TE} {p' pos : Pos} (ho : PE X o to) (he : PE X e te) (hs : swapsWith e (some (.Attribute o f p')) pos.line X.env = pure false := by rfl) : PS X (.Assign [.Attribute o f p'] e pos) (tOstE X.K f to te) := by
  refine ⟨fun pins s σ H D I h => ?_⟩
  refine plainObj_wpAny_Assign_Attribute (thn (he.run pins s σ H _ I h) fun v s1 ⟨y, H1, I1, r1, q1⟩ => thn (ho.run pins s1 σ H1 _ I1 q1) fun u s2 ⟨x, H2, I2, r2, a, C, ex, T, hno, ea, q⟩ => ?_) hs
  subst ex
  obtain rfl : u = Value.ref a := r2
  exact ostE T I2 ea hno r1 fun dx s' n ne J => ⟨σ, _, J, q dx n ne⟩
end
end DL
end

section
set_option Elab.async false
set_option linter.all false
set_option maxRecDepth 100000
set_option maxHeartbeats 4000000
set_option autoImplicit false
namespace DL
variable [Tab0]
open PySem PySem.Spec PyProof.Rows L2
/-- what an __init__(self, x): self.f = x does -/
def initSp (C : Addr) (f : Str) : Sp := fun vs H Q _ => ∃ (a : Addr) (v : V), vs = [.ref a, v] ∧ H a = some (exo a C none) ∧ ∀ dx, H dx = none → dx ≠ a → Q .non (upd (upd H dx (exd dx [(f, v)])) a (exo a C (some dx)))
/-- C(e) -/
def tMkE (C : Addr) (f : Str) (ta : TA) : St → Hp → XK → Prop := fun σ H Q => ta σ H fun vs H1 => ∃ v, vs = [v] ∧ ∀ a d, H1 a = none → H1 d = none → d ≠ a → Q (.ref C) (some d) (upd H1 d (.xd [(f, v)]))
theorem upd_del {H : Hp} {a d : Addr} {o1 o2 u w : HO} (ha : H a = none) (hne : d ≠ a) : upd (del (upd (upd (upd H a o1) d u) a o2) a) d w = upd H d w := by
  funext b
  by_cases hd : b = d
  · rw [hd, upd_same, upd_same]
  rw [upd_ne hd, upd_ne hd]
  by_cases hb : b = a
  · rw [hb, del_same, ha]
  rw [del_ne hb, upd_ne hb, upd_ne hd, upd_ne hb]
theorem tc_noguard (a : Args) : (Code.builtin "type.__call__" a).guards = [] := by
  have h : (Code.builtin "type.__call__" a).isGuard = guardIds.contains "type.__call__" := rfl
  unfold Code.guards
  rw [h, if_neg (by decide +kernel)]
section
variable {X : Cx} {W : WX} {x : Str} {C fI : Addr} {k : Nat} {fd : FuncData} {ps : List Str} {f : Str} {e : Expr} {es : List Expr} {ta : TA} {p pos : Pos}
theorem pmkE (T : OexE X.K C) (iC : PySem.W.findIn X.K (.ref C) "__init__" = some (some (.ref fI))) (tI : PySem.W.typeIn X.K (.ref fI) = some (.type "function"))
    (F1 : FnG X.prog X.w X.K X.mg X.base k fI fd ps (initSp C f)) (gA : X.A.guards = some []) (hr : Room (k + 1) X.A) (hb : Binds X.K fd ps []) (tk : Takes X W) (hg : Gl X x) (hm : X.mg x = some (.ref C)) (ha : PA X (e :: es) ta)
    (hdb : (x == ("__debug__" : Str)) = false := by decide) (he : starEach (e :: es) X.env = (false, eval e X.env) :: starEach es X.env := by rfl) (hpl : (backTo pos (starEach es X.env)).any (·.1) = false := by rfl) :
    PMk X (.Call (.Name x p) (e :: es) [] pos) (tMkE C f ta) := by
  intro pins s σ H Q I h
  obtain ⟨nm, q, N, bs, cs, sn, sub, ab, col, dd, k0, k1, k2, k3, k5, hC⟩ := T.cls
  refine wpAny_Call_Name_kw (ld_glob I hg hm ?_ hdb)
  refine PySem.W.callWith_K (h₀ := X.base) I.ok.mod.kin T.kC (thn (ha.run pos pins s σ H _ I h) fun us s1 ⟨vs, H1, I1, r1, v, ev, q1⟩ => ⟨I1.kIn, ?_⟩) he hpl
  show wpAny _ _ (call (.ref C) us) _ _ _
  subst ev
  obtain ⟨hp, g, dr, tk0, os⟩ := s1
  have hsz : hp.objs.size ≤ hp.objs.size + 1 := Nat.le_succ _
  have hn : H1 (hp.objs.size + 1) = none := I1.hok.fresh hsz
  have kk : ∀ b o, hp.get? b = some o → ((hp.push (PySem.W.kdv_tup us)).push (PySem.HandSPX.excO C hp.objs.size)).get? b = some o := fun b o z => Heap.get?_push_of_some _ (Heap.get?_push_of_some _ z)
  have hget : ((hp.push (PySem.W.kdv_tup us)).push (PySem.HandSPX.excO C hp.objs.size)).get? (hp.objs.size + 1) = some (PySem.HandSPX.excO C hp.objs.size) := by heap_get
  have I2 : Inv X pins σ (upd H1 (hp.objs.size + 1) (exo (hp.objs.size + 1) C none)) ⟨(hp.push (PySem.W.kdv_tup us)).push (PySem.HandSPX.excO C hp.objs.size), g, dr, tk0, os⟩ :=
    I1.laid (t' := tk0) (a := hp.objs.size + 1) (o := exo (hp.objs.size + 1) C none) (h' := (hp.push (PySem.W.kdv_tup us)).push (PySem.HandSPX.excO C hp.objs.size)) kk hsz (exo_ok hget)
  have r2 : Vals [V.ref (hp.objs.size + 1), v] (Value.ref (hp.objs.size + 1) :: us) := .cons rfl r1
  have hq : initSp C f [V.ref (hp.objs.size + 1), v] (upd H1 (hp.objs.size + 1) (exo (hp.objs.size + 1) C none))
      (fun w H2 => w = .non ∧ ∃ d : Addr, d ≠ hp.objs.size + 1 ∧ H1 d = none ∧ H2 = upd (upd (upd H1 (hp.objs.size + 1) (exo (hp.objs.size + 1) C none)) d (exd d [(f, v)])) (hp.objs.size + 1) (exo (hp.objs.size + 1) C (some d))) (fun _ _ _ => False) := by
    refine ⟨_, v, rfl, upd_same, fun d hd hne => ⟨rfl, d, hne, ?_, rfl⟩⟩
    rwa [upd_ne hne] at hd
  have hl : (Value.ref (hp.objs.size + 1) :: us ++ []).length = ps.length := by
    rw [List.append_nil, ← F1.len _ _ _ _ hq]
    exact r2.length.symm
  have hus : us.length ≤ sizeLine := by
    have := r1.length
    rw [← this, sizeLine_eq]
    exact Nat.le_add_left 1 16777215
  refine wpAny_call (PySem.HandSPX.call_own F.excBase_Exception (fun Y => lineE_has Y cs) (I1.kIn _ _ hC) (PySem.W.looks_findIn I1.kIn iC) (fun self => PySem.W.bind_fn I1.kIn self tI) hus
    (codeAny_mono (F1.run _ (by simp only [Around.under]; rw [gA, show (Code.builtin "type.__call__" ⟨Value.ref C :: us, []⟩).guards = [] from tc_noguard _]; rfl) (hr.make C us []) X.stack _ _ (I2.env0.make C us []) ⟨Value.ref (hp.objs.size + 1) :: us, []⟩ (Value.ref (hp.objs.size + 1) :: us) _
      (by have := hb _ (Value.ref (hp.objs.size + 1) :: us) I2.kIn hl; rwa [List.append_nil] at this) r2 _ (fun _ _ _ => False) hq) fun r s' hq' => ?_))
  cases r with
  | error er => exact passAt (W := fun _ _ _ _ => False) (tk.imp fun _ _ _ _ z => z.elim) σ pins _ _ er s' I2 hq'
  | ok fl =>
    cases fl with
    | ret u =>
      obtain ⟨w, H2, os2, bare2, un2, hok2, rv, ev, d, hne, hd1, eH⟩ := hq'
      subst ev
      obtain ⟨h2, g2, d2, t2, os'⟩ := s'
      subst eH
      refine ⟨rv, mk_end (raises_own T.exC T.tyC) I1 hsz kk un2 hok2 os2 bare2 upd_same (by rw [upd_ne hne, upd_same]) hd1 ?_⟩
      rw [upd_del hn hne]
      exact q1 _ d hn hd1 hne
    | next => exact False.elim hq'
    | brk => exact False.elim hq'
    | cont => exact False.elim hq'
end
end DL
end

section
set_option Elab.async false
set_option linter.all false
set_option maxRecDepth 100000
set_option maxHeartbeats 4000000
set_option autoImplicit false
namespace DL
variable [Tab0]
open PySem PySem.Spec PyProof.Rows L2
/-! ### raise C(e), C an own exception whose __init__ keeps its argument as f -/
structure ExE (P : Program) (w : World) (K : PySem.W.Frag) (mg : Str → Option Value) (base : Heap) (k : Nat) (x : Str) (C : Addr) (f : Str) : Prop where
  ex : ∃ (fI : Addr) (fd : FuncData) (ps : List Str), OexE K C ∧ PySem.W.findIn K (.ref C) "__init__" = some (some (.ref fI)) ∧ PySem.W.typeIn K (.ref fI) = some (.type "function") ∧
    FnG P w K mg base k fI fd ps (initSp C f) ∧ Binds K fd ps []
  gm : mg x = some (.ref C)
def wRaiseE (C : Addr) (f : Str) (wa : WA) : WS := fun E ρ => wa ρ (fun dvs ρ' => match dvs with
  | [dv] => E.xr ⟨C, some [(f, dv)]⟩ ρ'
  | _ => False) E.xr
theorem pds_raiseE {T : Sta} {x f : Str} {C : Addr} {k : Nat} {e : Expr} {wa : WA} {p pos pos' : Pos} (M : ExE T.P T.w T.K T.mg T.base k x C f) (hk : k + 1 ≤ T.k) (ha : PDA T [e] wa) (gl : T.sc.names.lookup x = some .globalImplicit)
    (hdb : (x == ("__debug__" : Str)) = false := by decide) (he : ∀ env, starEach [e] env = (false, eval e env) :: starEach [] env := by intro _; rfl) :
    PDS T (.Raise (some (.Call (.Name x p) [e] [] pos)) none pos') (wRaiseE C f wa) := by
  obtain ⟨fI, fd, ps, h1, h2, h3, h4, h5⟩ := M.ex
  obtain ⟨t, ht, d⟩ := ha
  refine ⟨fun W => fun _ σ H => tMkE C f (t W) σ H fun cls d H' => W cls d σ H', fun W X g tk => ?_, fun ρ E h W σ F G H as ok acc D l => ?_⟩
  · exact ps_raise g.calm tk (pmkE (W := W) (k := k) (fI := fI) (fd := fd) (ps := ps) (by rw [g.K]; exact h1) (by rw [g.K]; exact h2) (by rw [g.K]; exact h3) (by rw [g.P, g.w, g.K, g.mg, g.base]; exact h4) g.gds (g.room.mono hk) (by rw [g.K]; exact h5) tk
      (by show X.env.scope.names.lookup _ = _; rw [g.sc]; exact gl) (by rw [g.mg]; exact M.gm) (ht W X g tk) hdb (he _) rfl)
  · refine d _ _ _ h W σ F G H as ok (acc.at σ) _ fun dvs ρ' vs G' H' as' q o n r => ?_
    match dvs, q, r with
    | [dv], q, .cons rv .nil =>
      refine ⟨_, rfl, fun a b ha hb hne => ?_⟩
      refine (acc.next n) ⟨C, some [(f, dv)]⟩ ρ' σ (some b) _ _ _ q (o.new hb) (o.nxt hb) ⟨b, _, rfl, upd_same, rfl, ?_⟩
      exact .cons (rv.mono (o.nxt hb)) .nil
/-- an __init__(self, x): self.f = x keeps its promise -/
theorem init_fn {P : Program} {w : World} {K : PySem.W.Frag} {mg : Str → Option Value} {base : Heap} {k : Nat} {qual x f : Str} {st : Stmt} {C fI : Addr} {fd : FuncData} {p1 p2 p3 p4 : Pos} (F : Fun K "__init__" qual st fI fd)
    (S : FnScope ["self", x] ["self", x] (defScope st)) (hb : defBody st = [.Assign [.Attribute (.Name "self" p1) f p2] (.Name x p3) p4]) (T : OexE K C) (hno : PySem.W.findIn K (.ref C) f = some none)
    (v0 : Vis (defScope st) "self") (v1 : Vis (defScope st) x) (hd : (x == ("__debug__" : Str)) = false := by decide) (hcd : (x == ("__classdict__" : Str)) = false := by decide)
    (hs : ∀ env : Env, env.scope = defScope st → swapsWith (.Name x p3) (some (.Attribute (.Name "self" p1) f p2)) p4.line env = pure false := by intro _ _; rfl) : FnG P w K mg base (k + 1) fI fd ["self", x] (initSp C f) := by
  refine fng_mk F S (fun vs H Q E h => ?_) (fun cdv A outer s H vs Q E gA hr h => ?_)
  · obtain ⟨a, v, rfl, _⟩ := h
    rfl
  · obtain ⟨a, v, rfl, ha, q⟩ := h
    rw [hb]
    refine ⟨_, pss_one (ps_ostE (pe_var (i := 0) rfl v0 (by decide) (by decide)) (pe_var (i := 1) rfl v1 hd hcd) (hs _ rfl)), ?_⟩
    exact ⟨v, rfl, .ref a, rfl, a, C, rfl, T, hno, ha, q⟩
end DL
end

section
set_option Elab.async false
set_option linter.all false
set_option maxRecDepth 100000
set_option maxHeartbeats 1000000
set_option autoImplicit false
/-! ## Programs as functions of data: a state monad over the level's store, and what a reading asks of it -/
namespace FL
open PySem PySem.Spec PyProof.Rows L2 DL
structure XV where
  cls : Str
  fs : Option (List (Str × PyData))
inductive R (α : Type) where
  | ok (a : α) (ρ : S)
  | exc (x : XV) (ρ : S)
  | bad
abbrev M (α : Type) := S → R α
/-- what a def hands back: data, an error, or nothing that is spoken of -/
inductive RV (α : Type) where
  | ok (a : α)
  | exc (x : XV)
  | bad
def mret {α : Type} (a : α) : M α := fun ρ => .ok a ρ
def mbad {α : Type} : M α := fun _ => .bad
def mbind {α β : Type} (m : M α) (f : α → M β) : M β := fun ρ => match m ρ with
  | .ok a ρ' => f a ρ'
  | .exc x ρ' => .exc x ρ'
  | .bad => .bad
def RV.bind {α β : Type} (m : RV α) (f : α → RV β) : RV β := match m with
  | .ok a => f a
  | .exc x => .exc x
  | .bad => .bad
def toXD (cl : Str → Addr) (x : XV) : XD := ⟨cl x.cls, x.fs.map fun l => l.map fun p => (p.1, .d p.2)⟩
inductive Flow where
  | nx
  | rt (v : DV)
  | bk
  | ct
section
variable (cl : Str → Addr)
def wpM {α : Type} (m : M α) (ρ : S) (Q : α → S → Prop) (X : QX) : Prop := match m ρ with
  | .ok a ρ' => Q a ρ'
  | .exc x ρ' => X (toXD cl x) ρ'
  | .bad => False
def wpS (m : M Flow) (E : DEnds) (ρ : S) : Prop := match m ρ with
  | .ok .nx ρ' => E.nx ρ'
  | .ok (.rt v) ρ' => E.rt v ρ'
  | .ok .bk ρ' => E.bk ρ'
  | .ok .ct ρ' => E.ct ρ'
  | .exc x ρ' => E.xr (toXD cl x) ρ'
  | .bad => False
def ImE (m : M DV) (w : WE) : Prop := ∀ ρ Q X, wpM cl m ρ Q X → w ρ Q X
def ImT (m : M Bool) (w : WT) : Prop := ∀ ρ Q X, wpM cl m ρ Q X → w ρ Q X
def ImA (m : M (List DV)) (w : WA) : Prop := ∀ ρ Q X, wpM cl m ρ Q X → w ρ Q X
def ImO (m : M (Option Int)) (w : WO) : Prop := ∀ ρ Q X, wpM cl m ρ Q X → w ρ Q X
def ImI (m : M (List PyData)) (w : WI) : Prop := ∀ ρ Q X, wpM cl m ρ Q X → w ρ Q X
def ImG (g : DV → M Unit) (w : WG) : Prop := ∀ dv ρ Q, wpM cl (g dv) ρ (fun _ ρ' => Q ρ') (fun _ _ => False) → w dv ρ Q
def ImGs (g : List PyData → M Unit) (w : WGs) : Prop := ∀ ds ρ Q, wpM cl (g ds) ρ (fun _ ρ' => Q ρ') (fun _ _ => False) → w ds ρ Q
def ImS (m : M Flow) (w : WS) : Prop := ∀ E ρ, wpS cl m E ρ → w E ρ
/-- an operation of values -/
def ImR (f : DV → DV → M DV) (R : DV → DV → S → QD → Prop) : Prop := ∀ x y ρ Q X, wpM cl (f x y) ρ Q X → R x y ρ Q
def ImU (f : DV → M DV) (R : DV → S → QD → Prop) : Prop := ∀ x ρ Q X, wpM cl (f x) ρ Q X → R x ρ Q
def ImC (f : List DV → M DV) (R : List DV → S → QD → Prop) : Prop := ∀ x ρ Q X, wpM cl (f x) ρ Q X → R x ρ Q
end
section
variable {cl : Str → Addr} {α β : Type}
theorem wpM_bind {m : M α} {f : α → M β} {ρ : S} {Q : β → S → Prop} {X : QX} : wpM cl (mbind m f) ρ Q X = wpM cl m ρ (fun a ρ' => wpM cl (f a) ρ' Q X) X := by
  unfold wpM mbind
  cases m ρ <;> rfl
theorem wpM_mono {m : M α} {ρ : S} {Q Q' : α → S → Prop} {X : QX} (h : wpM cl m ρ Q X) (k : ∀ a ρ', Q a ρ' → Q' a ρ') : wpM cl m ρ Q' X := by
  unfold wpM at *
  cases e : m ρ <;> rw [e] at h <;> first | exact k _ _ h | exact h
theorem wpM_monoX {m : M α} {ρ : S} {Q Q' : α → S → Prop} {X X' : QX} (h : wpM cl m ρ Q X) (k : ∀ a ρ', Q a ρ' → Q' a ρ') (kx : ∀ a ρ', X a ρ' → X' a ρ') : wpM cl m ρ Q' X' := by
  unfold wpM at *
  cases e : m ρ <;> rw [e] at h <;> first | exact k _ _ h | exact kx _ _ h | exact h
theorem wpS_mono {m : M Flow} {ρ : S} {E E' : DEnds} (h : wpS cl m E ρ) (k1 : ∀ ρ', E.nx ρ' → E'.nx ρ') (k2 : ∀ v ρ', E.rt v ρ' → E'.rt v ρ') (k3 : ∀ ρ', E.bk ρ' → E'.bk ρ') (k4 : ∀ ρ', E.ct ρ' → E'.ct ρ') (k5 : ∀ x ρ', E.xr x ρ' → E'.xr x ρ') : wpS cl m E' ρ := by
  unfold wpS at *
  cases e : m ρ with
  | ok a ρ' =>
    rw [e] at h
    cases a with
    | nx => exact k1 _ h
    | rt v => exact k2 _ _ h
    | bk => exact k3 _ h
    | ct => exact k4 _ h
  | exc x ρ' => rw [e] at h; exact k5 _ _ h
  | bad => rw [e] at h; exact h
/-! ### expressions -/
def mVar (i : Nat) : M DV := fun ρ => match slot ρ.sl i with
  | some v => .ok v ρ
  | none => .bad
theorem im_var {i : Nat} : ImE cl (mVar i) (wVar i) := by
  intro ρ Q X h
  unfold wpM mVar at h
  unfold wVar
  cases e : slot ρ.sl i <;> rw [e] at h <;> exact h
def mC (x : PyData) : M DV := mret (.d x)
theorem im_c {x : PyData} : ImE cl (mC x) (wC x) := fun _ _ _ h => h
def mOp (f : DV → DV → M DV) (a b : M DV) : M DV := mbind a fun x => mbind b fun y => f x y
variable {ma mb mc : M DV} {wa wb wc : WE} {mt mu : M Bool} {wt wu : WT} {m : M (List DV)} {w : WA}
theorem im_op {f : DV → DV → M DV} {R : DV → DV → S → QD → Prop} (hf : ImR cl f R) (ha : ImE cl ma wa) (hb : ImE cl mb wb) : ImE cl (mOp f ma mb) (wOp R wa wb) := by
  intro ρ Q X h
  unfold mOp at h
  rw [wpM_bind] at h
  refine ha _ _ _ (wpM_mono h fun x ρ1 h1 => ?_)
  rw [wpM_bind] at h1
  exact hb _ _ _ (wpM_mono h1 fun y ρ2 h2 => hf _ _ _ _ _ h2)
def mUn (f : DV → M DV) (a : M DV) : M DV := mbind a f
theorem im_un {f : DV → M DV} {R : DV → S → QD → Prop} (hf : ImU cl f R) (ha : ImE cl ma wa) : ImE cl (mUn f ma) (wUn R wa) := by
  intro ρ Q X h
  unfold mUn at h
  rw [wpM_bind] at h
  exact ha _ _ _ (wpM_mono h fun x ρ1 h1 => hf _ _ _ _ h1)
def mCa (f : List DV → M DV) (m : M (List DV)) : M DV := mbind m f
theorem im_ca {f : List DV → M DV} {R : List DV → S → QD → Prop} (hf : ImC cl f R) (ha : ImA cl m w) : ImE cl (mCa f m) (wCa R w) := by
  intro ρ Q X h
  unfold mCa at h
  rw [wpM_bind] at h
  exact ha _ _ _ (wpM_mono h fun x ρ1 h1 => hf _ _ _ _ h1)
def mNil : M (List DV) := mret []
theorem im_nil : ImA cl mNil wNil := fun _ _ _ h => h
def mCons (a : M DV) (m : M (List DV)) : M (List DV) := mbind a fun x => mbind m fun xs => mret (x :: xs)
theorem im_cons (ha : ImE cl ma wa) (hm : ImA cl m w) : ImA cl (mCons ma m) (wCons wa w) := by
  intro ρ Q X h
  unfold mCons at h
  rw [wpM_bind] at h
  refine ha _ _ _ (wpM_mono h fun x ρ1 h1 => ?_)
  rw [wpM_bind] at h1
  exact hm _ _ _ (wpM_mono h1 fun y ρ2 h2 => h2)
def mAnd (a b : M DV) : M DV := mbind a fun x => match x with
  | .d (.bool true) => b
  | .d (.bool false) => mret (.d (.bool false))
  | _ => mbad
theorem im_and (ha : ImE cl ma wa) (hb : ImE cl mb wb) : ImE cl (mAnd ma mb) (wAnd wa wb) := by
  intro ρ Q X h
  unfold mAnd at h
  rw [wpM_bind] at h
  refine ha _ _ _ (wpM_mono h fun x ρ1 h1 => ?_)
  match x, h1 with
  | .d (.bool true), h1 => exact hb _ _ _ h1
  | .d (.bool false), h1 => exact h1
  | .d .none, h1 | .d (.int _), h1 | .d (.str _), h1 | .d (.list _), h1 | .d (.tuple _), h1 | .d (.dict _), h1 | .o _, h1 => exact h1
def mOr (a b : M DV) : M DV := mbind a fun x => match x with
  | .d (.bool true) => mret (.d (.bool true))
  | .d (.bool false) => b
  | _ => mbad
theorem im_or (ha : ImE cl ma wa) (hb : ImE cl mb wb) : ImE cl (mOr ma mb) (wOr wa wb) := by
  intro ρ Q X h
  unfold mOr at h
  rw [wpM_bind] at h
  refine ha _ _ _ (wpM_mono h fun x ρ1 h1 => ?_)
  match x, h1 with
  | .d (.bool false), h1 => exact hb _ _ _ h1
  | .d (.bool true), h1 => exact h1
  | .d .none, h1 | .d (.int _), h1 | .d (.str _), h1 | .d (.list _), h1 | .d (.tuple _), h1 | .d (.dict _), h1 | .o _, h1 => exact h1
def mAndT (a b : M Bool) : M Bool := mbind a fun x => match x with
  | true => b
  | false => mret false
def mOrT (a b : M Bool) : M Bool := mbind a fun x => match x with
  | true => mret true
  | false => b
def mNotT (a : M Bool) : M Bool := mbind a fun x => mret (!x)
theorem im_andT (ha : ImT cl mt wt) (hb : ImT cl mu wu) : ImT cl (mAndT mt mu) (wAndT wt wu) := by
  intro ρ Q X h
  unfold mAndT at h
  rw [wpM_bind] at h
  refine ha _ _ _ (wpM_mono h fun x ρ1 h1 => ?_)
  cases x with
  | true => exact hb _ _ _ h1
  | false => exact h1
theorem im_orT (ha : ImT cl mt wt) (hb : ImT cl mu wu) : ImT cl (mOrT mt mu) (wOrT wt wu) := by
  intro ρ Q X h
  unfold mOrT at h
  rw [wpM_bind] at h
  refine ha _ _ _ (wpM_mono h fun x ρ1 h1 => ?_)
  cases x with
  | false => exact hb _ _ _ h1
  | true => exact h1
theorem im_notT (ha : ImT cl mt wt) : ImT cl (mNotT mt) (wNotT wt) := by
  intro ρ Q X h
  unfold mNotT at h
  rw [wpM_bind] at h
  exact ha _ _ _ (wpM_mono h fun x ρ1 h1 => h1)
/-- a value as a test: True or False -/
def mB (a : M DV) : M Bool := mbind a fun x => match x with
  | .d (.bool b) => mret b
  | _ => mbad
theorem im_b (ha : ImE cl ma wa) : ImT cl (mB ma) (wB wa) := by
  intro ρ Q X h
  unfold mB at h
  rw [wpM_bind] at h
  refine ha _ _ _ (wpM_mono h fun x ρ1 h1 => ?_)
  match x, h1 with
  | .d (.bool _), h1 => exact h1
  | .d .none, h1 | .d (.int _), h1 | .d (.str _), h1 | .d (.list _), h1 | .d (.tuple _), h1 | .d (.dict _), h1 | .o _, h1 => exact h1
def mIfE (t : M Bool) (a b : M DV) : M DV := mbind t fun x => match x with
  | true => a
  | false => b
theorem im_ifE (ht : ImT cl mt wt) (ha : ImE cl ma wa) (hb : ImE cl mb wb) : ImE cl (mIfE mt ma mb) (wIfE wt wa wb) := by
  intro ρ Q X h
  unfold mIfE at h
  rw [wpM_bind] at h
  refine ht _ _ _ (wpM_mono h fun x ρ1 h1 => ?_)
  cases x with
  | true => exact ha _ _ _ h1
  | false => exact hb _ _ _ h1
/-- all are data -/
def mTup (m : M (List DV)) : M DV := mbind m fun xs => match allD xs with
  | some ds => if ds.length ≤ sizeLine then mret (.d (.tuple ds)) else mbad
  | none => mbad
theorem im_tup (h : ImA cl m w) : ImE cl (mTup m) (wTup w) := by
  intro ρ Q X h1
  unfold mTup at h1
  rw [wpM_bind] at h1
  refine h _ _ _ (wpM_mono h1 fun xs ρ1 h2 => ?_)
  cases e : allD xs with
  | none => rw [e] at h2; exact h2
  | some ds =>
    rw [e] at h2
    dsimp only at h2 ⊢
    by_cases hl : ds.length ≤ sizeLine
    · rw [if_pos hl] at h2
      exact ⟨hl, h2⟩
    · rw [if_neg hl] at h2
      exact h2.elim
def mLst (m : M (List DV)) : M DV := mbind m fun xs => if xs.length ≤ sizeLine then fun ρ1 => .ok (.o ρ1.ob.length) ⟨ρ1.sl, ρ1.ob ++ [.lst xs]⟩ else mbad
theorem im_lst (h : ImA cl m w) : ImE cl (mLst m) (wLst w) := by
  intro ρ Q X h1
  unfold mLst at h1
  rw [wpM_bind] at h1
  refine h _ _ _ (wpM_mono h1 fun xs ρ1 h2 => ?_)
  by_cases hl : xs.length ≤ sizeLine
  · rw [if_pos hl] at h2
    exact ⟨hl, h2⟩
  · rw [if_neg hl] at h2
    exact h2.elim
/-! ### ints -/
def oII (g : Int → Int → PyData) : DV → DV → M DV := fun x y => match x, y with
  | .d (.int i), .d (.int j) => mret (.d (g i j))
  | _, _ => mbad
theorem ir_II {g : Int → Int → PyData} : ImR cl (oII g) (dII0 g) := by
  intro x y ρ Q X h
  unfold oII at h
  unfold dII0
  split at h
  · exact h
  · exact h.elim
def oIIc (c : Int → Int → Prop) [∀ i j, Decidable (c i j)] (g : Int → Int → PyData) : DV → DV → M DV := fun x y => match x, y with
  | .d (.int i), .d (.int j) => if c i j then mret (.d (g i j)) else mbad
  | _, _ => mbad
theorem ir_IIc {c : Int → Int → Prop} [∀ i j, Decidable (c i j)] {g : Int → Int → PyData} : ImR cl (oIIc c g) (dII c g) := by
  intro x y ρ Q X h
  unfold oIIc at h
  unfold dII
  split at h
  · rename_i i j
    try dsimp only
    by_cases hc : c i j
    · rw [if_pos hc] at h
      exact ⟨hc, h⟩
    · rw [if_neg hc] at h
      exact h.elim
  · exact h.elim
instance : ∀ i j, Decidable (CMul i j) := fun i j => by unfold CMul; infer_instance
instance : ∀ i j, Decidable (CMulW i j) := fun i j => by unfold CMulW; infer_instance
instance : ∀ i j, Decidable (CDiv i j) := fun i j => by unfold CDiv; infer_instance
instance : ∀ i j, Decidable (CDivW i j) := fun i j => by unfold CDivW; infer_instance
instance : ∀ i j, Decidable (CPow i j) := fun i j => by unfold CPow; infer_instance
def CMod (_ j : Int) : Prop := 0 < j
instance : ∀ i j, Decidable (CMod i j) := fun i j => by unfold CMod; infer_instance
abbrev oAdd := oII gAdd
abbrev oSub := oII gSub
abbrev oMul := oIIc CMul gMul
abbrev oMulW := oIIc CMulW gMul
abbrev oMod := oIIc CMod gMod
abbrev oDiv := oIIc CDiv gDiv
abbrev oDivW := oIIc CDivW gDiv
abbrev oPow := oIIc CPow gPow
abbrev oLt := oII gLt
abbrev oLe := oII gLe
abbrev oGt := oII gGt
abbrev oGe := oII gGe
theorem ir_mod : ImR cl oMod (dII (fun _ j => 0 < j) gMod) := ir_IIc
def oNeg : DV → M DV := fun x => match x with
  | .d (.int i) => mret (.d (.int (-i)))
  | _ => mbad
theorem iu_neg : ImU cl oNeg dNeg := by
  intro x ρ Q X h
  unfold oNeg at h
  unfold dNeg
  split at h
  · exact h
  · exact h.elim
def oNot : DV → M DV := fun x => match x with
  | .d (.bool b) => mret (.d (.bool (!b)))
  | _ => mbad
theorem iu_not : ImU cl oNot dNot := by
  intro x ρ Q X h
  unfold oNot at h
  unfold dNot
  split at h
  · exact h
  · exact h.elim
/-! ### operations that may fail, told by Option -/
def oOp (r : DV → DV → S → Option (DV × S)) : DV → DV → M DV := fun x y ρ => match r x y ρ with
  | some p => .ok p.1 p.2
  | none => .bad
def uOp (r : DV → S → Option (DV × S)) : DV → M DV := fun x ρ => match r x ρ with
  | some p => .ok p.1 p.2
  | none => .bad
def cOp (r : List DV → S → Option (DV × S)) : List DV → M DV := fun x ρ => match r x ρ with
  | some p => .ok p.1 p.2
  | none => .bad
theorem ir_op {r : DV → DV → S → Option (DV × S)} {R : DV → DV → S → QD → Prop} (h : ∀ x y ρ z Q, r x y ρ = some z → Q z.1 z.2 → R x y ρ Q) : ImR cl (oOp r) R := by
  intro x y ρ Q X q
  unfold wpM oOp at q
  cases e : r x y ρ with
  | none => rw [e] at q; exact q.elim
  | some z => rw [e] at q; exact h x y ρ z Q e q
theorem iu_op {r : DV → S → Option (DV × S)} {R : DV → S → QD → Prop} (h : ∀ x ρ z Q, r x ρ = some z → Q z.1 z.2 → R x ρ Q) : ImU cl (uOp r) R := by
  intro x ρ Q X q
  unfold wpM uOp at q
  cases e : r x ρ with
  | none => rw [e] at q; exact q.elim
  | some z => rw [e] at q; exact h x ρ z Q e q
theorem ic_op {r : List DV → S → Option (DV × S)} {R : List DV → S → QD → Prop} (h : ∀ x ρ z Q, r x ρ = some z → Q z.1 z.2 → R x ρ Q) : ImC cl (cOp r) R := by
  intro x ρ Q X q
  unfold wpM cOp at q
  cases e : r x ρ with
  | none => rw [e] at q; exact q.elim
  | some z => rw [e] at q; exact h x ρ z Q e q
def ox (x : Option DV) (ρ : S) : Option (DV × S) := match x with
  | some z => some (z, ρ)
  | none => none
theorem ox_some {x : Option DV} {ρ : S} {z : DV × S} (h : ox x ρ = some z) : x = some z.1 ∧ z.2 = ρ := by
  cases x with
  | none => cases h
  | some y => cases h; exact ⟨rfl, rfl⟩
/-! ### places of sequences, slices -/
def rIxD : DV → DV → S → Option DV
  | .d (.tuple ds), .d (.int i), _ => (atI ds i).map .d
  | .d (.list ds), .d (.int i), _ => (atI ds i).map .d
  | .o k, .d (.int i), ρ => match obK ρ k with
    | .lst xs => atI xs i
    | _ => none
  | _, _, _ => none
def oIx : DV → DV → M DV := oOp fun x y ρ => ox (rIxD x y ρ) ρ
theorem ir_ix : ImR cl oIx dIx := ir_op fun x y ρ z Q e q => by
  obtain ⟨e1, e2⟩ := ox_some e
  rw [e2] at q
  unfold rIxD at e1
  unfold dIx
  split at e1
  · obtain ⟨u, e3, e4⟩ := Option.map_eq_some_iff.mp e1
    exact ⟨u, e3, e4 ▸ q⟩
  · obtain ⟨u, e3, e4⟩ := Option.map_eq_some_iff.mp e1
    exact ⟨u, e3, e4 ▸ q⟩
  · rename_i k i
    try dsimp only
    split at e1
    · rename_i xs e5
      try rw [e5]
      exact ⟨_, e1, q⟩
    · cases e1
  · cases e1
def mPart (a : M DV) : M (Option Int) := mbind a fun x => match x with
  | .d (.int i) => mret (some i)
  | _ => mbad
def mNoP : M (Option Int) := mret none
theorem im_noP : ImO cl mNoP wNoP := fun _ _ _ h => h
theorem im_part (ha : ImE cl ma wa) : ImO cl (mPart ma) (wPart wa) := by
  intro ρ Q X h
  unfold mPart at h
  rw [wpM_bind] at h
  refine ha _ _ _ (wpM_mono h fun x ρ1 h1 => ?_)
  split at h1
  · exact h1
  · exact h1.elim
def rSl (x : DV) (lo hi : Option Int) (ρ : S) : Option (DV × S) := match x with
  | .d (.tuple ds) => some (.d (.tuple (cutD ds lo hi)), ρ)
  | .d (.list ds) => some (.o ρ.ob.length, ⟨ρ.sl, ρ.ob ++ [.lst ((cutD ds lo hi).map .d)]⟩)
  | .o k => match obK ρ k with
    | .lst xs => some (.o ρ.ob.length, ⟨ρ.sl, ρ.ob ++ [.lst (cutD xs lo hi)]⟩)
    | _ => none
  | _ => none
def mSl (a : M DV) (ml mh : M (Option Int)) : M DV := mbind a fun x => mbind ml fun lo => mbind mh fun hi => uOp (fun x ρ => rSl x lo hi ρ) x
theorem im_sl {ml mh : M (Option Int)} {wl wh : WO} (ha : ImE cl ma wa) (hl : ImO cl ml wl) (hh : ImO cl mh wh) : ImE cl (mSl ma ml mh) (wSl wa wl wh) := by
  intro ρ Q X h
  unfold mSl at h
  rw [wpM_bind] at h
  refine ha _ _ _ (wpM_mono h fun x ρ1 h1 => ?_)
  rw [wpM_bind] at h1
  refine hl _ _ _ (wpM_mono h1 fun lo ρ2 h2 => ?_)
  rw [wpM_bind] at h2
  refine hh _ _ _ (wpM_mono h2 fun hi ρ3 h3 => ?_)
  unfold wpM uOp at h3
  unfold dSl
  dsimp only at h3
  cases e : rSl x lo hi ρ3 with
  | none => rw [e] at h3; exact h3.elim
  | some z =>
    rw [e] at h3
    unfold rSl at e
    clear h h1 h2
    split at e
    · cases e; exact h3
    · cases e; exact h3
    · try dsimp only
      split at e
      · rename_i e5
        try rw [e5]
        cases e
        exact h3
      · cases e
    · cases e
/-! ### comparisons in a chain -/
def mChain (f g : DV → DV → M DV) (a b c : M DV) : M DV := mbind a fun x => mbind b fun y => mbind (f x y) fun z => match z with
  | .d (.bool true) => mbind c fun u => g y u
  | .d (.bool false) => mret (.d (.bool false))
  | _ => mbad
theorem im_chain {f g : DV → DV → M DV} {R R' : DV → DV → S → QD → Prop} (hf : ImR cl f R) (hg : ImR cl g R') (ha : ImE cl ma wa) (hb : ImE cl mb wb) (hc : ImE cl mc wc) : ImE cl (mChain f g ma mb mc) (wChain R R' wa wb wc) := by
  intro ρ Q X h
  unfold mChain at h
  rw [wpM_bind] at h
  refine ha _ _ _ (wpM_mono h fun x ρ1 h1 => ?_)
  rw [wpM_bind] at h1
  refine hb _ _ _ (wpM_mono h1 fun y ρ2 h2 => ?_)
  rw [wpM_bind] at h2
  refine hf _ _ _ _ X (wpM_mono h2 fun z ρ3 h3 => ?_)
  split at h3
  · rw [wpM_bind] at h3
    exact hc _ _ _ (wpM_mono h3 fun u ρ4 h4 => hg _ _ _ _ _ h4)
  · exact h3
  · exact h3.elim
/-! ### the built-in ones -/
def rLen : List DV → S → Option (DV × S)
  | [x], ρ => ox ((seqOf ρ x).map fun l => .d (.int (l.length : Nat))) ρ
  | _, _ => none
def oLen := cOp rLen
theorem ic_len : ImC cl oLen dLen := ic_op fun x ρ z Q e q => by
  unfold rLen at e
  unfold dLen
  split at e
  · obtain ⟨e1, e2⟩ := ox_some e
    obtain ⟨l, e3, e4⟩ := Option.map_eq_some_iff.mp e1
    rw [e2, ← e4] at q
    exact ⟨l, e3, q⟩
  · cases e
def rList : List DV → S → Option (DV × S)
  | [x], ρ => match seqOf ρ x with
    | some l => some (.o ρ.ob.length, ⟨ρ.sl, ρ.ob ++ [.lst l]⟩)
    | none => none
  | _, _ => none
def oList := cOp rList
theorem ic_list : ImC cl oList dList := ic_op fun x ρ z Q e q => by
  unfold rList at e
  unfold dList
  split at e
  · split at e
    · rename_i l e1
      cases e
      exact ⟨l, e1, q⟩
    · cases e
  · cases e
def rTuple : List DV → S → Option (DV × S)
  | [.d (.tuple ds)], ρ => some (.d (.tuple ds), ρ)
  | [x], ρ => ox ((lstOf ρ x).map fun ds => .d (.tuple ds)) ρ
  | _, _ => none
def oTuple := cOp rTuple
theorem ic_tuple : ImC cl oTuple dTuple := ic_op fun x ρ z Q e q => by
  unfold rTuple at e
  unfold dTuple
  split at e
  · cases e; exact q
  · rename_i x hx
    obtain ⟨e1, e2⟩ := ox_some e
    obtain ⟨ds, e3, e4⟩ := Option.map_eq_some_iff.mp e1
    rw [e2, ← e4] at q
    split
    · rename_i ds' e5
      cases e5
      exact (hx _ rfl).elim
    · rename_i e5
      cases e5
      exact ⟨ds, e3, q⟩
    · rename_i h1 h2
      exact (h2 _ rfl).elim
  · cases e
def rInt : List DV → S → Option (DV × S)
  | [.d (.int i)], ρ => some (.d (.int i), ρ)
  | [.d (.bool b)], ρ => some (.d (.int (if b then 1 else 0)), ρ)
  | _, _ => none
def oInt := cOp rInt
theorem ic_int : ImC cl oInt dInt := ic_op fun x ρ z Q e q => by
  unfold rInt at e
  unfold dInt
  split at e <;> cases e <;> exact q
def rMin : List DV → S → Option (DV × S)
  | [.d (.int i), .d (.int j)], ρ => some (.d (.int (if j < i then j else i)), ρ)
  | _, _ => none
def oMin := cOp rMin
theorem ic_min : ImC cl oMin dMin := ic_op fun x ρ z Q e q => by
  unfold rMin at e
  unfold dMin
  split at e <;> cases e <;> exact q
def rMax : List DV → S → Option (DV × S)
  | [.d (.int i), .d (.int j)], ρ => some (.d (.int (if j > i then j else i)), ρ)
  | _, _ => none
def oMax := cOp rMax
theorem ic_max : ImC cl oMax dMax := ic_op fun x ρ z Q e q => by
  unfold rMax at e
  unfold dMax
  split at e <;> cases e <;> exact q
def rBools (f : List Bool → Bool) : List DV → S → Option (DV × S)
  | [x], ρ => match lstOf ρ x with
    | some ds => match bools ds with
      | some bs => some (.d (.bool (f bs)), ρ)
      | none => none
    | none => none
  | _, _ => none
def oAll := cOp (rBools fun bs => bs.all id)
def oAny := cOp (rBools fun bs => bs.any id)
theorem ic_all : ImC cl oAll dAll := ic_op fun x ρ z Q e q => by
  unfold rBools at e
  unfold dAll
  split at e
  · split at e
    · rename_i ds e1
      split at e
      · rename_i bs e2
        cases e
        exact ⟨ds, bs, e1, e2, q⟩
      · cases e
    · cases e
  · cases e
theorem ic_any : ImC cl oAny dAny := ic_op fun x ρ z Q e q => by
  unfold rBools at e
  unfold dAny
  split at e
  · split at e
    · rename_i ds e1
      split at e
      · rename_i bs e2
        cases e
        exact ⟨ds, bs, e1, e2, q⟩
      · cases e
    · cases e
  · cases e
/-! ### == and != of data -/
def eqs (d : PyData) : Bool := !d.hasDict && SeqAt.shaped d
theorem eqs_iff {d : PyData} (h : eqs d = true) : Eqs d := by
  unfold eqs at h
  rw [Bool.and_eq_true] at h
  exact ⟨by simpa using h.1, h.2⟩
def rEq (neg : Bool) (x y : DV) (ρ : S) : Option (DV × S) := match datOf ρ x, datOf ρ y with
  | some d, some e => if eqs d && eqs e then some (.d (.bool (if neg then !PyData.eqv d e else PyData.eqv d e)), ρ) else none
  | _, _ => none
def oEq := oOp (rEq false)
def oNe := oOp (rEq true)
theorem rEq_of {neg : Bool} {x y : DV} {ρ : S} {z : DV × S} (h : rEq neg x y ρ = some z) : ∃ d e, datOf ρ x = some d ∧ datOf ρ y = some e ∧ Eqs d ∧ Eqs e ∧ z = (.d (.bool (if neg then !PyData.eqv d e else PyData.eqv d e)), ρ) := by
  unfold rEq at h
  split at h
  · rename_i d e h1 h2
    split at h
    · rename_i h3
      rw [Bool.and_eq_true] at h3
      cases h
      exact ⟨d, e, h1, h2, eqs_iff h3.1, eqs_iff h3.2, rfl⟩
    · cases h
  · cases h
theorem ir_eq : ImR cl oEq dEq := ir_op fun x y ρ z Q h q => by
  obtain ⟨d, e, h1, h2, h3, h4, rfl⟩ := rEq_of h
  exact ⟨d, e, h1, h2, h3, h4, q⟩
theorem ir_ne : ImR cl oNe dNe := ir_op fun x y ρ z Q h q => by
  obtain ⟨d, e, h1, h2, h3, h4, rfl⟩ := rEq_of h
  exact ⟨d, e, h1, h2, h3, h4, q⟩
def rIsN (neg : Bool) (x y : DV) (ρ : S) : Option (DV × S) := match x, y with
  | .d d, .d .none => some (.d (.bool (if neg then !isNn d else isNn d)), ρ)
  | _, _ => none
def oIs := oOp (rIsN false)
def oIsNot := oOp (rIsN true)
theorem ir_is : ImR cl oIs dIsN := ir_op fun x y ρ z Q h q => by
  unfold rIsN at h
  unfold dIsN
  split at h <;> cases h <;> exact q
theorem ir_isnot : ImR cl oIsNot dNotN := ir_op fun x y ρ z Q h q => by
  unfold rIsN at h
  unfold dNotN
  split at h <;> cases h <;> exact q
/-! ### < of data -/
def lts (d e : PyData) : Bool := PySem.W.alike d e && (!d.hasDict && (!e.hasDict && (!isNn d && decide (d.depth ≤ 60))))
theorem lts_iff {d e : PyData} (h : lts d e = true) : Lts d e := by
  unfold lts at h
  simp only [Bool.and_eq_true, Bool.not_eq_true', decide_eq_true_eq] at h
  exact ⟨h.1, h.2.1, h.2.2.1, h.2.2.2.1, h.2.2.2.2⟩
def rLtD (x y : DV) (ρ : S) : Option (DV × S) := match x, y with
  | .d d, .d e => if lts d e then some (.d (.bool (PySem.W.dataLt d e)), ρ) else none
  | _, _ => none
def oLtD := oOp rLtD
theorem ir_ltD : ImR cl oLtD dLtD := ir_op fun x y ρ z Q h q => by
  unfold rLtD at h
  unfold dLtD
  split at h
  · split at h
    · rename_i h3
      cases h
      exact ⟨lts_iff h3, q⟩
    · cases h
  · cases h
/-! ### repr -/
def shows (d : PyData) : Bool := d.showable && (!d.hasDict && (decide (d.shown.length ≤ sizeLine) && decide (d.depth ≤ 60)))
theorem shows_iff {d : PyData} (h : shows d = true) : Shows d := by
  unfold shows at h
  simp only [Bool.and_eq_true, Bool.not_eq_true', decide_eq_true_eq] at h
  exact ⟨h.1, h.2.1, h.2.2.1, h.2.2.2⟩
def rReprD : List DV → S → Option (DV × S)
  | [.d x], ρ => if shows x then some (.d (.str x.shown), ρ) else none
  | _, _ => none
def oRepr := cOp rReprD
theorem ic_repr : ImC cl oRepr dRepr := ic_op fun x ρ z Q e q => by
  unfold rReprD at e
  unfold dRepr
  split at e
  · split at e
    · rename_i h3
      cases e
      exact ⟨shows_iff h3, q⟩
    · cases e
  · cases e
/-! ### sorted -/
def sortsB (ds : List PyData) : Bool := !PyData.hasDictAll ds && (ds.all (fun d => ds.all fun d' => PySem.W.alike d d') && ((ds.all (fun d => match d with
  | .tuple (_ :: _) => true
  | _ => false) || ds.all (fun d => match d with
  | .none => false
  | .tuple _ => false
  | _ => true)) && ds.all fun d => decide (d.depth ≤ 60)))
theorem sorts_iff {ds : List PyData} (h : sortsB ds = true) : Sorts ds := by
  unfold sortsB at h
  simp only [Bool.and_eq_true, Bool.or_eq_true, Bool.not_eq_true', List.all_eq_true, decide_eq_true_eq] at h
  obtain ⟨h1, h2, h3, h4⟩ := h
  refine ⟨h1, h2, ?_, h4⟩
  rcases h3 with h3 | h3
  · refine .inl fun d hd => ?_
    have := h3 d hd
    split at this
    · exact ⟨_, _, rfl⟩
    · cases this
  · refine .inr fun d hd => ?_
    have := h3 d hd
    split at this
    · cases this
    · cases this
    · rename_i n1 n2
      exact ⟨fun e => n1 e, fun xs e => n2 xs e⟩
def rSortedD : List DV → S → Option (DV × S)
  | [x], ρ => match lstOf ρ x with
    | some ds => if sortsB ds then some (.o ρ.ob.length, ⟨ρ.sl, ρ.ob ++ [.lst ((srt ds).map .d)]⟩) else none
    | none => none
  | _, _ => none
def oSorted := cOp rSortedD
theorem ic_sorted : ImC cl oSorted dSorted := ic_op fun x ρ z Q e q => by
  unfold rSortedD at e
  unfold dSorted
  split at e
  · split at e
    · rename_i ds e1
      split at e
      · rename_i h3
        cases e
        exact ⟨ds, e1, sorts_iff h3, q⟩
      · cases e
    · cases e
  · cases e
/-! ### isinstance -/
def rIsi (u : String) (x : DV) (ρ : S) : Option (DV × S) := if tyN ρ x = "?" then none else match kitB (tyN ρ x) u with
  | some b => some (.d (.bool b), ρ)
  | none => none
def oIsi (u : String) := uOp (rIsi u)
theorem iu_isi {u : String} : ImU cl (oIsi u) (dIsi u) := iu_op fun x ρ z Q e q => by
  unfold rIsi at e
  unfold dIsi
  split at e
  · cases e
  · rename_i h1
    split at e
    · rename_i b h2
      cases e
      exact ⟨h1, b, h2, q⟩
    · cases e
/-! ### sums, ranges, repeats -/
def rSum : List DV → S → Option (DV × S)
  | [.d (.tuple ds)], ρ => match intsOf ds with
    | some ns => some (.d (.int ns.sum), ρ)
    | none => none
  | _, _ => none
def oSumT := cOp rSum
theorem ic_sumT : ImC cl oSumT dSumT := ic_op fun x ρ z Q e q => by
  unfold rSum at e
  unfold dSumT
  split at e
  · split at e
    · rename_i ns e1
      cases e
      exact ⟨ns, e1, q⟩
    · cases e
  · cases e
instance : ∀ a b, Decidable (RgOk a b) := fun a b => by unfold RgOk; infer_instance
instance : ∀ a, Decidable (RgB a) := fun a => by unfold RgB; infer_instance
def rLrg (x : DV) (ρ : S) : Option (DV × S) := match x with
  | .d (.int n) => if RgOk 0 n then some (.o ρ.ob.length, ⟨ρ.sl, ρ.ob ++ [.lst ((rng 0 n.toNat).map .d)]⟩) else none
  | _ => none
def oLrg := uOp rLrg
theorem iu_lrg : ImU cl oLrg dLrg := iu_op fun x ρ z Q e q => by
  unfold rLrg at e
  unfold dLrg
  split at e
  · split at e
    · rename_i h
      cases e
      exact ⟨h, q⟩
    · cases e
  · cases e
def rRevL (x : DV) (ρ : S) : Option (DV × S) := match lstOf ρ x with
  | some ds => some (.o ρ.ob.length, ⟨ρ.sl, ρ.ob ++ [.lst (ds.reverse.map .d)]⟩)
  | none => none
def oRevL := uOp rRevL
theorem iu_revL : ImU cl oRevL dRevL := iu_op fun x ρ z Q e q => by
  unfold rRevL at e
  unfold dRevL
  split at e
  · rename_i ds h
    cases e
    exact ⟨ds, h, q⟩
  · cases e
def rRepT (x y : DV) (ρ : S) : Option (DV × S) := match x, y with
  | .d (.tuple ds), .d (.int k) => if ds ≠ [] ∧ 2 ≤ k ∧ k ≤ 1000 ∧ ds.length ≤ 1000 then some (.d (.tuple (repD k.toNat ds)), ρ) else none
  | _, _ => none
instance {ds : List PyData} : Decidable (ds ≠ []) := match ds with
  | [] => .isFalse (fun h => h rfl)
  | _ :: _ => .isTrue (fun h => nomatch h)
end
end FL
end

section
set_option Elab.async false
set_option linter.all false
set_option maxRecDepth 100000
set_option maxHeartbeats 1000000
set_option autoImplicit false
namespace FL
open PySem PySem.Spec PyProof.Rows L2 DL
variable [Tab0]
section
variable {cl : Str → Addr} {α β : Type} {ma mb mc : M DV} {wa wb wc : WE} {mt mu : M Bool} {wt wu : WT} {m : M (List DV)} {w : WA}
/-! ### methods -/
def tyB (ty : String) (ρ : S) : DV → Bool
  | .d (.list _) => ty == "list"
  | .d (.str _) => ty == "str"
  | .o k => match obK ρ k with
    | .lst _ => ty == "list"
    | .dk _ => ty == "dict"
    | .dt _ => ty == "dict"
    | .st _ => ty == "set"
    | .gone => false
  | _ => false
theorem tyB_iff {ty : String} {ρ : S} {x : DV} (h : tyB ty ρ x = true) : tyD ty ρ x := by
  unfold tyB at h
  unfold tyD
  split at h
  · exact eq_of_beq h
  · exact eq_of_beq h
  · try dsimp only
    split at h
    · rename_i e; (try rw [e]); exact eq_of_beq h
    · rename_i e; (try rw [e]); exact eq_of_beq h
    · rename_i e; (try rw [e]); exact eq_of_beq h
    · rename_i e; (try rw [e]); exact eq_of_beq h
    · cases h
  · cases h
/-- o.m(..): r tells what it does -/
def mBM (ty : String) (r : DV → List DV → S → Option (DV × S)) (o : M DV) (as : M (List DV)) : M DV := mbind o fun x ρ1 => if tyB ty ρ1 x then mbind as (fun xs => cOp (fun _ ρ => r x xs ρ) []) ρ1 else .bad
def ImM (r : DV → List DV → S → Option (DV × S)) (R : DV → List DV → S → QD → Prop) : Prop := ∀ x xs ρ z Q, r x xs ρ = some z → Q z.1 z.2 → R x xs ρ Q
theorem im_bm {ty : String} {r : DV → List DV → S → Option (DV × S)} {R : DV → List DV → S → QD → Prop} (hr : ImM r R) (ha : ImE cl ma wa) (hm : ImA cl m w) : ImE cl (mBM ty r ma m) (wBM ty R wa w) := by
  intro ρ Q X h
  unfold mBM at h
  rw [wpM_bind] at h
  refine ha _ _ _ (wpM_mono h fun x ρ1 h1 => ?_)
  unfold wpM at h1
  dsimp only at h1
  by_cases ht : tyB ty ρ1 x = true
  · rw [if_pos ht] at h1
    refine ⟨tyB_iff ht, ?_⟩
    have h1 : wpM cl (mbind m fun xs => cOp (fun _ ρ => r x xs ρ) []) ρ1 Q X := h1
    rw [wpM_bind] at h1
    refine hm _ _ _ (wpM_mono h1 fun xs ρ2 h2 => ?_)
    unfold wpM cOp at h2
    dsimp only at h2
    cases e : r x xs ρ2 with
    | none => rw [e] at h2; exact h2.elim
    | some z => rw [e] at h2; exact hr x xs ρ2 z Q e h2
  · rw [if_neg ht] at h1
    exact h1.elim
def mBM0 (ty : String) (r : DV → List DV → S → Option (DV × S)) (o : M DV) : M DV := mbind o fun x ρ1 => if tyB ty ρ1 x then cOp (fun _ ρ => r x [] ρ) [] ρ1 else .bad
theorem im_bm0 {ty : String} {r : DV → List DV → S → Option (DV × S)} {R : DV → List DV → S → QD → Prop} (hr : ImM r R) (ha : ImE cl ma wa) : ImE cl (mBM0 ty r ma) (wBM0 ty R wa) := by
  intro ρ Q X h
  unfold mBM0 at h
  rw [wpM_bind] at h
  refine ha _ _ _ (wpM_mono h fun x ρ1 h1 => ?_)
  unfold wpM at h1
  dsimp only at h1
  by_cases ht : tyB ty ρ1 x = true
  · rw [if_pos ht] at h1
    refine ⟨tyB_iff ht, ?_⟩
    unfold cOp at h1
    dsimp only at h1
    cases e : r x [] ρ1 with
    | none => rw [e] at h1; exact h1.elim
    | some z => rw [e] at h1; exact hr x [] ρ1 z Q e h1
  · rw [if_neg ht] at h1
    exact h1.elim
def rApp : DV → List DV → S → Option (DV × S)
  | .o k, [y], ρ => match obK ρ k with
    | .lst xs => if xs.length < sizeLine then some (.d .none, ⟨ρ.sl, ρ.ob.set k (.lst (xs ++ [y]))⟩) else none
    | _ => none
  | _, _, _ => none
theorem imm_app : ImM rApp dApp := fun x xs ρ z Q e q => by
  unfold rApp at e
  unfold dApp
  split at e
  · try dsimp only
    split at e
    · rename_i e1
      try rw [e1]
      split at e
      · rename_i hl
        cases e
        exact ⟨hl, q⟩
      · cases e
    · cases e
  · cases e
def rExt : DV → List DV → S → Option (DV × S)
  | .o k, [.o j], ρ => match obK ρ k, obK ρ j with
    | .lst xs, .lst zs => if xs.length + zs.length ≤ sizeLine then some (.d .none, ⟨ρ.sl, ρ.ob.set k (.lst (xs ++ zs))⟩) else none
    | _, _ => none
  | _, _, _ => none
theorem imm_ext : ImM rExt dExt := fun x xs ρ z Q e q => by
  unfold rExt at e
  unfold dExt
  split at e
  · try dsimp only
    split at e
    · rename_i e1 e2
      try rw [e1, e2]
      split at e
      · rename_i hl
        cases e
        exact ⟨hl, q⟩
      · cases e
    · cases e
  · cases e
def rPopAt' : DV → List DV → S → Option (DV × S)
  | .o k, [.d (.int i)], ρ => match obK ρ k with
    | .lst xs => if 0 ≤ i ∧ i < 2 ^ 62 then match xs[i.toNat]? with
      | some z => some (z, ⟨ρ.sl, ρ.ob.set k (.lst (xs.eraseIdx i.toNat))⟩)
      | none => none else none
    | _ => none
  | _, _, _ => none
theorem imm_popAt : ImM rPopAt' dPopAt := fun x xs ρ z Q e q => by
  unfold rPopAt' at e
  unfold dPopAt
  split at e
  · try dsimp only
    split at e
    · rename_i e1
      try rw [e1]
      split at e
      · rename_i hl
        split at e
        · rename_i y e2
          cases e
          exact ⟨y, hl.1, hl.2, e2, q⟩
        · cases e
      · cases e
    · cases e
  · cases e
def rPop' : DV → List DV → S → Option (DV × S)
  | .o k, [], ρ => match obK ρ k with
    | .lst xs => match xs[xs.length - 1]? with
      | some z => some (z, ⟨ρ.sl, ρ.ob.set k (.lst xs.dropLast)⟩)
      | none => none
    | _ => none
  | _, _, _ => none
theorem imm_pop : ImM rPop' dPop := fun x xs ρ z Q e q => by
  unfold rPop' at e
  unfold dPop
  split at e
  · try dsimp only
    split at e
    · rename_i e1
      try rw [e1]
      split at e
      · rename_i y e2
        cases e
        exact ⟨y, e2, q⟩
      · cases e
    · cases e
  · cases e
/-! ### dicts -/
def rDG (x y : DV) (ρ : S) : Option (DV × S) := match getR ρ x y with
  | some (some z) => some (z, ρ)
  | _ => none
def oDG := oOp rDG
theorem ir_dg : ImR cl oDG dDG := ir_op fun x y ρ z Q e q => by
  unfold rDG at e
  unfold dDG
  split at e
  · rename_i e1
    try rw [e1]
    cases e
    exact q
  · cases e
def rDI (neg : Bool) (y x : DV) (ρ : S) : Option (DV × S) := match getR ρ x y with
  | some oz => some (.d (.bool (if neg then !oz.isSome else oz.isSome)), ρ)
  | none => none
def oDIn := oOp (rDI false)
def oDNotIn := oOp (rDI true)
theorem ir_din {neg : Bool} : ImR cl (oOp (rDI neg)) (dDI neg) := ir_op fun x y ρ z Q e q => by
  unfold rDI at e
  unfold dDI
  split at e
  · rename_i e1
    try rw [e1]
    cases e
    exact q
  · cases e
def mGet1 (o i : M DV) : M DV := mbind o fun x ρ1 => if isDc ρ1 x = true then mbind i (fun y ρ2 => match getR ρ2 x y with
  | some oz => .ok (oz.getD (.d .none)) ρ2
  | none => .bad) ρ1 else .bad
theorem im_get1 (ha : ImE cl ma wa) (hb : ImE cl mb wb) : ImE cl (mGet1 ma mb) (wGet1 wa wb) := by
  intro ρ Q X h
  unfold mGet1 at h
  rw [wpM_bind] at h
  refine ha _ _ _ (wpM_mono h fun x ρ1 h1 => ?_)
  unfold wpM at h1
  dsimp only at h1
  by_cases ht : isDc ρ1 x = true
  · rw [if_pos ht] at h1
    refine ⟨ht, ?_⟩
    have h1 : wpM cl (mbind mb fun y ρ2 => match getR ρ2 x y with
      | some oz => .ok (oz.getD (.d .none)) ρ2
      | none => .bad) ρ1 Q X := h1
    rw [wpM_bind] at h1
    refine hb _ _ _ (wpM_mono h1 fun y ρ2 h2 => ?_)
    unfold wpM at h2
    dsimp only at h2
    cases e : getR ρ2 x y with
    | none => rw [e] at h2; exact h2.elim
    | some oz => rw [e] at h2; exact h2
  · rw [if_neg ht] at h1
    exact h1.elim
def mGet2 (o i d : M DV) : M DV := mbind o fun x ρ1 => if isDc ρ1 x = true then mbind i (fun y => mbind d fun z ρ3 => match getR ρ3 x y with
  | some oz => .ok (oz.getD z) ρ3
  | none => .bad) ρ1 else .bad
theorem im_get2 (ha : ImE cl ma wa) (hb : ImE cl mb wb) (hc : ImE cl mc wc) : ImE cl (mGet2 ma mb mc) (wGet2 wa wb wc) := by
  intro ρ Q X h
  unfold mGet2 at h
  rw [wpM_bind] at h
  refine ha _ _ _ (wpM_mono h fun x ρ1 h1 => ?_)
  unfold wpM at h1
  dsimp only at h1
  by_cases ht : isDc ρ1 x = true
  · rw [if_pos ht] at h1
    refine ⟨ht, ?_⟩
    have h1 : wpM cl (mbind mb fun y => mbind mc fun z ρ3 => match getR ρ3 x y with
      | some oz => .ok (oz.getD z) ρ3
      | none => .bad) ρ1 Q X := h1
    rw [wpM_bind] at h1
    refine hb _ _ _ (wpM_mono h1 fun y ρ2 h2 => ?_)
    rw [wpM_bind] at h2
    refine hc _ _ _ (wpM_mono h2 fun u ρ3 h3 => ?_)
    unfold wpM at h3
    dsimp only at h3
    cases e : getR ρ3 x y with
    | none => rw [e] at h3; exact h3.elim
    | some oz => rw [e] at h3; exact h3
  · rw [if_neg ht] at h1
    exact h1.elim
def mNewT : M DV := fun ρ => .ok (.o ρ.ob.length) ⟨ρ.sl, ρ.ob ++ [.dt []]⟩
def mNewK : M DV := fun ρ => .ok (.o ρ.ob.length) ⟨ρ.sl, ρ.ob ++ [.dk []]⟩
theorem im_newT : ImE cl mNewT wNewT := fun _ _ _ h => h
theorem im_newK : ImE cl mNewK wNewK := fun _ _ _ h => h
def isDK0 : Option OB → Bool
  | some (.dk []) => true
  | _ => false
def mDisp (ks : List Str) (m : M (List DV)) : M DV := fun ρ => mbind m (fun xs ρ1 => if isDK0 ρ1.ob[ρ.ob.length]? then .ok (.o ρ.ob.length) ⟨ρ1.sl, ρ1.ob.set ρ.ob.length (.dk (putsD [] ks xs))⟩ else .bad) ⟨ρ.sl, ρ.ob ++ [.dk []]⟩
theorem im_disp {ks : List Str} (hm : ImA cl m w) : ImE cl (mDisp ks m) (wDisp ks w) := by
  intro ρ Q X h
  have h : wpM cl (mbind m fun xs ρ1 => if isDK0 ρ1.ob[ρ.ob.length]? then .ok (.o ρ.ob.length) ⟨ρ1.sl, ρ1.ob.set ρ.ob.length (.dk (putsD [] ks xs))⟩ else .bad) ⟨ρ.sl, ρ.ob ++ [.dk []]⟩ Q X := h
  rw [wpM_bind] at h
  refine hm _ _ _ (wpM_mono h fun xs ρ1 h1 => ?_)
  unfold wpM at h1
  dsimp only at h1
  by_cases ht : isDK0 ρ1.ob[ρ.ob.length]? = true
  · rw [if_pos ht] at h1
    refine ⟨?_, h1⟩
    unfold isDK0 at ht
    split at ht
    · rename_i e; exact e
    · cases ht
  · rw [if_neg ht] at h1
    exact h1.elim
/-! ### freezing -/
def frzV (dv : DV) (ρ : S) : Option (PyData × S) := match dv with
  | .d x => some (x, ρ)
  | .o k => frz ρ k
def mFrz (a : M DV) : M DV := mbind a fun dv ρ1 => match frzV dv ρ1 with
  | some p => .ok (.d p.1) p.2
  | none => .bad
theorem im_frz (ha : ImE cl ma wa) : ImE cl (mFrz ma) (wFrz wa) := by
  intro ρ Q X h
  unfold mFrz at h
  rw [wpM_bind] at h
  refine ha _ _ _ (wpM_mono h fun x ρ1 h1 => ?_)
  unfold wpM at h1
  cases x with
  | d x => exact h1
  | o k =>
    dsimp only [frzV] at h1 ⊢
    cases e : frz ρ1 k with
    | none => rw [e] at h1; exact h1.elim
    | some p => rw [e] at h1; exact h1
/-! ### statements -/
def sNext : M Flow := mret .nx
def sSeq (a b : M Flow) : M Flow := mbind a fun f => match f with
  | .nx => b
  | f => mret f
variable {sa sb : M Flow} {va vb : WS}
theorem wpS_seq {E : DEnds} {ρ : S} : wpS cl (sSeq sa sb) E ρ = wpS cl sa { E with nx := fun ρ' => wpS cl sb E ρ' } ρ := by
  unfold wpS sSeq mbind
  cases sa ρ with
  | ok f ρ' => cases f <;> rfl
  | exc x ρ' => rfl
  | bad => rfl
theorem is_next : ImS cl sNext wNext := fun _ _ h => h
theorem is_seq (ha : ImS cl sa va) (hb : ImS cl sb vb) : ImS cl (sSeq sa sb) (wSeq va vb) := by
  intro E ρ h
  rw [wpS_seq] at h
  exact ha _ _ (wpS_mono h (fun ρ' h' => hb _ _ h') (fun _ _ h => h) (fun _ h => h) (fun _ h => h) (fun _ _ h => h))
def sPass : M Flow := mret .nx
def sBrk : M Flow := mret .bk
def sCont : M Flow := mret .ct
theorem is_pass : ImS cl sPass wPass := fun _ _ h => h
theorem is_brk : ImS cl sBrk wBrk := fun _ _ h => h
theorem is_cont : ImS cl sCont wCont := fun _ _ h => h
theorem wpS_bind {α : Type} {m : M α} {f : α → M Flow} {E : DEnds} {ρ : S} : wpS cl (mbind m f) E ρ = wpM cl m ρ (fun a ρ' => wpS cl (f a) E ρ') E.xr := by
  unfold wpS wpM mbind
  cases m ρ <;> rfl
def sRet (a : M DV) : M Flow := mbind a fun v => mret (.rt v)
theorem is_ret (ha : ImE cl ma wa) : ImS cl (sRet ma) (wRet wa) := by
  intro E ρ h
  unfold sRet at h
  rw [wpS_bind] at h
  exact ha _ _ _ h
def sExp (a : M DV) : M Flow := mbind a fun _ => mret .nx
theorem is_exp (ha : ImE cl ma wa) : ImS cl (sExp ma) (wExp wa) := by
  intro E ρ h
  unfold sExp at h
  rw [wpS_bind] at h
  exact ha _ _ _ h
def sIf (t : M Bool) (a b : M Flow) : M Flow := mbind t fun x => match x with
  | true => a
  | false => b
theorem is_if (ht : ImT cl mt wt) (ha : ImS cl sa va) (hb : ImS cl sb vb) : ImS cl (sIf mt sa sb) (wIf wt va vb) := by
  intro E ρ h
  unfold sIf at h
  rw [wpS_bind] at h
  refine ht _ _ _ (wpM_mono h fun x ρ1 h1 => ?_)
  cases x with
  | true => exact ha _ _ h1
  | false => exact hb _ _ h1
def sNever : M Flow := mbad
theorem is_never : ImS cl sNever wNever := fun _ _ h => h
/-! ### targets -/
def gName (i : Nat) : DV → M Unit := fun dv ρ => .ok () ⟨ρ.sl.set i (some dv), ρ.ob⟩
theorem ig_name {i : Nat} : ImG cl (gName i) (wgName i) := fun _ _ _ h => h
def gNil : List PyData → M Unit := fun ds ρ => match ds with
  | [] => .ok () ρ
  | _ => .bad
def gCons (g : DV → M Unit) (gs : List PyData → M Unit) : List PyData → M Unit := fun ds => match ds with
  | x :: r => mbind (g (.d x)) fun _ => gs r
  | [] => mbad
theorem igs_nil : ImGs cl gNil wgNil := by
  intro ds ρ Q h
  cases ds with
  | nil => exact h
  | cons x r => exact h
theorem igs_cons {g : DV → M Unit} {gs : List PyData → M Unit} {wg : WG} {wr : WGs} (h1 : ImG cl g wg) (h2 : ImGs cl gs wr) : ImGs cl (gCons g gs) (wgCons wg wr) := by
  intro ds ρ Q h
  cases ds with
  | nil => exact h
  | cons x r =>
    have h : wpM cl (mbind (g (.d x)) fun _ => gs r) ρ (fun _ ρ' => Q ρ') (fun _ _ => False) := h
    rw [wpM_bind] at h
    exact h1 _ _ _ (wpM_mono h fun _ ρ' h' => h2 _ _ _ h')
def gTup (n : Nat) (gs : List PyData → M Unit) : DV → M Unit := fun dv => match dv with
  | .d (.tuple ds) => if ds.length = n then gs ds else mbad
  | _ => mbad
theorem ig_tup {n : Nat} {gs : List PyData → M Unit} {wr : WGs} (h2 : ImGs cl gs wr) : ImG cl (gTup n gs) (wgTup n wr) := by
  intro dv ρ Q h
  unfold gTup at h
  unfold wgTup
  split at h
  · try dsimp only
    split at h
    · rename_i hl
      exact ⟨hl, h2 _ _ _ h⟩
    · exact h.elim
  · exact h.elim
def gLst (n : Nat) (gs : List PyData → M Unit) : DV → M Unit := fun dv ρ => match lstOf ρ dv with
  | some ds => if ds.length = n then gs ds ρ else .bad
  | none => .bad
theorem ig_lst {n : Nat} {gs : List PyData → M Unit} {wr : WGs} (h2 : ImGs cl gs wr) : ImG cl (gLst n gs) (wgLst n wr) := by
  intro dv ρ Q h
  unfold gLst wpM at h
  dsimp only at h
  cases e : lstOf ρ dv with
  | none => rw [e] at h; exact h.elim
  | some ds =>
    rw [e] at h
    try dsimp only at h
    by_cases hl : ds.length = n
    · rw [if_pos hl] at h
      have h3 : wr ds ρ Q := h2 ds ρ Q h
      unfold wgLst
      unfold lstOf at e
      split at e
      · cases e
        exact ⟨hl, h3⟩
      · try dsimp only
        split at e
        · rename_i e5
          try rw [e5]
          try dsimp only
          rw [e]
          exact ⟨hl, h3⟩
        · cases e
      · cases e
    · rw [if_neg hl] at h
      exact h.elim
def sAsg (a : M DV) (g : DV → M Unit) : M Flow := mbind a fun v => mbind (g v) fun _ => mret .nx
theorem is_asg {g : DV → M Unit} {wg : WG} (ha : ImE cl ma wa) (hg : ImG cl g wg) (hx : ∀ dv ρ x ρ', g dv ρ ≠ .exc x ρ') : ImS cl (sAsg ma g) (wAsg wa wg) := by
  intro E ρ h
  unfold sAsg at h
  rw [wpS_bind] at h
  refine ha _ _ _ (wpM_mono h fun x ρ1 h1 => ?_)
  rw [wpS_bind] at h1
  refine hg _ _ _ ?_
  unfold wpM at *
  cases e : g x ρ1 with
  | ok a ρ' => rw [e] at h1; exact h1
  | exc y ρ' => exact (hx _ _ _ _ e).elim
  | bad => rw [e] at h1; exact h1
/-- targets raise nothing -/
def NoX (g : DV → M Unit) : Prop := ∀ dv ρ x ρ', g dv ρ ≠ .exc x ρ'
def NoXs (g : List PyData → M Unit) : Prop := ∀ dv ρ x ρ', g dv ρ ≠ .exc x ρ'
theorem nx_name {i : Nat} : NoX (gName i) := fun _ _ _ _ h => by cases h
theorem nxs_nil : NoXs gNil := fun ds _ _ _ h => by
  unfold gNil at h
  cases ds <;> cases h
theorem nxs_cons {g : DV → M Unit} {gs : List PyData → M Unit} (h1 : NoX g) (h2 : NoXs gs) : NoXs (gCons g gs) := fun ds ρ x ρ' h => by
  cases ds with
  | nil => cases h
  | cons d r =>
    have h : mbind (g (.d d)) (fun _ => gs r) ρ = .exc x ρ' := h
    unfold mbind at h
    cases e : g (.d d) ρ with
    | ok a ρ1 => rw [e] at h; exact h2 _ _ _ _ h
    | exc y ρ1 => exact h1 _ _ _ _ e
    | bad => rw [e] at h; cases h
theorem nx_tup {n : Nat} {gs : List PyData → M Unit} (h2 : NoXs gs) : NoX (gTup n gs) := fun dv ρ x ρ' h => by
  unfold gTup at h
  split at h
  · split at h
    · exact h2 _ _ _ _ h
    · cases h
  · cases h
theorem nx_lst {n : Nat} {gs : List PyData → M Unit} (h2 : NoXs gs) : NoX (gLst n gs) := fun dv ρ x ρ' h => by
  unfold gLst at h
  split at h
  · split at h
    · exact h2 _ _ _ _ h
    · cases h
  · cases h
def sPar (i j : Nat) (m : M (List DV)) : M Flow := mbind m fun xs ρ1 => match xs with
  | [x, y] => .ok .nx ⟨(ρ1.sl.set i (some x)).set j (some y), ρ1.ob⟩
  | _ => .bad
theorem is_par {i j : Nat} (hm : ImA cl m w) : ImS cl (sPar i j m) (wPar i j w) := by
  intro E ρ h
  unfold sPar at h
  rw [wpS_bind] at h
  refine hm _ _ _ (wpM_mono h fun xs ρ1 h1 => ?_)
  unfold wpS at h1
  split
  · exact h1
  · rename_i hx
    split at h1
    all_goals first | exact h1.elim | skip
    all_goals (rename_i e; split at e <;> first | cases e | skip)
    all_goals first | exact (hx _ _ rfl).elim | skip
def mPutK (wo wi wv : M DV) : M Flow := mbind wv fun z => mbind wo fun x => mbind wi fun y ρ3 => if fewD ρ3 x = true then match putR ρ3 x y z with
  | some ρ4 => .ok .nx ρ4
  | none => .bad else .bad
theorem is_put (ho : ImE cl ma wa) (hi : ImE cl mb wb) (hv : ImE cl mc wc) : ImS cl (mPutK ma mb mc) (wPut wa wb wc) := by
  intro E ρ h
  unfold mPutK at h
  rw [wpS_bind] at h
  refine hv _ _ _ (wpM_mono h fun z ρ1 h1 => ?_)
  rw [wpS_bind] at h1
  refine ho _ _ _ (wpM_mono h1 fun x ρ2 h2 => ?_)
  rw [wpS_bind] at h2
  refine hi _ _ _ (wpM_mono h2 fun y ρ3 h3 => ?_)
  unfold wpS at h3
  dsimp only at h3
  by_cases ht : fewD ρ3 x = true
  · rw [if_pos ht] at h3
    refine ⟨ht, ?_⟩
    cases e : putR ρ3 x y z with
    | none => rw [e] at h3; exact h3.elim
    | some ρ4 => rw [e] at h3; exact h3
  · rw [if_neg ht] at h3
    exact h3.elim
/-! ### what a for walks over -/
def iT (a : M DV) : M (List PyData) := mbind a fun x => match x with
  | .d (.tuple ds) => mret ds
  | _ => mbad
theorem ii_t (ha : ImE cl ma wa) : ImI cl (iT ma) (wiT wa) := by
  intro ρ Q X h
  unfold iT at h
  rw [wpM_bind] at h
  refine ha _ _ _ (wpM_mono h fun x ρ1 h1 => ?_)
  split at h1
  · exact h1
  · exact h1.elim
def iL (a : M DV) : M (List PyData) := mbind a fun x => match x with
  | .d (.list ds) => mret ds
  | _ => mbad
theorem ii_l (ha : ImE cl ma wa) : ImI cl (iL ma) (wiL wa) := by
  intro ρ Q X h
  unfold iL at h
  rw [wpM_bind] at h
  refine ha _ _ _ (wpM_mono h fun x ρ1 h1 => ?_)
  split at h1
  · exact h1
  · exact h1.elim
def iR1 (m : M (List DV)) : M (List PyData) := mbind m fun xs => match xs with
  | [.d (.int j)] => if RgB j then mret (rng 0 j.toNat) else mbad
  | _ => mbad
theorem ii_r1 (hm : ImA cl m w) : ImI cl (iR1 m) (wiR1 w) := by
  intro ρ Q X h
  unfold iR1 at h
  rw [wpM_bind] at h
  refine hm _ _ _ (wpM_mono h fun x ρ1 h1 => ?_)
  split at h1
  · split at h1
    · rename_i hj; exact ⟨hj, h1⟩
    · exact h1.elim
  · exact h1.elim
def iR2 (m : M (List DV)) : M (List PyData) := mbind m fun xs => match xs with
  | [.d (.int i), .d (.int j)] => if RgB i ∧ RgB j then mret (rng i (j - i).toNat) else mbad
  | _ => mbad
theorem ii_r2 (hm : ImA cl m w) : ImI cl (iR2 m) (wiR2 w) := by
  intro ρ Q X h
  unfold iR2 at h
  rw [wpM_bind] at h
  refine hm _ _ _ (wpM_mono h fun x ρ1 h1 => ?_)
  split at h1
  · split at h1
    · rename_i hj; exact ⟨hj.1, hj.2, h1⟩
    · exact h1.elim
  · exact h1.elim
def iZip (m : M (List DV)) : M (List PyData) := mbind m fun xs => match xs with
  | [.d (.tuple ds), .d (.tuple es)] => mret (zipP ds es)
  | [.d (.list ds), .d (.list es)] => mret (zipP ds es)
  | _ => mbad
theorem ii_zip (hm : ImA cl m w) : ImI cl (iZip m) (wiZip w) := by
  intro ρ Q X h
  unfold iZip at h
  rw [wpM_bind] at h
  refine hm _ _ _ (wpM_mono h fun x ρ1 h1 => ?_)
  split at h1
  · exact h1
  · exact h1
  · exact h1.elim
def iEnu (m : M (List DV)) : M (List PyData) := mbind m fun xs => match xs with
  | [.d (.tuple ds)] => mret (zipP (rng 0 ds.length) ds)
  | [.d (.list ds)] => mret (zipP (rng 0 ds.length) ds)
  | _ => mbad
theorem ii_enu (hm : ImA cl m w) : ImI cl (iEnu m) (wiEnuA w) := by
  intro ρ Q X h
  unfold iEnu at h
  rw [wpM_bind] at h
  refine hm _ _ _ (wpM_mono h fun x ρ1 h1 => ?_)
  split at h1
  · exact h1
  · exact h1
  · exact h1.elim
/-! ### for -/
def forGo (g : DV → M Unit) (b : M Flow) : List PyData → M Flow
  | [] => mret .nx
  | x :: r => mbind (g (.d x)) fun _ => mbind b fun f => match f with
    | .nx => forGo g b r
    | .ct => forGo g b r
    | .bk => mret .nx
    | .rt v => mret (.rt v)
def sFor (i : M (List PyData)) (g : DV → M Unit) (b : M Flow) : M Flow := mbind i fun xs => forGo g b xs
theorem is_for {i : M (List PyData)} {wi : WI} {g : DV → M Unit} {wg : WG} (hi : ImI cl i wi) (hg : ImG cl g wg) (hx : NoX g) (hb : ImS cl sb vb) : ImS cl (sFor i g sb) (wFor wi wg vb) := by
  intro E ρ h
  unfold sFor at h
  rw [wpS_bind] at h
  refine hi _ _ _ (wpM_mono h fun xs ρ1 h1 => ?_)
  refine ⟨fun k ρ' => wpS cl (forGo g sb (xs.drop k)) E ρ', by show wpS cl (forGo g sb (xs.drop 0)) E ρ1; rw [List.drop_zero]; exact h1, fun k x ρ' hk h2 => ?_, fun ρ' h2 => ?_⟩
  · have hd : xs.drop k = x :: xs.drop (k + 1) := by
      obtain ⟨hk, e⟩ := List.getElem?_eq_some_iff.mp hk
      rw [List.drop_eq_getElem_cons hk, e]
    have h2 : wpS cl (forGo g sb (xs.drop k)) E ρ' := h2
    rw [hd] at h2
    unfold forGo at h2
    rw [wpS_bind] at h2
    refine hg _ _ _ ?_
    have h3 : wpM cl (g (.d x)) ρ' (fun _ ρ2 => wpS cl (mbind sb fun f => match f with
    | .nx => forGo g sb (xs.drop (k + 1))
    | .ct => forGo g sb (xs.drop (k + 1))
    | .bk => mret .nx
    | .rt v => mret (.rt v)) E ρ2) (fun _ _ => False) := by
      unfold wpM at h2 ⊢
      cases e : g (.d x) ρ' with
      | ok a ρ2 => rw [e] at h2; exact h2
      | exc y ρ2 => exact (hx _ _ _ _ e).elim
      | bad => rw [e] at h2; exact h2
    refine wpM_mono h3 fun _ ρ2 h4 => hb _ _ ?_
    rw [wpS_bind] at h4
    unfold wpM at h4
    unfold wpS
    cases e : sb ρ2 with
    | ok f ρ3 =>
      rw [e] at h4
      cases f <;> exact h4
    | exc y ρ3 => rw [e] at h4; exact h4
    | bad => rw [e] at h4; exact h4
  · have h2 : wpS cl (forGo g sb (xs.drop xs.length)) E ρ' := h2
    rw [List.drop_length] at h2
    exact h2
/-! ### calls of defs without objects -/
def lift (r : RV PyData) : M DV := fun ρ => match r with
  | .ok y => .ok (.d y) ρ
  | .exc x => .exc x ρ
  | .bad => .bad
/-- a promise: data in, data out, or an error -/
def purR (cl : Str → Addr) (n : Nat) (f : List PyData → RV PyData) : DSp := fun dvs ob R X => ∃ ds : List PyData, dvs = ds.map .d ∧ ds.length = n ∧ ob = [] ∧ match f ds with
  | .ok y => ∀ ob', R (.d y) ob'
  | .exc x => ∀ ob', X (toXD cl x) ob'
  | .bad => False
theorem purR_len {cl : Str → Addr} {n : Nat} {f : List PyData → RV PyData} : ∀ (ys : List DV) (ob : List OB) (R : DV → List OB → Prop) (X : XD → List OB → Prop), purR cl n f ys ob R X → ys.length = n := by
  rintro ys ob R X ⟨ds, rfl, h, _⟩
  rw [List.length_map, h]
def Arity (n : Nat) (f : List PyData → RV PyData) : Prop := ∀ ds, f ds ≠ .bad → ds.length = n
def cur0 (f : RV PyData) : List PyData → RV PyData
  | [] => f
  | _ => .bad
def cur1 (f : PyData → RV PyData) : List PyData → RV PyData
  | [a] => f a
  | _ => .bad
def cur2 (f : PyData → PyData → RV PyData) : List PyData → RV PyData
  | [a, b] => f a b
  | _ => .bad
def cur3 (f : PyData → PyData → PyData → RV PyData) : List PyData → RV PyData
  | [a, b, c] => f a b c
  | _ => .bad
def cur4 (f : PyData → PyData → PyData → PyData → RV PyData) : List PyData → RV PyData
  | [a, b, c, d] => f a b c d
  | _ => .bad
def cur5 (f : PyData → PyData → PyData → PyData → PyData → RV PyData) : List PyData → RV PyData
  | [a, b, c, d, e] => f a b c d e
  | _ => .bad
def cur6 (f : PyData → PyData → PyData → PyData → PyData → PyData → RV PyData) : List PyData → RV PyData
  | [a, b, c, d, e, g] => f a b c d e g
  | _ => .bad
theorem ar0 {f : RV PyData} : Arity 0 (cur0 f) := fun ds h => by
  match ds, h with
  | [], _ => rfl
  | _ :: _, h => exact (h rfl).elim
theorem ar1 {f : PyData → RV PyData} : Arity 1 (cur1 f) := fun ds h => by
  unfold cur1 at h
  split at h
  · rfl
  · exact (h rfl).elim
theorem ar2 {f : PyData → PyData → RV PyData} : Arity 2 (cur2 f) := fun ds h => by
  unfold cur2 at h
  split at h
  · rfl
  · exact (h rfl).elim
theorem ar3 {f : PyData → PyData → PyData → RV PyData} : Arity 3 (cur3 f) := fun ds h => by
  unfold cur3 at h
  split at h
  · rfl
  · exact (h rfl).elim
theorem ar4 {f : PyData → PyData → PyData → PyData → RV PyData} : Arity 4 (cur4 f) := fun ds h => by
  unfold cur4 at h
  split at h
  · rfl
  · exact (h rfl).elim
theorem ar5 {f : PyData → PyData → PyData → PyData → PyData → RV PyData} : Arity 5 (cur5 f) := fun ds h => by
  unfold cur5 at h
  split at h
  · rfl
  · exact (h rfl).elim
theorem ar6 {f : PyData → PyData → PyData → PyData → PyData → PyData → RV PyData} : Arity 6 (cur6 f) := fun ds h => by
  unfold cur6 at h
  split at h
  · rfl
  · exact (h rfl).elim
def mCall (f : List PyData → RV PyData) (m : M (List DV)) : M DV := mbind m fun xs => match allD xs with
  | some ds => lift (f ds)
  | none => mbad
theorem xdD_to {cl : Str → Addr} {x : XV} : xdD (toXD cl x) = true := by
  unfold xdD toXD
  cases x.fs with
  | none => rfl
  | some l =>
    show (l.map fun p => (p.1, DV.d p.2)).all (fun p => isD p.2) = true
    rw [List.all_map]
    exact List.all_eq_true.mpr fun _ _ => rfl
theorem call_purR {n : Nat} {f : List PyData → RV PyData} (hn : Arity n f) {ds : List PyData} {ρ : S} {Q : QD} {X : QX} (h : wpM cl (lift (f ds)) ρ Q X) : callD 0 (purR cl n f) (ds.map .d) ρ Q X := by
  refine ⟨all_bel 0 ds, Nat.zero_le _, rfl, ds, rfl, hn ds ?_, rfl, ?_⟩
  · intro e
    rw [e] at h
    exact h
  · unfold wpM lift at h
    cases e : f ds with
    | ok y =>
      rw [e] at h
      exact fun ob' => ⟨rfl, Nat.zero_le _, rfl, h⟩
    | exc x =>
      rw [e] at h
      exact fun ob' => ⟨xdD_to, Nat.zero_le _, rfl, h⟩
    | bad =>
      rw [e] at h
      exact h
theorem im_call {n : Nat} {f : List PyData → RV PyData} (hn : Arity n f) (hm : ImA cl m w) : ImE cl (mCall f m) (wCall 0 (purR cl n f) w) := by
  intro ρ Q X h
  unfold mCall at h
  rw [wpM_bind] at h
  refine hm _ _ _ (wpM_mono h fun xs ρ1 h1 => ?_)
  cases e : allD xs with
  | none => rw [e] at h1; exact h1.elim
  | some ds =>
    rw [e] at h1
    rw [allD_eq e]
    exact call_purR hn h1
/-- keywords: the arguments in the order pi -/
def mCallK (pi : List Nat) (f : List PyData → RV PyData) (m : M (List DV)) : M DV := mbind m fun xs => if xs.length = pi.length then match allD (pi.map fun j => xs.getD j (.d .none)) with
  | some ds => lift (f ds)
  | none => mbad else mbad
theorem im_callK {pi : List Nat} {n : Nat} {f : List PyData → RV PyData} (hn : Arity n f) (hm : ImA cl m w) : ImE cl (mCallK pi f m) (wCallK 0 (purR cl n f) pi w) := by
  intro ρ Q X h
  unfold mCallK at h
  rw [wpM_bind] at h
  refine hm _ _ _ (wpM_mono h fun xs ρ1 h1 => ?_)
  by_cases hl : xs.length = pi.length
  · rw [if_pos hl] at h1
    refine ⟨hl, ?_⟩
    cases e : allD (pi.map fun j => xs.getD j (.d .none)) with
    | none => rw [e] at h1; exact h1.elim
    | some ds =>
      rw [e] at h1
      rw [allD_eq e]
      exact call_purR hn h1
  · rw [if_neg hl] at h1
    exact h1.elim
/-! ### a def, run -/
def runP (n : Nat) (b : M Flow) (args : List PyData) : RV PyData := match b ⟨args.map (fun x => some (.d x)) ++ List.replicate (n - args.length) none, []⟩ with
  | .ok .nx _ => .ok .none
  | .ok (.rt (.d y)) _ => .ok y
  | .exc x _ => .exc x
  | _ => .bad
theorem start_map (N : List Str) (ds : List PyData) : startS N (ds.map .d) = ds.map (fun x => some (.d x)) ++ List.replicate (N.length - ds.length) none := by
  unfold startS
  rw [List.map_map, List.length_map]
  rfl
theorem mk_pur {P : Program} {w0 : World} {K : PySem.W.Frag} {mg : Str → Option Value} {base : Heap} {k : Nat} {x : Str} {st : Stmt} {N ps : List Str} {f : List PyData → RV PyData} {b : M Flow} {w : WS} (h : Hd K mg x st ps) (S : FnScope N ps (defScope st))
    (hb : PDSs ⟨P, w0, K, mg, base, N, defScope st, k, true⟩ (defBody st) w) (im : ImS cl b w) (hf : ∀ ds, f ds ≠ .bad → f ds = runP N.length b ds) : DefG P w0 K mg base (k + 1) x st ps (purR cl ps.length f) := by
  refine mk_def h S purR_len hb ?_
  rintro dvs ob R X ⟨ds, rfl, hl, rfl, hr⟩ sl e
  rw [start_map] at e
  refine im _ _ ?_
  have hn : f ds ≠ .bad := fun e => by rw [e] at hr; exact hr
  rw [hf ds hn] at hr
  unfold runP at hr
  rw [e] at hr
  unfold wpS
  cases e2 : b ⟨sl, []⟩ with
  | ok f ρ' =>
    rw [e2] at hr
    cases f with
    | nx => exact hr _
    | rt v =>
      cases v with
      | d y => exact hr _
      | o k => exact hr.elim
    | bk => exact hr.elim
    | ct => exact hr.elim
  | exc y ρ' =>
    rw [e2] at hr
    exact hr _
  | bad =>
    rw [e2] at hr
    exact hr.elim
end
end FL
end

section
set_option Elab.async false
set_option linter.all false
set_option maxRecDepth 100000
set_option maxHeartbeats 1000000
set_option autoImplicit false
namespace DL
open PySem PySem.Spec PyProof.Rows L2
variable [Tab0]
section
variable {K : PySem.W.Frag} {F G G' H H' : Hp} {as as' : List Addr} {ob : List OB} {D : Addr} {acs acs2 : List V} {ac : List PyData}
theorem ne_mem {b D : Addr} {as : List Addr} (hb : b ∈ as) (h : D ∉ as) : b ≠ D := fun e => h (e ▸ hb)
/-- a list that nobody else has is laid aside -/
theorem Mem.prot (m : Mem K F G H as ob) (hD : H D = some (.lst acs)) (hG : G D = none) (hA : D ∉ as) : Mem K (upd F D (.lst acs)) G H as ob := by
  refine ⟨m.gh, fun b o e => ?_, fun b o e => ?_, m.nd, m.len, m.al, fun b o e => ?_, m.tb, fun b hb => ?_, m.own, m.at_⟩
  · by_cases hb : b = D
    · subst hb; rw [upd_same] at e; cases e; exact hD
    · rw [upd_ne hb] at e; exact m.fh b o e
  · by_cases hb : b = D
    · subst hb; exact hG
    · rw [upd_ne hb] at e; exact m.gf b o e
  · by_cases hb : b = D
    · subst hb; rw [upd_same] at e; cases e; intro _ h; cases h
    · rw [upd_ne hb] at e; exact m.ft b o e
  · rw [upd_ne (ne_mem hb hA)]; exact m.ofr b hb
theorem Mem.prot_in (m : Mem K (upd F D (.lst acs)) G H as ob) : H D = some (.lst acs) ∧ G D = none ∧ D ∉ as :=
  ⟨m.fh D _ upd_same, m.gf D _ upd_same, fun h => by have := m.ofr D h; rw [upd_same] at this; cases this⟩
theorem tabs_lst {T : List (Addr × Str)} {a : Addr} {vs : List V} {o : HO} (t : LamX.Tabs T H) (hx : H a = some (.lst vs)) : LamX.Tabs T (upd H a o) := by
  intro p hp
  obtain ⟨ps, h1, h2, h3⟩ := t p hp
  have ne : ∀ {b : Addr} {u : HO}, H b = some u → (∀ vs, u ≠ .lst vs) → b ≠ a := fun {b u} e n1 z => by
    subst z
    rw [hx] at e
    exact n1 vs (Option.some.inj e).symm
  refine ⟨ps, ?_, h2, fun pos cv hc => ?_⟩
  · rw [upd_ne (ne h1 (fun _ z => nomatch z))]
    exact h1
  · obtain ⟨c, e1, e2⟩ := h3 pos cv hc
    refine ⟨c, e1, ?_⟩
    have no : ∀ u : HO, (∀ q, HO.ext q ≠ u) → LamX.CodeO c p.2 ≠ u := fun u n z => n _ z
    rw [upd_ne (ne e2 (fun _ => no _ fun _ z => nomatch z))]
    exact e2
/-- it is taken up again, changed -/
theorem Mem.unprot (m : Mem K (upd F D (.lst acs)) G H as ob) (hF : F D = none) : Mem K F G (upd H D (.lst acs2)) as ob := by
  obtain ⟨h1, h2, h3⟩ := m.prot_in
  have ne : ∀ b ∈ as, b ≠ D := fun b hb e => h3 (e ▸ hb)
  have neF : ∀ b o, F b = some o → b ≠ D := fun b o e z => by rw [z, hF] at e; cases e
  refine ⟨fun b o e => ?_, fun b o e => ?_, fun b o e => ?_, m.nd, m.len, fun b hb => ?_, fun b o e => ?_, tabs_lst m.tb h1, fun b hb => ?_, m.own, fun k b x e1 e2 => ?_⟩
  · rw [upd_ne (ne_of_none e h2)]; exact m.gh b o e
  · rw [upd_ne (neF b o e)]; exact m.fh b o (by rw [upd_ne (neF b o e)]; exact e)
  · exact m.gf b o (by rw [upd_ne (neF b o e)]; exact e)
  · rw [upd_ne (ne b hb)]; exact m.al b hb
  · exact m.ft b o (by rw [upd_ne (neF b o e)]; exact e)
  · have := m.ofr b hb
    rwa [upd_ne (ne b hb)] at this
  · exact (m.at_ k b x e1 e2).mono (Nxt.refl _ _) fun u q => by
      rw [upd_ne (ne b (List.mem_of_getElem? e1))]
      exact q
theorem upd_self {o : HO} (h : H D = some o) : upd H D o = H := by
  funext b
  by_cases hb : b = D
  · subst hb; rw [upd_same, h]
  · rw [upd_ne hb]
/-- it becomes one's own -/
theorem Mem.adopt (m : Mem K (upd F D (.lst acs)) G H as ob) (hF : F D = none) (r : Reps K G acs ac) : Mem K F G H (as ++ [D]) (ob ++ [.lst (ac.map .d)]) := by
  obtain ⟨h1, h2, h3⟩ := m.prot_in
  have m0 : Mem K F G (upd H D (.lst acs)) as ob := m.unprot hF
  rw [upd_self h1] at m0
  have spl : ∀ {k b}, (as ++ [D])[k]? = some b → (as[k]? = some b ∧ k < as.length) ∨ (k = as.length ∧ b = D) := fun {k b} e => by
    by_cases hk : k < as.length
    · rw [List.getElem?_append_left hk] at e
      exact .inl ⟨e, hk⟩
    · rw [List.getElem?_append_right (by omega)] at e
      have : k - as.length = 0 := by
        have := (List.getElem?_eq_some_iff.mp e).1
        simp at this
        omega
      rw [this] at e
      simp at e
      exact .inr ⟨by omega, e.symm⟩
  refine ⟨m0.gh, m0.fh, m0.gf, ?_, by rw [List.length_append, List.length_append, m0.len]; rfl, fun b hb => ?_, m0.ft, m0.tb, fun b hb => ?_, fun k b y e1 e2 e3 => ?_, fun k b y e1 e2 => ?_⟩
  · rw [List.nodup_append]
    exact ⟨m0.nd, by simp, fun a ha b hb => by
      have : b = D := by simpa using hb
      subst this
      exact fun e => h3 (e ▸ ha)⟩
  · rcases List.mem_append.mp hb with hb | hb
    · exact m0.al b hb
    · have : b = D := by simpa using hb
      subst this
      exact ⟨_, h1, by intro _ h; cases h⟩
  · rcases List.mem_append.mp hb with hb | hb
    · exact m0.ofr b hb
    · have : b = D := by simpa using hb
      rw [this]
      exact hF
  · rcases spl e1 with ⟨e, hk⟩ | ⟨_, e⟩
    · rw [List.getElem?_append_left (by rw [← m0.len]; exact hk)] at e2
      exact m0.own k b y e e2 e3
    · rw [e]
      exact h2
  · rcases spl e1 with ⟨e, hk⟩ | ⟨ek, e⟩
    · rw [List.getElem?_append_left (by rw [← m0.len]; exact hk)] at e2
      exact (m0.at_ k b y e e2).mono ⟨Same.refl G, [D], rfl⟩ fun u q => q
    · subst e
      rw [List.getElem?_append_right (by rw [← m0.len]; omega)] at e2
      have : k - ob.length = 0 := by rw [← m0.len]; omega
      rw [this] at e2
      have e2 : some (.lst (ac.map .d)) = some y := e2
      cases e2
      exact ⟨acs, h1, RepVs.of r⟩
end
def belO (n : Nat) : Option DV → Bool
  | none => true
  | some v => belV n v
/-- the objects from n on are no longer needed -/
def okTrim (n : Nat) (ρ : S) : Bool := decide (n ≤ ρ.ob.length) && ((ρ.ob.take n).all (belB n) && ρ.sl.all (belO n))
def okCut (n : Nat) (ob : List OB) : Bool := decide (n ≤ ob.length) && (ob.take n).all (belB n)
section
variable {K : PySem.W.Frag} {F G G' H H' : Hp} {as as' : List Addr} {ρ : S} {σ : St}
theorem Ok.trim (ok : Ok K ρ σ F G H as) {n : Nat} (h : okTrim n ρ = true) : Ok K ⟨ρ.sl, ρ.ob.take n⟩ σ F G H (as.take n) := by
  unfold okTrim at h
  rw [Bool.and_eq_true, Bool.and_eq_true] at h
  refine ⟨ok.mem.trim n h.2.1, ok.sll, fun i dv e => ?_⟩
  obtain ⟨v, e1, r⟩ := ok.sl i dv e
  refine ⟨v, e1, r.cut (fun k hk => take_get hk) ?_⟩
  exact List.all_eq_true.mp h.2.2 _ (List.mem_of_getElem? e)
theorem nxt_take {n : Nat} (x : Nxt G as G' as') (hn : as.length = n) : as'.take n = as ∧ Nxt G as G' (as'.take n) := by
  obtain ⟨r, e⟩ := x.a
  have : as'.take n = as := by rw [e, ← hn]; simp
  exact ⟨this, x.g, [], by rw [this, List.append_nil]⟩
end
def frzV (dv : DV) (ρ : S) : Option (PyData × S) := match dv with
  | .d x => some (x, ρ)
  | .o k => frz ρ k
/-- a value frozen, what was made on the way forgotten -/
def wFT (wa : WE) : WE := fun ρ Q X => wFrz wa ρ (fun dv ρ2 => okTrim ρ.ob.length ρ2 = true ∧ isD dv = true ∧ Q dv ⟨ρ2.sl, ρ2.ob.take ρ.ob.length⟩) X
section
variable {T : Sta} {pos : Pos} {a e c : Expr} {wa we : WE} {wt : WT} {K : PySem.W.Frag}
theorem de_trim {ta : WX → TE} (da : ∀ ρ Q X, wa ρ Q X → DE K ta ρ Q X) {ρ : S} {Q : QD} {X : QX} (h : wa ρ (fun dv ρ2 => okTrim ρ.ob.length ρ2 = true ∧ isD dv = true ∧ Q dv ⟨ρ2.sl, ρ2.ob.take ρ.ob.length⟩) X) : DE K ta ρ Q X := by
  intro W σ F G H as ok acc C k
  refine da _ _ _ h W σ F G H as ok acc _ fun dv ρ1 v G1 H1 as1 h1 ok1 n1 r1 => ?_
  obtain ⟨ht, hd, q⟩ := h1
  obtain ⟨_, n2⟩ := nxt_take n1 ok.mem.len
  exact k dv _ v G1 H1 _ q (ok1.trim ht) n2 (r1.data hd)
theorem pd_ft (ha : PD T a wa) : PD T a (wFT wa) := by
  obtain ⟨t, ht, d⟩ := pd_frz ha
  exact ⟨t, ht, fun ρ Q X h => de_trim d h⟩
/-! ### list comprehensions, the list itself laid aside -/
def wLcF (wi : WI) (wg : WG) (wt : WT) (we : WE) (vs : List Nat) : WE := fun ρ Q X => wi ρ (fun xs ρ1 => ∃ I : Nat → List OB → List PyData → Prop, I 0 ρ1.ob [] ∧
  (∀ (i : Nat) (x : PyData) (ob : List OB) (acc : List PyData), xs[i]? = some x → I i ob acc → ob.length = ρ1.ob.length → wg (.d x) ⟨wipeS ρ1.sl vs, ob⟩ fun ρ2 => wt ρ2 (fun b ρ3 => match b with
    | true => we ρ3 (fun y ρ4 => acc.length < sizeLine ∧ ∃ dy : PyData, y = .d dy ∧ okCut ρ1.ob.length ρ4.ob = true ∧ I (i + 1) (ρ4.ob.take ρ1.ob.length) (acc ++ [dy])) X0
    | false => okCut ρ1.ob.length ρ3.ob = true ∧ I (i + 1) (ρ3.ob.take ρ1.ob.length) acc) X0) ∧
  (∀ (ob : List OB) (acc : List PyData), I xs.length ob acc → ob.length = ρ1.ob.length → Q (.o ob.length) ⟨ρ1.sl, ob ++ [.lst (acc.map .d)]⟩)) X
theorem cut_len {n : Nat} {ob : List OB} (h : okCut n ob = true) : (ob.take n).length = n ∧ (ob.take n).all (belB n) = true := by
  unfold okCut at h
  rw [Bool.and_eq_true, decide_eq_true_eq] at h
  exact ⟨by rw [List.length_take]; omega, h.2⟩
theorem de_lcF {ti : WX → TI} {wi : WI} {g : TG} {wg : WG} {js vs : List Nat} {tt : TT} {te : TE} (di : ∀ ρ Q X, wi ρ Q X → DI K ti ρ Q X) (dg : DG K g wg js) (dt : ∀ ρ Q, wt ρ Q X0 → DT K (fun _ => tt) ρ Q X0)
    (de : ∀ ρ Q, we ρ Q X0 → DE K (fun _ => te) ρ Q X0) (hj : ∀ j ∈ js, j ∈ vs) {ρ : S} {Q : QD} {X : QX} (h : wLcF wi wg wt we vs ρ Q X) : DE K (fun W => tLc (ti W) g tt te vs) ρ Q X := by
  intro W σ F G H as ok acc C k
  refine di _ _ _ h W σ F G H as ok acc _ fun xs ρ1 G1 H1 as1 J h1 ok1 n1 it D hD => ?_
  obtain ⟨I, h0, hst, hd⟩ := h1
  have al : as1.length = ρ1.ob.length := ok1.mem.len
  obtain ⟨gD, fD, aD⟩ := ok1.mem.fresh hD
  have m0 : Mem K (upd F D (.lst [])) G1 (upd H1 D (.lst [])) as1 ρ1.ob := by
    have sm : ∀ {x : OB} {b : Addr}, b ∈ as1 → ObAt K G1 H1 as1 b x → ObAt K G1 (upd H1 D (.lst [])) as1 b x := fun hb q => q.mono (Nxt.refl _ _) fun u q => by rw [upd_ne (ne_mem hb aD)]; exact q
    have mm : Mem K F G1 (upd H1 D (.lst [])) as1 ρ1.ob := by
      refine ⟨fun b o e => ?_, fun b o e => ?_, ok1.mem.gf, ok1.mem.nd, ok1.mem.len, fun b hb => ?_, ok1.mem.ft, ok1.mem.tb.ext fun b x e => by rw [upd_ne (ne_of_none e hD)]; exact e, ok1.mem.ofr, ok1.mem.own, fun k b x e1 e2 => sm (List.mem_of_getElem? e1) (ok1.mem.at_ k b x e1 e2)⟩
      · rw [upd_ne (ne_of_none e gD)]; exact ok1.mem.gh b o e
      · rw [upd_ne (ne_of_none e fD)]; exact ok1.mem.fh b o e
      · rw [upd_ne (ne_mem hb aD)]; exact ok1.mem.al b hb
    exact mm.prot upd_same gD aD
  have okOf : ∀ {F' G' H' : Hp} {ob : List OB}, Mem K F' G' H' as1 ob → Same G1 G' → Ok K ⟨ρ1.sl, ob⟩ σ F' G' H' as1 := fun {F' G' H' ob} m s => ⟨m, ok1.sll, fun i dv e => by
    obtain ⟨v, e1, r⟩ := ok1.sl i dv e
    exact ⟨v, e1, r.mono ⟨s, [], (List.append_nil _).symm⟩⟩⟩
  refine ⟨fun i m H => m = xs.length - i ∧ i ≤ xs.length ∧ ∃ (G' : Hp) (ob : List OB) (acs : List V) (ac : List PyData), I i ob ac ∧ ob.length = ρ1.ob.length ∧ Mem K (upd F D (.lst acs)) G' H as1 ob ∧ Reps K G' acs ac ∧ Same G1 G',
    ⟨xs.length, by simp, Nat.zero_le _, G1, ρ1.ob, [], [], h0, rfl, m0, .nil, Same.refl _⟩, ?_⟩
  rintro i m H2 ⟨rfl, hi, G2, ob, acs, ac, hI, hl, m2, rp, s2⟩
  by_cases hlt : i < xs.length
  · refine .inr ⟨it.go i H2 hlt (s2.trans m2.gh), fun H' => i + 1 ≤ xs.length ∧ ∃ (G' : Hp) (ob : List OB) (acs : List V) (ac : List PyData), I (i + 1) ob ac ∧ ob.length = ρ1.ob.length ∧ Mem K (upd F D (.lst acs)) G' H' as1 ob ∧ Reps K G' acs ac ∧ Same G1 G',
      fun H' hN => ⟨xs.length - (i + 1), by omega, rfl, hN⟩, fun x H' y => ?_⟩
    have hx : xs[i]? = some xs[i] := by simp [hlt]
    obtain ⟨G3, m3, s3, r3⟩ := it.yld i _ hx _ G2 H2 _ _ s2 m2 x H' y
    have ok3 := okOf m3 (s2.trans s3)
    refine dg (.d xs[i]) _ _ (hst i _ ob ac hx hI hl) (L2.wipe σ vs) _ G3 H' as1 x (ok3.wipe vs) r3 _ fun ρ4 σ4 G4 H4 as4 q4 ok4 n4 w4 => ?_
    refine ⟨?_, ?_⟩
    · rw [w4 vs hj]
      apply List.ext_getElem?
      intro j
      rw [wipe_get, wipe_get, wipe_length]
      by_cases hv : j ∈ vs ∧ j < σ.length
      · rw [if_pos hv, if_pos hv]
      · rw [if_neg hv, if_neg hv]
    refine dt _ _ q4 W0 σ4 _ G4 H4 as4 ok4 acc0 _ fun b ρ5 G5 H5 as5 q5 ok5 n5 => ?_
    have n45 := n4.trans n5
    cases b with
    | false =>
      refine iteF ?_
      obtain ⟨hc, hI5⟩ := q5
      obtain ⟨l5, b5⟩ := cut_len hc
      have m5 := ok5.mem.trim _ b5
      rw [(nxt_take n45 al).1] at m5
      exact ⟨hlt, G5, _, acs, ac, hI5, l5, m5, rp.mono (s3.trans n45.g), (s2.trans s3).trans n45.g⟩
    | true =>
      refine iteT ?_
      refine de _ _ q5 W0 σ4 _ G5 H5 as5 ok5 acc0 _ fun y ρ6 v G6 H6 as6 q6 ok6 n6 r6 => ?_
      obtain ⟨hz, dy, rfl, hc, hI6⟩ := q6
      have n46 := n45.trans n6
      obtain ⟨l6, b6⟩ := cut_len hc
      have m6 := ok6.mem.trim _ b6
      rw [(nxt_take n46 al).1] at m6
      obtain ⟨hD6, gD6, aD6⟩ := m6.prot_in
      have rp6 := rp.mono (s3.trans n46.g)
      have rv : Rep K G6 v dy := r6
      refine ⟨acs, hD6, by rw [rp.length]; exact hz, hlt, G6, _, acs ++ [v], ac ++ [dy], hI6, l6, ?_, rp6.append (.cons rv .nil), (s2.trans s3).trans n46.g⟩
      exact (m6.unprot fD).prot upd_same gD6 aD6
  · have e : i = xs.length := by omega
    subst e
    refine .inl ⟨it.stop H2 (s2.trans m2.gh), ?_⟩
    have m3 := m2.adopt fD rp
    have n3 : Nxt G1 as1 G2 (as1 ++ [D]) := ⟨s2, [D], rfl⟩
    refine (k.next n1) (.o ob.length) _ (.ref D) G2 H2 (as1 ++ [D]) (hd ob ac hI hl) (ok1.to m3 n3) n3 ⟨D, ?_, rfl⟩
    rw [hl, ← al]
    exact get_last _ _
variable {elt tg iter : Expr} {ifs : List Expr}
theorem pd_lcF {scope : Scope} {own : List (Str × Nat)} {wi : WI} {wg : WG} {js : List Nat} (hi : PDI T tg iter wi) (ok : BlkOk T.N T.sc scope own) (hg : PDG (blkT T scope) tg wg js) (ht : PDTs (blkT T scope) ifs wt) (he : PD (blkT T scope) elt we)
    (hj : ∀ j ∈ js, j ∈ own.map (·.2) := by decide) (hs : ∀ env x, foldedSetIterable iter env x = pure x := by intro _ _; rfl) : PD T (.ListComp elt [⟨tg, iter, ifs, 0⟩] scope pos) (wLcF wi wg wt we (own.map (·.2))) := by
  obtain ⟨ti, hti, di⟩ := hi
  obtain ⟨g, hg, dg⟩ := hg
  obtain ⟨tt, ht, dt⟩ := ht
  obtain ⟨te, he, de⟩ := he
  refine ⟨fun W => tLc (ti W) g tt (te W0) (own.map (·.2)), fun W X gd tk => pe_lc gd.calm (by rw [gd.N]; exact gd.nd) (hti W X gd tk) (by rw [gd.N, gd.sc]; exact ok) (fun s H C cl fp => hg _ (gd.blk s H scope cl C fp))
    (fun s H C cl fp => ht _ (gd.blk s H scope cl C fp) takes0) (fun s H C cl fp => he W0 _ (gd.blk s H scope cl C fp) takes0) (hs _), fun ρ Q X h => ?_⟩
  exact de_lcF (K := T.K) (te := te W0) di dg dt (fun ρ Q h W σ F G H as ok acc C k => de ρ Q X0 h W0 σ F G H as ok acc0 C k) hj h
end
end DL
end

section
set_option Elab.async false
set_option linter.all false
set_option maxRecDepth 100000
set_option maxHeartbeats 4000000
set_option autoImplicit false
namespace DL
variable [Tab0]
open PySem PySem.Spec PyProof.Rows L2
/-! ### isinstance(e, c) in an except suite, e with a dict or with none -/
/-- the dict of the exception stands -/
def DictAt (H : Hp) : Option Addr → Prop
  | none => True
  | some dd => ∃ fs, H dd = some (.xd fs)
theorem instAt_of {X : Cx} {pins : List (Addr × Obj)} {σ : St} {H : Hp} {s : Shared} {a D : Addr} {oe : Obj} {d : Option Addr} (I : Inv X pins σ H s) (hget : s.heap.get? a = some oe) (hz : Zc (.ref D) d oe) (hf : ∃ vs, oe.data = .fields vs) (hd : DictAt H d) :
    ∃ od, PySem.W.InstAt s.heap a oe D od := by
  obtain ⟨oc, dd, oda, osl⟩ := oe
  obtain ⟨vs, hv⟩ := hf
  obtain ⟨h1, h2⟩ := hz
  dsimp only at h1 h2 hv
  subst h1 h2 hv
  cases dd with
  | none => exact ⟨none, hget, rfl, rfl, trivial⟩
  | some dd =>
    obtain ⟨fs, e⟩ := hd
    have x : ObjOk X.prog X.w H s.heap dd (.xd fs) := I.hok dd _ e
    obtain ⟨od, ho⟩ := objOk_get x
    exact ⟨some od, hget, rfl, rfl, ho⟩
def rIsD (K : PySem.W.Frag) (D a : Addr) (d : Option Addr) : List V → Hp → VK → Prop := fun xs H Q => DictAt H d ∧ rIsE K D a xs H Q
theorem call_isD {X : Cx} {a D : Addr} {d : Option Addr} {oe : Obj} {pn : List (Addr × Obj)} (C : ExcC X.K D) (hz : Zc (.ref D) d oe) (hf : ∃ vs, oe.data = .fields vs) : CallR (X.suite a ((a, oe) :: pn)) (.builtin "isinstance") (rIsD X.K D a d) := by
  intro pins s σ H xs us Q I r h
  obtain ⟨hd, c, cv, b, rfl, hcv, e, q⟩ := h
  match r with
  | .cons rx (.cons rt .nil) =>
    cases rx
    have ec := hcv _ rt
    subst ec
    obtain ⟨od, J⟩ := instAt_of I (I.pin (a, oe) (List.mem_append.mpr (.inl List.mem_cons_self))).1 hz hf hd
    exact PySem.W.kia_one (PySem.W.kitx_exc (by obtain ⟨cd, hc, _⟩ := PySem.W.any_some C.hd; rw [hc]; rfl) C.hg C.hk C.hs C.ha C.hn C.ht C.hm) I.kIn J e (fun z => nomatch z) fun tk => ⟨.bl b, H, I.kept (t' := tk) fun _ _ z => z, rfl, q⟩
end DL
end

section
set_option Elab.async false
set_option linter.all false
set_option maxRecDepth 100000
set_option maxHeartbeats 1000000
set_option autoImplicit false
namespace DL
open PySem PySem.Spec PyProof.Rows L2
variable [Tab0]
section
variable {T : Sta} {pos : Pos} {a e c elt tg iter tg1 iter1 : Expr} {wa we : WE} {wt : WT} {K : PySem.W.Frag} {ifs : List Expr}
def wLc2F (wi : WI) (wg : WG) (wi1 : WI) (wg1 : WG) (we : WE) (vs vs1 : List Nat) : WE := fun ρ Q X => wi ρ (fun xs ρ1 => ∃ I : Nat → List OB → List PyData → Prop, I 0 ρ1.ob [] ∧
  (∀ (i : Nat) (x : PyData) (ob : List OB) (acc : List PyData), xs[i]? = some x → I i ob acc → ob.length = ρ1.ob.length → wg (.d x) ⟨wipeS ρ1.sl vs, ob⟩ fun ρ2 => wi1 ρ2 (fun ys ρ3 => okTrim ρ1.ob.length ρ3 = true ∧ ∃ I1 : Nat → List OB → List PyData → Prop, I1 0 (ρ3.ob.take ρ1.ob.length) acc ∧
    (∀ (j : Nat) (y : PyData) (ob : List OB) (acc : List PyData), ys[j]? = some y → I1 j ob acc → ob.length = ρ1.ob.length → wg1 (.d y) ⟨wipeS ρ3.sl vs1, ob⟩ fun ρ4 => we ρ4 (fun z ρ5 => acc.length < sizeLine ∧ ∃ dz : PyData, z = .d dz ∧ okCut ρ1.ob.length ρ5.ob = true ∧ I1 (j + 1) (ρ5.ob.take ρ1.ob.length) (acc ++ [dz])) X0) ∧
    (∀ (ob : List OB) (acc : List PyData), I1 ys.length ob acc → ob.length = ρ1.ob.length → I (i + 1) ob acc)) X0) ∧
  (∀ (ob : List OB) (acc : List PyData), I xs.length ob acc → ob.length = ρ1.ob.length → Q (.o ob.length) ⟨ρ1.sl, ob ++ [.lst (acc.map .d)]⟩)) X
theorem de_lc2F {ti : WX → TI} {wi wi1 : WI} {g g1 : TG} {wg wg1 : WG} {js js1 vs vs1 : List Nat} {ti1 : TI} {te : TE} (di : ∀ ρ Q X, wi ρ Q X → DI K ti ρ Q X) (dg : DG K g wg js) (di1 : ∀ ρ Q, wi1 ρ Q X0 → DI K (fun _ => ti1) ρ Q X0) (dg1 : DG K g1 wg1 js1)
    (de : ∀ ρ Q, we ρ Q X0 → DE K (fun _ => te) ρ Q X0) (hj : ∀ j ∈ js, j ∈ vs) (hj1 : ∀ j ∈ js1, j ∈ vs1) {ρ : S} {Q : QD} {X : QX} (h : wLc2F wi wg wi1 wg1 we vs vs1 ρ Q X) : DE K (fun W => tLc2 (ti W) g tYes ti1 g1 tYes te vs vs1) ρ Q X := by
  intro W σ F G H as ok acc C k
  refine di _ _ _ h W σ F G H as ok acc _ fun xs ρ1 G1 H1 as1 J h1 ok1 n1 it D hD => ?_
  obtain ⟨I, h0, hst, hd⟩ := h1
  have al : as1.length = ρ1.ob.length := ok1.mem.len
  obtain ⟨gD, fD, aD⟩ := ok1.mem.fresh hD
  have m0 : Mem K (upd F D (.lst [])) G1 (upd H1 D (.lst [])) as1 ρ1.ob := by
    have sm : ∀ {x : OB} {b : Addr}, b ∈ as1 → ObAt K G1 H1 as1 b x → ObAt K G1 (upd H1 D (.lst [])) as1 b x := fun hb q => q.mono (Nxt.refl _ _) fun u q => by rw [upd_ne (ne_mem hb aD)]; exact q
    have mm : Mem K F G1 (upd H1 D (.lst [])) as1 ρ1.ob := by
      refine ⟨fun b o e => ?_, fun b o e => ?_, ok1.mem.gf, ok1.mem.nd, ok1.mem.len, fun b hb => ?_, ok1.mem.ft, ok1.mem.tb.ext fun b x e => by rw [upd_ne (ne_of_none e hD)]; exact e, ok1.mem.ofr, ok1.mem.own, fun k b x e1 e2 => sm (List.mem_of_getElem? e1) (ok1.mem.at_ k b x e1 e2)⟩
      · rw [upd_ne (ne_of_none e gD)]; exact ok1.mem.gh b o e
      · rw [upd_ne (ne_of_none e fD)]; exact ok1.mem.fh b o e
      · rw [upd_ne (ne_mem hb aD)]; exact ok1.mem.al b hb
    exact mm.prot upd_same gD aD
  have okOf : ∀ {F' G' H' : Hp} {ob : List OB}, Mem K F' G' H' as1 ob → Same G1 G' → Ok K ⟨ρ1.sl, ob⟩ σ F' G' H' as1 := fun {F' G' H' ob} m s => ⟨m, ok1.sll, fun i dv e => by
    obtain ⟨v, e1, r⟩ := ok1.sl i dv e
    exact ⟨v, e1, r.mono ⟨s, [], (List.append_nil _).symm⟩⟩⟩
  refine ⟨fun i m H => m = xs.length - i ∧ i ≤ xs.length ∧ ∃ (G' : Hp) (ob : List OB) (acs : List V) (ac : List PyData), I i ob ac ∧ ob.length = ρ1.ob.length ∧ Mem K (upd F D (.lst acs)) G' H as1 ob ∧ Reps K G' acs ac ∧ Same G1 G',
    ⟨xs.length, by simp, Nat.zero_le _, G1, ρ1.ob, [], [], h0, rfl, m0, .nil, Same.refl _⟩, ?_⟩
  rintro i m H2 ⟨rfl, hi, G2, ob, acs, ac, hI, hl, m2, rp, s2⟩
  by_cases hlt : i < xs.length
  · refine .inr ⟨it.go i H2 hlt (s2.trans m2.gh), fun H' => i + 1 ≤ xs.length ∧ ∃ (G' : Hp) (ob : List OB) (acs : List V) (ac : List PyData), I (i + 1) ob ac ∧ ob.length = ρ1.ob.length ∧ Mem K (upd F D (.lst acs)) G' H' as1 ob ∧ Reps K G' acs ac ∧ Same G1 G',
      fun H' hN => ⟨xs.length - (i + 1), by omega, rfl, hN⟩, fun x H' y => ?_⟩
    have hx : xs[i]? = some xs[i] := by simp [hlt]
    obtain ⟨G3, m3, s3, r3⟩ := it.yld i _ hx _ G2 H2 _ _ s2 m2 x H' y
    have ok3 := okOf m3 (s2.trans s3)
    refine dg (.d xs[i]) _ _ (hst i _ ob ac hx hI hl) (L2.wipe σ vs) _ G3 H' as1 x (ok3.wipe vs) r3 _ fun ρ4 σ4 G4 H4 as4 q4 ok4 n4 w4 => ⟨by rw [w4 vs hj, wipe_wipe], ?_⟩
    refine yesIte ?_
    refine di1 _ _ q4 W0 σ4 _ G4 H4 as4 ok4 acc0 _ fun ys ρ5 G5 H5 as5 J1 q5 ok5 n5 it1 => ?_
    obtain ⟨htr, I1, hI1, hin, hout⟩ := q5
    have n45 := n4.trans n5
    have ok5t := ok5.trim htr
    rw [(nxt_take n45 al).1] at ok5t
    have l5 : (ρ5.ob.take ρ1.ob.length).length = ρ1.ob.length := by rw [← ok5t.mem.len, al]
    have okOf5 : ∀ {F' G' H' : Hp} {ob : List OB}, Mem K F' G' H' as1 ob → Same G5 G' → Ok K ⟨ρ5.sl, ob⟩ σ4 F' G' H' as1 := fun {F' G' H' ob} m s => ⟨m, ok5t.sll, fun i dv e => by
      obtain ⟨v, e1, r⟩ := ok5t.sl i dv e
      exact ⟨v, e1, r.mono ⟨s, [], (List.append_nil _).symm⟩⟩⟩
    refine ⟨fun j k H => k = ys.length - j ∧ j ≤ ys.length ∧ ∃ (G' : Hp) (ob : List OB) (acs : List V) (ac : List PyData), I1 j ob ac ∧ ob.length = ρ1.ob.length ∧ Mem K (upd F D (.lst acs)) G' H as1 ob ∧ Reps K G' acs ac ∧ Same G5 G',
      ⟨ys.length, by simp, Nat.zero_le _, G5, _, acs, ac, hI1, l5, ok5t.mem, rp.mono (s3.trans n45.g), Same.refl _⟩, ?_⟩
    rintro j m H6 ⟨rfl, hjl, G6, ob6, acs6, ac6, hI6, hl6, m6, rp6, s6⟩
    by_cases hlt1 : j < ys.length
    · refine .inr ⟨it1.go j H6 hlt1 (s6.trans m6.gh), fun H' => j + 1 ≤ ys.length ∧ ∃ (G' : Hp) (ob : List OB) (acs : List V) (ac : List PyData), I1 (j + 1) ob ac ∧ ob.length = ρ1.ob.length ∧ Mem K (upd F D (.lst acs)) G' H' as1 ob ∧ Reps K G' acs ac ∧ Same G5 G',
        fun H' hN => ⟨ys.length - (j + 1), by omega, rfl, hN⟩, fun x' H' y' => ?_⟩
      have hy : ys[j]? = some ys[j] := by simp [hlt1]
      obtain ⟨G7, m7, s7, r7⟩ := it1.yld j _ hy _ G6 H6 _ _ s6 m6 x' H' y'
      have ok7 := okOf5 m7 (s6.trans s7)
      refine dg1 (.d ys[j]) _ _ (hin j _ ob6 ac6 hy hI6 hl6) (L2.wipe σ4 vs1) _ G7 H' as1 x' (ok7.wipe vs1) r7 _ fun ρ8 σ8 G8 H8 as8 q8 ok8 n8 w8 => ⟨by rw [w8 vs1 hj1, wipe_wipe], ?_⟩
      refine yesIte ?_
      refine de _ _ q8 W0 σ8 _ G8 H8 as8 ok8 acc0 _ fun z ρ9 v G9 H9 as9 q9 ok9 n9 r9 => ?_
      obtain ⟨hz, dz, rfl, hc, hI9⟩ := q9
      have n89 := n8.trans n9
      obtain ⟨l9, b9⟩ := cut_len hc
      have m9 := ok9.mem.trim _ b9
      rw [(nxt_take n89 al).1] at m9
      obtain ⟨hD9, gD9, aD9⟩ := m9.prot_in
      have rp9 := rp6.mono (s7.trans n89.g)
      have rv : Rep K G9 v dz := r9
      refine ⟨acs6, hD9, by rw [rp6.length]; exact hz, hlt1, G9, _, acs6 ++ [v], ac6 ++ [dz], hI9, l9, ?_, rp9.append (.cons rv .nil), (s6.trans s7).trans n89.g⟩
      exact (m9.unprot fD).prot upd_same gD9 aD9
    · have e : j = ys.length := by omega
      subst e
      exact .inl ⟨it1.stop H6 (s6.trans m6.gh), hlt, G6, ob6, acs6, ac6, hout ob6 ac6 hI6 hl6, hl6, m6, rp6, (s2.trans s3).trans (n45.g.trans s6)⟩
  · have e : i = xs.length := by omega
    subst e
    refine .inl ⟨it.stop H2 (s2.trans m2.gh), ?_⟩
    have m3 := m2.adopt fD rp
    have n3 : Nxt G1 as1 G2 (as1 ++ [D]) := ⟨s2, [D], rfl⟩
    refine (k.next n1) (.o ob.length) _ (.ref D) G2 H2 (as1 ++ [D]) (hd ob ac hI hl) (ok1.to m3 n3) n3 ⟨D, ?_, rfl⟩
    rw [hl, ← al]
    exact get_last _ _
theorem pd_lc2F {scope : Scope} {own : List (Str × Nat)} {wi wi1 : WI} {wg wg1 : WG} {js js1 : List Nat} (vs1 : List Nat) (hi : PDI T tg iter wi) (ok : BlkOk T.N T.sc scope own) (hg : PDG (blkT T scope) tg wg js) (hi1 : PDI (blkT T scope) tg1 iter1 wi1) (hg1 : PDG (blkT T scope) tg1 wg1 js1) (he : PD (blkT T scope) elt we)
    (hj : ∀ j ∈ js, j ∈ own.map (·.2) := by decide) (hj1 : ∀ j ∈ js1, j ∈ vs1 := by decide) (hv : ∀ j ∈ vs1, j ∈ own.map (·.2) := by decide) (hs : ∀ env x, foldedSetIterable iter env x = pure x := by intro _ _; rfl) (hs1 : ∀ env x, foldedSetIterable iter1 env x = pure x := by intro _ _; rfl) :
    PD T (.ListComp elt [⟨tg, iter, [], 0⟩, ⟨tg1, iter1, [], 0⟩] scope pos) (wLc2F wi wg wi1 wg1 we (own.map (·.2)) vs1) := by
  obtain ⟨ti, hti, di⟩ := hi
  obtain ⟨g, hg, dg⟩ := hg
  obtain ⟨ti1, hti1, di1⟩ := hi1
  obtain ⟨g1, hg1, dg1⟩ := hg1
  obtain ⟨te, he, de⟩ := he
  refine ⟨fun W => tLc2 (ti W) g tYes (ti1 W0) g1 tYes (te W0) (own.map (·.2)) vs1, fun W X gd tk => pe_lc2 gd.calm (by rw [gd.N]; exact gd.nd) (hti W X gd tk) (by rw [gd.N, gd.sc]; exact ok) hv (fun s H C cl fp => hg _ (gd.blk s H scope cl C fp))
    (fun s H C cl fp => pts_nil) (fun s H C cl fp => hti1 W0 _ (gd.blk s H scope cl C fp) takes0) (fun s H C cl fp => hg1 _ (gd.blk s H scope cl C fp)) (fun s H C cl fp => pts_nil)
    (fun s H C cl fp => he W0 _ (gd.blk s H scope cl C fp) takes0) (hs _) (hs1 := hs1), fun ρ Q X h => ?_⟩
  exact de_lc2F (K := T.K) (ti1 := ti1 W0) (te := te W0) di dg (fun ρ Q h W σ F G H as ok acc R k => di1 ρ Q X0 h W0 σ F G H as ok acc0 R k) dg1 (fun ρ Q h W σ F G H as ok acc C k => de ρ Q X0 h W0 σ F G H as ok acc0 C k) hj hj1 h
/-! ### y = [..], frozen -/
/-- the value's list is named and known from then on -/
def wAsgFT (wa : WE) (i : Nat) : WS := fun E ρ => wa ρ (fun dv ρ1 => ∃ x ρ2, frzV dv ρ1 = some (x, ρ2) ∧ okTrim ρ.ob.length ρ2 = true ∧ E.nx ⟨ρ2.sl.set i (some (.d x)), ρ2.ob.take ρ.ob.length⟩) E.xr
theorem frzV_ok {F G H : Hp} {as : List Addr} {ρ1 : S} {σ : St} {dv : DV} {v : V} {x : PyData} {ρ2 : S} (ok1 : Ok K ρ1 σ F G H as) (r1 : RepV K G as v dv) (h : frzV dv ρ1 = some (x, ρ2)) : ∃ G2, Ok K ρ2 σ F G2 H as ∧ Nxt G as G2 as ∧ Rep K G2 v x := by
  cases dv with
  | d y => cases h; exact ⟨G, ok1, Nxt.refl _ _, r1⟩
  | o n =>
    have h1 : frz ρ1 n = some (x, ρ2) := h
    unfold frz at h1
    cases e : obK ρ1 n with
    | st _ => rw [e] at h1; cases h1
    | gone => rw [e] at h1; cases h1
    | lst xs =>
      rw [e] at h1
      dsimp only at h1
      cases e2 : allD xs with
      | none => rw [e2] at h1; cases h1
      | some ds =>
        rw [e2] at h1
        cases h1
        obtain ⟨a, rfl, hk, hob, vs, hv, rr⟩ := repO ok1 r1 e (by intro z; cases z)
        have e3 := allD_eq e2
        subst e3
        have hg := ok1.mem.own n a _ hk hob (by intro z; cases z)
        have r : Rep K (upd G a (.lst vs)) (.ref a) (.list ds) := .lst (SqL.of upd_same) (rr.to.mono (same_new hg))
        obtain ⟨ok2, n2⟩ := fz_ok ok1 hk hv hg r
        exact ⟨_, ok2, n2, r⟩
    | dk kvs =>
      rw [e] at h1
      dsimp only at h1
      cases e2 : allD (kvs.map (·.2)) with
      | none => rw [e2] at h1; cases h1
      | some ds =>
        rw [e2] at h1
        cases h1
        obtain ⟨a, rfl, hk, hob, ws, hv, hm, rr⟩ := repO ok1 r1 e (by intro z; cases z)
        have e3 := allD_eq e2
        rw [e3] at rr
        have hg := ok1.mem.own n a _ hk hob (by intro z; cases z)
        have r : Rep K (upd G a (.dK ws)) (.ref a) (.dict ((kvs.map fun p => kP p.1).zip ds)) := by
          have q : Rep K (upd G a (.dK ws)) (.ref a) (.dict ((ws.map fun p => kP p.1).zip ds)) := .dK upd_same (rr.to.mono (same_new hg))
          have : (ws.map fun p => kP p.1) = kvs.map fun p => kP p.1 := by
            have := congrArg (List.map kP) hm
            rw [List.map_map, List.map_map] at this
            exact this
          rwa [this] at q
        obtain ⟨ok2, n2⟩ := fz_ok ok1 hk hv hg r
        exact ⟨_, ok2, n2, r⟩
    | dt kvs =>
      rw [e] at h1
      dsimp only at h1
      cases e2 : allD (kvs.map (·.2)) with
      | none => rw [e2] at h1; cases h1
      | some ds =>
        rw [e2] at h1
        cases h1
        obtain ⟨a, rfl, hk, hob, ws, hv, hm, rr⟩ := repO ok1 r1 e (by intro z; cases z)
        have e3 := allD_eq e2
        rw [e3] at rr
        have hg := ok1.mem.own n a _ hk hob (by intro z; cases z)
        have r : Rep K (upd G a (.dT ws)) (.ref a) (.dict ((.none, .none) :: (kvs.map fun p => .tuple (p.1.map kP)).zip ds)) := by
          have q : Rep K (upd G a (.dT ws)) (.ref a) (.dict ((.none, .none) :: (ws.map fun p => .tuple (p.1.map kP)).zip ds)) := .dT upd_same (rr.to.mono (same_new hg))
          have : (ws.map fun p => PyData.tuple (p.1.map kP)) = kvs.map fun p => .tuple (p.1.map kP) := by
            have := congrArg (List.map fun k : List Key => PyData.tuple (k.map kP)) hm
            rw [List.map_map, List.map_map] at this
            exact this
          rwa [this] at q
        obtain ⟨ok2, n2⟩ := fz_ok ok1 hk hv hg r
        exact ⟨_, ok2, n2, r⟩
theorem ds_asgFT {ta : WX → TE} {i : Nat} (da : ∀ ρ Q X, wa ρ Q X → DE K ta ρ Q X) {ρ : S} {E : DEnds} (h : wAsgFT wa i E ρ) : DS K (fun W => tAsg (ta W) (gName i)) ρ E := by
  intro W σ F G H as ok acc D l
  refine da _ _ _ h W σ F G H as ok (acc.at σ) _ fun dv ρ1 v G1 H1 as1 h1 ok1 n1 r1 => ?_
  obtain ⟨x, ρ2, hf, ht, q⟩ := h1
  obtain ⟨G2, ok2, n2, r2⟩ := frzV_ok ok1 r1 hf
  obtain ⟨_, n3⟩ := nxt_take (n1.trans n2) ok.mem.len
  have ok3 := ok2.trim ht
  have r3 : RepV K G2 (as1.take ρ.ob.length) v (.d x) := r2
  exact l.nx _ _ G2 H1 _ q (ok3.set i r3) n3
theorem pds_setLcF {y : Str} {py spos : Pos} {scope : Scope} {own : List (Str × Nat)} {wi : WI} {wg : WG} {js : List Nat} (i : Nat) (hi : PDI T tg iter wi) (ok : BlkOk T.N T.sc scope own) (hg : PDG (blkT T scope) tg wg js) (ht : PDTs (blkT T scope) ifs wt) (he : PD (blkT T scope) elt we)
    (hsw : ∀ env : Env, env.scope = T.sc → swapsWith (.ListComp elt [⟨tg, iter, ifs, 0⟩] scope pos) (some (.Name y py)) spos.line env = pure true)
    (hN : T.N[i]? = some y := by rfl) (hy : T.sc.names.lookup y = some .local := by rfl) (hj : ∀ j ∈ js, j ∈ own.map (·.2) := by decide) (hs : ∀ env x, foldedSetIterable iter env x = pure x := by intro _ _; rfl) : PDS T (.Assign [.Name y py] (.ListComp elt [⟨tg, iter, ifs, 0⟩] scope pos) spos) (wAsgFT (wLcF wi wg wt we (own.map (·.2))) i) := by
  obtain ⟨ti, hti, di⟩ := hi
  obtain ⟨g, hg, dg⟩ := hg
  obtain ⟨tt, ht, dt⟩ := ht
  obtain ⟨te, he, de⟩ := he
  refine ⟨fun W => tAsg (tLc (ti W) g tt (te W0) (own.map (·.2))) (gName i), fun W X gd tk => ps_setLc gd.calm (by rw [gd.N]; exact gd.nd) (by rw [gd.N]; exact hN) (by rw [gd.sc]; exact hy) (hsw _ gd.sc) (hti W X gd tk) (by rw [gd.N, gd.sc]; exact ok) (fun s H C cl fp => hg _ (gd.blk s H scope cl C fp))
    (fun s H C cl fp => ht _ (gd.blk s H scope cl C fp) takes0) (fun s H C cl fp => he W0 _ (gd.blk s H scope cl C fp) takes0) (hs _), fun ρ E h => ?_⟩
  exact ds_asgFT (fun ρ Q X h => de_lcF (K := T.K) (te := te W0) di dg dt (fun ρ Q h W σ F G H as ok acc C k => de ρ Q X0 h W0 σ F G H as ok acc0 C k) hj h) h
theorem pds_setLc2F {y : Str} {py spos : Pos} {scope : Scope} {own : List (Str × Nat)} {wi wi1 : WI} {wg wg1 : WG} {js js1 : List Nat} (i : Nat) (vs1 : List Nat) (hi : PDI T tg iter wi) (ok : BlkOk T.N T.sc scope own) (hg : PDG (blkT T scope) tg wg js) (hi1 : PDI (blkT T scope) tg1 iter1 wi1) (hg1 : PDG (blkT T scope) tg1 wg1 js1) (he : PD (blkT T scope) elt we)
    (hsw : ∀ env : Env, env.scope = T.sc → swapsWith (.ListComp elt [⟨tg, iter, [], 0⟩, ⟨tg1, iter1, [], 0⟩] scope pos) (some (.Name y py)) spos.line env = pure true)
    (hN : T.N[i]? = some y := by rfl) (hy : T.sc.names.lookup y = some .local := by rfl) (hj : ∀ j ∈ js, j ∈ own.map (·.2) := by decide) (hj1 : ∀ j ∈ js1, j ∈ vs1 := by decide) (hv : ∀ j ∈ vs1, j ∈ own.map (·.2) := by decide) (hs : ∀ env x, foldedSetIterable iter env x = pure x := by intro _ _; rfl) (hs1 : ∀ env x, foldedSetIterable iter1 env x = pure x := by intro _ _; rfl) :
    PDS T (.Assign [.Name y py] (.ListComp elt [⟨tg, iter, [], 0⟩, ⟨tg1, iter1, [], 0⟩] scope pos) spos) (wAsgFT (wLc2F wi wg wi1 wg1 we (own.map (·.2)) vs1) i) := by
  obtain ⟨ti, hti, di⟩ := hi
  obtain ⟨g, hg, dg⟩ := hg
  obtain ⟨ti1, hti1, di1⟩ := hi1
  obtain ⟨g1, hg1, dg1⟩ := hg1
  obtain ⟨te, he, de⟩ := he
  refine ⟨fun W => tAsg (tLc2 (ti W) g tYes (ti1 W0) g1 tYes (te W0) (own.map (·.2)) vs1) (gName i), fun W X gd tk => ps_setLc2 gd.calm (by rw [gd.N]; exact gd.nd) (by rw [gd.N]; exact hN) (by rw [gd.sc]; exact hy) (hsw _ gd.sc) (hti W X gd tk) (by rw [gd.N, gd.sc]; exact ok) hv (fun s H C cl fp => hg _ (gd.blk s H scope cl C fp))
    (fun s H C cl fp => pts_nil) (fun s H C cl fp => hti1 W0 _ (gd.blk s H scope cl C fp) takes0) (fun s H C cl fp => hg1 _ (gd.blk s H scope cl C fp)) (fun s H C cl fp => pts_nil)
    (fun s H C cl fp => he W0 _ (gd.blk s H scope cl C fp) takes0) (hs _) (hs1 := hs1), fun ρ E h => ?_⟩
  exact ds_asgFT (fun ρ Q X h => de_lc2F (K := T.K) (ti1 := ti1 W0) (te := te W0) di dg (fun ρ Q h W σ F G H as ok acc R k => di1 ρ Q X0 h W0 σ F G H as ok acc0 R k) dg1 (fun ρ Q h W σ F G H as ok acc C k => de ρ Q X0 h W0 σ F G H as ok acc0 C k) hj hj1 h) h
/-! ### while -/
def wWhile (wt : WT) (wb : WS) : WS := fun E ρ => ∃ I : Nat → S → Prop, (∃ m, I m ρ) ∧ ∀ m ρ, I m ρ → wt ρ (fun b ρ1 => match b with
  | true => wb { E with nx := fun ρ' => ∃ m', m' < m ∧ I m' ρ', ct := fun ρ' => ∃ m', m' < m ∧ I m' ρ', bk := E.nx } ρ1
  | false => E.nx ρ1) E.xr
theorem pds_while {body : List Stmt} {wb : WS} (hc : PDT T c wt) (hb : PDSs T body wb) : PDS T (.While c body [] pos) (wWhile wt wb) := by
  obtain ⟨tc, htc, dc⟩ := hc
  obtain ⟨tb, htb, db⟩ := hb
  refine ⟨fun W => tWhile (tc W) (tb W), fun W X gd tk => ps_while gd.po (htc W X gd tk) (htb W X gd tk), fun ρ E h W σ F G H as ok acc D l => ?_⟩
  obtain ⟨I, ⟨m0, i0⟩, hst⟩ := h
  refine ⟨fun m σ H => ∃ ρ' G' as', I m ρ' ∧ Ok T.K ρ' σ F G' H as' ∧ Nxt G as G' as', ⟨m0, ρ, G, as, i0, ok, Nxt.refl _ _⟩, ?_⟩
  rintro m σ2 H2 ⟨ρ2, G2, as2, hI, ok2, n2⟩
  refine dc _ _ _ (hst m ρ2 hI) W σ2 F G2 H2 as2 ok2 ((acc.next n2).at σ2) _ fun b ρ3 G3 H3 as3 q3 ok3 n3 => ?_
  have n23 := n2.trans n3
  cases b with
  | true =>
    rw [if_pos rfl]
    refine ⟨fun σ' H' => ∃ m', m' < m ∧ ∃ ρ' G' as', I m' ρ' ∧ Ok T.K ρ' σ' F G' H' as' ∧ Nxt G as G' as', fun σ' H' h => h, ?_⟩
    refine db _ _ q3 W σ2 F G3 H3 as3 ok3 (acc.next n23) _ ⟨?_, ?_, ?_, ?_⟩
    · rintro ρ' σ' G' H' as' ⟨m', hm, hI'⟩ o n
      exact ⟨m', hm, ρ', G', as', hI', o, n23.trans n⟩
    · exact fun dv ρ' σ' v G' H' as' q o n r => l.rt dv ρ' σ' v G' H' as' q o (n23.trans n) r
    · exact fun ρ' σ' G' H' as' q o n => l.nx ρ' σ' G' H' as' q o (n23.trans n)
    · rintro ρ' σ' G' H' as' ⟨m', hm, hI'⟩ o n
      exact ⟨m', hm, ρ', G', as', hI', o, n23.trans n⟩
  | false =>
    rw [if_neg Bool.false_ne_true]
    exact l.nx ρ3 σ2 G3 H3 as3 q3 ok3 n23
end
end DL
end

section
set_option Elab.async false
set_option linter.all false
set_option maxRecDepth 100000
set_option maxHeartbeats 1000000
set_option autoImplicit false
namespace FL
open PySem PySem.Spec PyProof.Rows L2 DL
variable [Tab0]
section
variable {cl : Str → Addr} {α β : Type} {ma mb mc : M DV} {wa wb wc : WE} {mt mu : M Bool} {wt wu : WT} {m : M (List DV)} {w : WA} {sa sb : M Flow} {va vb : WS}
/-- a value frozen, what was made on the way forgotten -/
def mFT (a : M DV) : M DV := fun ρ => mbind a (fun dv ρ1 => match FL.frzV dv ρ1 with
  | some p => if okTrim ρ.ob.length p.2 then .ok (.d p.1) ⟨p.2.sl, p.2.ob.take ρ.ob.length⟩ else .bad
  | none => .bad) ρ
theorem im_ft (ha : ImE cl ma wa) : ImE cl (mFT ma) (wFT wa) := by
  intro ρ Q X h
  have h : wpM cl (mbind ma fun dv ρ1 => match FL.frzV dv ρ1 with
    | some p => if okTrim ρ.ob.length p.2 then .ok (.d p.1) ⟨p.2.sl, p.2.ob.take ρ.ob.length⟩ else .bad
    | none => .bad) ρ Q X := h
  rw [wpM_bind] at h
  refine ha _ _ _ (wpM_mono h fun x ρ1 h1 => ?_)
  unfold wpM at h1
  dsimp only at h1
  cases x with
  | d x =>
    dsimp only [FL.frzV] at h1 ⊢
    by_cases ht : okTrim ρ.ob.length ρ1 = true
    · rw [if_pos ht] at h1
      exact ⟨ht, rfl, h1⟩
    · rw [if_neg ht] at h1
      exact h1.elim
  | o k =>
    dsimp only [FL.frzV] at h1 ⊢
    cases e : frz ρ1 k with
    | none => rw [e] at h1; exact h1.elim
    | some p =>
      rw [e] at h1
      dsimp only at h1 ⊢
      by_cases ht : okTrim ρ.ob.length p.2 = true
      · rw [if_pos ht] at h1
        exact ⟨ht, rfl, h1⟩
      · rw [if_neg ht] at h1
        exact h1.elim
/-! ### list comprehensions -/
def lcGo (sl : List (Option DV)) (n : Nat) (g : DV → M Unit) (t : M Bool) (e : M DV) : List PyData → List OB → List PyData → R (List OB × List PyData)
  | [], ob, acc => .ok (ob, acc) ⟨[], []⟩
  | x :: r, ob, acc => match g (.d x) ⟨sl, ob⟩ with
    | .ok _ ρ2 => match t ρ2 with
      | .ok true ρ3 => match e ρ3 with
        | .ok (.d dy) ρ4 => if acc.length < sizeLine then if okCut n ρ4.ob then lcGo sl n g t e r (ρ4.ob.take n) (acc ++ [dy]) else .bad else .bad
        | _ => .bad
      | .ok false ρ3 => if okCut n ρ3.ob then lcGo sl n g t e r (ρ3.ob.take n) acc else .bad
      | _ => .bad
    | _ => .bad
def mLcF (i : M (List PyData)) (g : DV → M Unit) (t : M Bool) (e : M DV) (vs : List Nat) : M DV := mbind i fun xs ρ1 => match lcGo (wipeS ρ1.sl vs) ρ1.ob.length g t e xs ρ1.ob [] with
  | .ok p _ => if p.1.length = ρ1.ob.length then .ok (.o ρ1.ob.length) ⟨ρ1.sl, p.1 ++ [.lst (p.2.map .d)]⟩ else .bad
  | _ => .bad
def mYes : M Bool := mret true
theorem im_yes : ImT cl mYes wYes := fun _ _ _ h => h
theorem im_lcF {i : M (List PyData)} {wi : WI} {g : DV → M Unit} {wg : WG} {vs : List Nat} (hi : ImI cl i wi) (hg : ImG cl g wg) (ht : ImT cl mt wt) (he : ImE cl ma wa) : ImE cl (mLcF i g mt ma vs) (wLcF wi wg wt wa vs) := by
  intro ρ Q X h
  unfold mLcF at h
  rw [wpM_bind] at h
  refine hi _ _ _ (wpM_mono h fun xs ρ1 h1 => ?_)
  unfold wpM at h1
  dsimp only at h1
  refine ⟨fun k ob acc => match lcGo (wipeS ρ1.sl vs) ρ1.ob.length g mt ma (xs.drop k) ob acc with
    | .ok p _ => p.1.length = ρ1.ob.length ∧ Q (.o ρ1.ob.length) ⟨ρ1.sl, p.1 ++ [.lst (p.2.map .d)]⟩
    | _ => False, ?_, ?_, ?_⟩
  · try dsimp only
    rw [List.drop_zero]
    cases e : lcGo (wipeS ρ1.sl vs) ρ1.ob.length g mt ma xs ρ1.ob [] with
    | ok p ρ2 =>
      rw [e] at h1
      dsimp only at h1 ⊢
      by_cases hl : p.1.length = ρ1.ob.length
      · rw [if_pos hl] at h1; exact ⟨hl, h1⟩
      · rw [if_neg hl] at h1; exact h1.elim
    | exc x ρ2 => rw [e] at h1; exact h1.elim
    | bad => rw [e] at h1; exact h1.elim
  · intro k x ob acc hk hI hl
    have hd : xs.drop k = x :: xs.drop (k + 1) := by
      obtain ⟨hk, e⟩ := List.getElem?_eq_some_iff.mp hk
      rw [List.drop_eq_getElem_cons hk, e]
    try dsimp only at hI
    rw [hd] at hI
    unfold lcGo at hI
    refine hg _ _ _ ?_
    unfold wpM
    cases e1 : g (.d x) ⟨wipeS ρ1.sl vs, ob⟩ with
    | exc y ρ2 => rw [e1] at hI; exact hI.elim
    | bad => rw [e1] at hI; exact hI.elim
    | ok u ρ2 =>
      rw [e1] at hI
      dsimp only at hI ⊢
      refine ht _ _ _ ?_
      unfold wpM
      cases e2 : mt ρ2 with
      | exc y ρ3 => rw [e2] at hI; exact hI.elim
      | bad => rw [e2] at hI; exact hI.elim
      | ok b ρ3 =>
        rw [e2] at hI
        cases b with
        | false =>
          dsimp only at hI ⊢
          by_cases hc : okCut ρ1.ob.length ρ3.ob = true
          · rw [if_pos hc] at hI
            exact ⟨hc, hI⟩
          · rw [if_neg hc] at hI
            exact hI.elim
        | true =>
          dsimp only at hI ⊢
          refine he _ _ _ ?_
          unfold wpM
          cases e3 : ma ρ3 with
          | exc y ρ4 => rw [e3] at hI; exact hI.elim
          | bad => rw [e3] at hI; exact hI.elim
          | ok dv ρ4 =>
            rw [e3] at hI
            cases dv with
            | o j => exact hI.elim
            | d dy =>
              dsimp only at hI ⊢
              by_cases hz : acc.length < sizeLine
              · rw [if_pos hz] at hI
                by_cases hc : okCut ρ1.ob.length ρ4.ob = true
                · rw [if_pos hc] at hI
                  exact ⟨hz, dy, rfl, hc, hI⟩
                · rw [if_neg hc] at hI
                  exact hI.elim
              · rw [if_neg hz] at hI
                exact hI.elim
  · intro ob acc hI hl
    try dsimp only at hI
    rw [List.drop_length] at hI
    have hI : ob.length = ρ1.ob.length ∧ Q (.o ρ1.ob.length) ⟨ρ1.sl, ob ++ [.lst (acc.map .d)]⟩ := hI
    rw [hl]
    exact hI.2
def lc2In (sl : List (Option DV)) (n : Nat) (g : DV → M Unit) (e : M DV) : List PyData → List OB → List PyData → R (List OB × List PyData)
  | [], ob, acc => .ok (ob, acc) ⟨[], []⟩
  | x :: r, ob, acc => match g (.d x) ⟨sl, ob⟩ with
    | .ok _ ρ2 => match e ρ2 with
        | .ok (.d dy) ρ4 => if acc.length < sizeLine then if okCut n ρ4.ob then lc2In sl n g e r (ρ4.ob.take n) (acc ++ [dy]) else .bad else .bad
        | _ => .bad
    | _ => .bad
def lc2Go (sl : List (Option DV)) (n : Nat) (g : DV → M Unit) (i1 : M (List PyData)) (g1 : DV → M Unit) (e : M DV) (vs1 : List Nat) : List PyData → List OB → List PyData → R (List OB × List PyData)
  | [], ob, acc => .ok (ob, acc) ⟨[], []⟩
  | x :: r, ob, acc => match g (.d x) ⟨sl, ob⟩ with
    | .ok _ ρ2 => match i1 ρ2 with
      | .ok ys ρ3 => if okTrim n ρ3 then match lc2In (wipeS ρ3.sl vs1) n g1 e ys (ρ3.ob.take n) acc with
        | .ok p _ => if p.1.length = n then lc2Go sl n g i1 g1 e vs1 r p.1 p.2 else .bad
        | _ => .bad else .bad
      | _ => .bad
    | _ => .bad
def mLc2F (i : M (List PyData)) (g : DV → M Unit) (i1 : M (List PyData)) (g1 : DV → M Unit) (e : M DV) (vs vs1 : List Nat) : M DV := mbind i fun xs ρ1 => match lc2Go (wipeS ρ1.sl vs) ρ1.ob.length g i1 g1 e vs1 xs ρ1.ob [] with
  | .ok p _ => if p.1.length = ρ1.ob.length then .ok (.o ρ1.ob.length) ⟨ρ1.sl, p.1 ++ [.lst (p.2.map .d)]⟩ else .bad
  | _ => .bad
theorem im_lc2F {i i1 : M (List PyData)} {wi wi1 : WI} {g g1 : DV → M Unit} {wg wg1 : WG} {vs vs1 : List Nat} (hi : ImI cl i wi) (hg : ImG cl g wg) (hi1 : ImI cl i1 wi1) (hg1 : ImG cl g1 wg1) (he : ImE cl ma wa) : ImE cl (mLc2F i g i1 g1 ma vs vs1) (wLc2F wi wg wi1 wg1 wa vs vs1) := by
  intro ρ Q X h
  unfold mLc2F at h
  rw [wpM_bind] at h
  refine hi _ _ _ (wpM_mono h fun xs ρ1 h1 => ?_)
  unfold wpM at h1
  dsimp only at h1
  refine ⟨fun k ob acc => match lc2Go (wipeS ρ1.sl vs) ρ1.ob.length g i1 g1 ma vs1 (xs.drop k) ob acc with
    | .ok p _ => p.1.length = ρ1.ob.length ∧ Q (.o ρ1.ob.length) ⟨ρ1.sl, p.1 ++ [.lst (p.2.map .d)]⟩
    | _ => False, ?_, ?_, ?_⟩
  · try dsimp only
    rw [List.drop_zero]
    cases e : lc2Go (wipeS ρ1.sl vs) ρ1.ob.length g i1 g1 ma vs1 xs ρ1.ob [] with
    | ok p ρ2 =>
      rw [e] at h1
      dsimp only at h1 ⊢
      by_cases hl : p.1.length = ρ1.ob.length
      · rw [if_pos hl] at h1; exact ⟨hl, h1⟩
      · rw [if_neg hl] at h1; exact h1.elim
    | exc x ρ2 => rw [e] at h1; exact h1.elim
    | bad => rw [e] at h1; exact h1.elim
  · intro k x ob acc hk hI hl
    have hd : xs.drop k = x :: xs.drop (k + 1) := by
      obtain ⟨hk, e⟩ := List.getElem?_eq_some_iff.mp hk
      rw [List.drop_eq_getElem_cons hk, e]
    try dsimp only at hI
    rw [hd] at hI
    unfold lc2Go at hI
    refine hg _ _ _ ?_
    unfold wpM
    cases e1 : g (.d x) ⟨wipeS ρ1.sl vs, ob⟩ with
    | exc y ρ2 => rw [e1] at hI; exact hI.elim
    | bad => rw [e1] at hI; exact hI.elim
    | ok u ρ2 =>
      rw [e1] at hI
      dsimp only at hI ⊢
      refine hi1 _ _ _ ?_
      unfold wpM
      cases e2 : i1 ρ2 with
      | exc y ρ3 => rw [e2] at hI; exact hI.elim
      | bad => rw [e2] at hI; exact hI.elim
      | ok ys ρ3 =>
        rw [e2] at hI
        dsimp only at hI ⊢
        by_cases htr : okTrim ρ1.ob.length ρ3 = true
        · rw [if_pos htr] at hI
          refine ⟨htr, fun j ob acc => match lc2In (wipeS ρ3.sl vs1) ρ1.ob.length g1 ma (ys.drop j) ob acc with
            | .ok p _ => p.1.length = ρ1.ob.length ∧ match lc2Go (wipeS ρ1.sl vs) ρ1.ob.length g i1 g1 ma vs1 (xs.drop (k + 1)) p.1 p.2 with
              | .ok p _ => p.1.length = ρ1.ob.length ∧ Q (.o ρ1.ob.length) ⟨ρ1.sl, p.1 ++ [.lst (p.2.map .d)]⟩
              | _ => False
            | _ => False, ?_, ?_, ?_⟩
          · try dsimp only
            rw [List.drop_zero]
            cases e3 : lc2In (wipeS ρ3.sl vs1) ρ1.ob.length g1 ma ys (ρ3.ob.take ρ1.ob.length) acc with
            | ok p ρ4 =>
              rw [e3] at hI
              dsimp only at hI ⊢
              by_cases hl : p.1.length = ρ1.ob.length
              · rw [if_pos hl] at hI; exact ⟨hl, hI⟩
              · rw [if_neg hl] at hI; exact hI.elim
            | exc y ρ4 => rw [e3] at hI; exact hI.elim
            | bad => rw [e3] at hI; exact hI.elim
          · intro j y ob' acc' hj hI1 hl1
            have hd1 : ys.drop j = y :: ys.drop (j + 1) := by
              obtain ⟨hj, e⟩ := List.getElem?_eq_some_iff.mp hj
              rw [List.drop_eq_getElem_cons hj, e]
            try dsimp only at hI1
            rw [hd1] at hI1
            unfold lc2In at hI1
            refine hg1 _ _ _ ?_
            unfold wpM
            cases e4 : g1 (.d y) ⟨wipeS ρ3.sl vs1, ob'⟩ with
            | exc y ρ2 => rw [e4] at hI1; exact hI1.elim
            | bad => rw [e4] at hI1; exact hI1.elim
            | ok u ρ5 =>
              rw [e4] at hI1
              dsimp only at hI1 ⊢
              refine he _ _ _ ?_
              unfold wpM
              cases e5 : ma ρ5 with
              | exc y ρ4 => rw [e5] at hI1; exact hI1.elim
              | bad => rw [e5] at hI1; exact hI1.elim
              | ok dv ρ6 =>
                rw [e5] at hI1
                cases dv with
                | o j => exact hI1.elim
                | d dy =>
                  dsimp only at hI1 ⊢
                  by_cases hz : acc'.length < sizeLine
                  · rw [if_pos hz] at hI1
                    by_cases hc : okCut ρ1.ob.length ρ6.ob = true
                    · rw [if_pos hc] at hI1
                      exact ⟨hz, dy, rfl, hc, hI1⟩
                    · rw [if_neg hc] at hI1
                      exact hI1.elim
                  · rw [if_neg hz] at hI1
                    exact hI1.elim
          · intro ob' acc' hI1 hl1
            try dsimp only at hI1 ⊢
            rw [List.drop_length] at hI1
            exact hI1.2
        · rw [if_neg htr] at hI
          exact hI.elim
  · intro ob acc hI hl
    try dsimp only at hI
    rw [List.drop_length] at hI
    have hI : ob.length = ρ1.ob.length ∧ Q (.o ρ1.ob.length) ⟨ρ1.sl, ob ++ [.lst (acc.map .d)]⟩ := hI
    rw [hl]
    exact hI.2
def sAsgFT (a : M DV) (i : Nat) : M Flow := fun ρ => mbind a (fun dv ρ1 => match FL.frzV dv ρ1 with
  | some p => if okTrim ρ.ob.length p.2 then .ok .nx ⟨p.2.sl.set i (some (.d p.1)), p.2.ob.take ρ.ob.length⟩ else .bad
  | none => .bad) ρ
theorem is_asgFT {i : Nat} (ha : ImE cl ma wa) : ImS cl (sAsgFT ma i) (wAsgFT wa i) := by
  intro E ρ h
  have h : wpS cl (mbind ma fun dv ρ1 => match FL.frzV dv ρ1 with
    | some p => if okTrim ρ.ob.length p.2 then .ok .nx ⟨p.2.sl.set i (some (.d p.1)), p.2.ob.take ρ.ob.length⟩ else .bad
    | none => .bad) E ρ := h
  rw [wpS_bind] at h
  refine ha _ _ _ (wpM_mono h fun x ρ1 h1 => ?_)
  unfold wpS at h1
  dsimp only at h1
  have e0 : FL.frzV x ρ1 = DL.frzV x ρ1 := by cases x <;> rfl
  rw [e0] at h1
  cases e : DL.frzV x ρ1 with
  | none => rw [e] at h1; exact h1.elim
  | some p =>
    rw [e] at h1
    dsimp only at h1
    by_cases ht : okTrim ρ.ob.length p.2 = true
    · rw [if_pos ht] at h1
      exact ⟨p.1, p.2, rfl, ht, h1⟩
    · rw [if_neg ht] at h1
      exact h1.elim
/-! ### while, so many turns at most -/
def whGo (t : M Bool) (b : M Flow) : Nat → M Flow
  | 0 => mbad
  | n + 1 => mbind t fun x => match x with
    | true => mbind b fun f => match f with
      | .nx => whGo t b n
      | .ct => whGo t b n
      | .bk => mret .nx
      | .rt v => mret (.rt v)
    | false => mret .nx
theorem is_while {n : Nat} (ht : ImT cl mt wt) (hb : ImS cl sb vb) : ImS cl (whGo mt sb n) (wWhile wt vb) := by
  intro E ρ h
  refine ⟨fun m ρ' => wpS cl (whGo mt sb m) E ρ', ⟨n, h⟩, fun m ρ' h => ?_⟩
  cases m with
  | zero => exact h.elim
  | succ m =>
    unfold whGo at h
    rw [wpS_bind] at h
    refine ht _ _ _ (wpM_mono h fun b ρ1 h1 => ?_)
    cases b with
    | false => exact h1
    | true =>
      have h1 : wpS cl (mbind sb fun f => match f with
        | .nx => whGo mt sb m
        | .ct => whGo mt sb m
        | .bk => mret .nx
        | .rt v => mret (.rt v)) E ρ1 := h1
      rw [wpS_bind] at h1
      refine hb _ _ ?_
      unfold wpM at h1
      unfold wpS
      cases e : sb ρ1 with
      | ok f ρ3 =>
        rw [e] at h1
        cases f with
        | nx => exact ⟨m, Nat.lt_succ_self m, h1⟩
        | ct => exact ⟨m, Nat.lt_succ_self m, h1⟩
        | bk => exact h1
        | rt v => exact h1
      | exc y ρ3 => rw [e] at h1; exact h1
      | bad => rw [e] at h1; exact h1
/-! ### raise -/
def oneD : List DV → Option PyData
  | [.d y] => some y
  | _ => none
theorem oneD_eq {xs : List DV} {y : PyData} (h : oneD xs = some y) : xs = [.d y] := by
  unfold oneD at h
  split at h <;> cases h
  rfl
def sRaise (c : Str) (f : Str) (m : M (List DV)) : M Flow := mbind m fun xs ρ => match oneD xs with
  | some y => .exc ⟨c, some [(f, y)]⟩ ρ
  | none => .bad
theorem is_raise {c f : Str} {C : Addr} (hc : cl c = C) (hm : ImA cl m w) : ImS cl (sRaise c f m) (wRaiseE C f w) := by
  intro E ρ h
  unfold sRaise at h
  rw [wpS_bind] at h
  refine hm _ _ _ (wpM_mono h fun xs ρ1 h1 => ?_)
  unfold wpS at h1
  dsimp only at h1
  cases e : oneD xs with
  | none => rw [e] at h1; exact h1.elim
  | some y =>
    rw [e] at h1
    rw [oneD_eq e]
    subst hc
    exact h1
/-! ### the deck -/
structure Dk where
  ka : Str
  kb : Str
  kc : Str
  m : Int
  d : Int
  c : List Int
def deckK (k : Dk) : OB := .dk [(.inr k.ka, .o 1), (.inr k.kb, .d (.int k.m)), (.inr k.kc, .d (.int k.d))]
def dkO (k : Dk) : List OB := [deckK k, cellsO k.c]
def rdInts : List DV → Option (List Int)
  | [] => some []
  | .d (.int i) :: r => (rdInts r).map (i :: ·)
  | _ :: _ => none
theorem rdInts_map (l : List Int) : rdInts ((l.map PyData.int).map .d) = some l := by
  induction l with
  | nil => rfl
  | cons x r ih =>
    show (rdInts ((r.map PyData.int).map .d)).map (x :: ·) = _
    rw [ih]
    rfl
theorem rdInts_eq : ∀ {l : List DV} {c : List Int}, rdInts l = some c → l = (c.map PyData.int).map .d
  | [], c, h => by cases h; rfl
  | .d (.int i) :: r, c, h => by
    obtain ⟨l, e, rfl⟩ := Option.map_eq_some_iff.mp (show (rdInts r).map (i :: ·) = some c from h)
    rw [rdInts_eq e]
    rfl
/-- the first two objects as a deck -/
def rdDk : List OB → Option (Dk × List OB)
  | .dk [(.inr a, .o n), (.inr b, .d (.int m)), (.inr c, .d (.int d))] :: .lst cs :: rs => if n = 1 then (rdInts cs).map fun l => (⟨a, b, c, m, d, l⟩, rs) else none
  | _ => none
theorem rdDk_mk (k : Dk) (rs : List OB) : rdDk (dkO k ++ rs) = some (k, rs) := by
  show (if (1 : Nat) = 1 then (rdInts ((k.c.map PyData.int).map .d)).map fun l => (Dk.mk k.ka k.kb k.kc k.m k.d l, rs) else none) = _
  rw [if_pos rfl, rdInts_map]
  rfl
theorem rdDk_eq {ob : List OB} {k : Dk} {rs : List OB} (h : rdDk ob = some (k, rs)) : ob = dkO k ++ rs := by
  unfold rdDk at h
  split at h
  · split at h
    · rename_i hs
      obtain ⟨l, e, q⟩ := Option.map_eq_some_iff.mp h
      cases q
      rw [rdInts_eq e, hs]
      rfl
    · cases h
  · cases h
/-- a promise: a deck and data in, a deck and data out -/
def dkR (n : Nat) (f : Dk → List PyData → RV (PyData × Dk)) : DSp := fun dvs ob R X => ∃ (ds : List PyData) (k : Dk), dvs = .o 0 :: ds.map .d ∧ ds.length = n ∧ ob = dkO k ∧ match f k ds with
  | .ok p => ∀ rs, R (.d p.1) (dkO p.2 ++ rs)
  | _ => False
theorem dkR_len {n : Nat} {f : Dk → List PyData → RV (PyData × Dk)} : ∀ (ys : List DV) (ob : List OB) (R : DV → List OB → Prop) (X : XD → List OB → Prop), dkR n f ys ob R X → ys.length = n + 1 := by
  rintro ys ob R X ⟨ds, k, rfl, h, _⟩
  rw [List.length_cons, List.length_map, h]
def ArityD (n : Nat) (f : Dk → List PyData → RV (PyData × Dk)) : Prop := ∀ k ds, f k ds ≠ .bad → (∀ x, f k ds ≠ .exc x) → ds.length = n
def curD0 (f : Dk → RV (PyData × Dk)) : Dk → List PyData → RV (PyData × Dk)
  | k, [] => f k
  | _, _ => .bad
def curD1 (f : Dk → PyData → RV (PyData × Dk)) : Dk → List PyData → RV (PyData × Dk)
  | k, [a] => f k a
  | _, _ => .bad
def curD2 (f : Dk → PyData → PyData → RV (PyData × Dk)) : Dk → List PyData → RV (PyData × Dk)
  | k, [a, b] => f k a b
  | _, _ => .bad
def curD3 (f : Dk → PyData → PyData → PyData → RV (PyData × Dk)) : Dk → List PyData → RV (PyData × Dk)
  | k, [a, b, c] => f k a b c
  | _, _ => .bad
def curD4 (f : Dk → PyData → PyData → PyData → PyData → RV (PyData × Dk)) : Dk → List PyData → RV (PyData × Dk)
  | k, [a, b, c, d] => f k a b c d
  | _, _ => .bad
def curD5 (f : Dk → PyData → PyData → PyData → PyData → PyData → RV (PyData × Dk)) : Dk → List PyData → RV (PyData × Dk)
  | k, [a, b, c, d, e] => f k a b c d e
  | _, _ => .bad
def curD6 (f : Dk → PyData → PyData → PyData → PyData → PyData → PyData → RV (PyData × Dk)) : Dk → List PyData → RV (PyData × Dk)
  | k, [a, b, c, d, e, g] => f k a b c d e g
  | _, _ => .bad
theorem arD0 {f : Dk → RV (PyData × Dk)} : ArityD 0 (curD0 f) := fun k ds h _ => by
  unfold curD0 at h; split at h <;> first | rfl | exact (h rfl).elim
theorem arD1 {f : Dk → PyData → RV (PyData × Dk)} : ArityD 1 (curD1 f) := fun k ds h _ => by
  unfold curD1 at h; split at h <;> first | rfl | exact (h rfl).elim
theorem arD2 {f : Dk → PyData → PyData → RV (PyData × Dk)} : ArityD 2 (curD2 f) := fun k ds h _ => by
  unfold curD2 at h; split at h <;> first | rfl | exact (h rfl).elim
theorem arD3 {f : Dk → PyData → PyData → PyData → RV (PyData × Dk)} : ArityD 3 (curD3 f) := fun k ds h _ => by
  unfold curD3 at h; split at h <;> first | rfl | exact (h rfl).elim
theorem arD4 {f : Dk → PyData → PyData → PyData → PyData → RV (PyData × Dk)} : ArityD 4 (curD4 f) := fun k ds h _ => by
  unfold curD4 at h; split at h <;> first | rfl | exact (h rfl).elim
theorem arD5 {f : Dk → PyData → PyData → PyData → PyData → PyData → RV (PyData × Dk)} : ArityD 5 (curD5 f) := fun k ds h _ => by
  unfold curD5 at h; split at h <;> first | rfl | exact (h rfl).elim
theorem arD6 {f : Dk → PyData → PyData → PyData → PyData → PyData → PyData → RV (PyData × Dk)} : ArityD 6 (curD6 f) := fun k ds h _ => by
  unfold curD6 at h; split at h <;> first | rfl | exact (h rfl).elim
def dkArg : List DV → Option (List PyData)
  | .o n :: r => if n = 0 then allD r else none
  | _ => none
theorem dkArg_eq {xs : List DV} {ds : List PyData} (h : dkArg xs = some ds) : xs = .o 0 :: ds.map .d := by
  unfold dkArg at h
  split at h
  · split at h
    · rename_i h0
      rw [h0, allD_eq h]
    · cases h
  · cases h
/-- a call that has the deck as its first argument -/
def mCallD (f : Dk → List PyData → RV (PyData × Dk)) (m : M (List DV)) : M DV := mbind m fun xs ρ => match dkArg xs with
  | some ds => match rdDk ρ.ob with
    | some q => match f q.1 ds with
      | .ok p => .ok (.d p.1) ⟨ρ.sl, dkO p.2 ++ q.2⟩
      | _ => .bad
    | none => .bad
  | none => .bad
theorem bel_dk (k : Dk) : (dkO k).all (belB 2) = true := by
  show (belB 2 (deckK k) && (belB 2 (cellsO k.c) && true)) = true
  rw [bel_cells]
  rfl
theorem take_dk (k : Dk) (rs : List OB) : (dkO k ++ rs).take 2 = dkO k := rfl
theorem drop_dk (k : Dk) (rs : List OB) : (dkO k ++ rs).drop 2 = rs := rfl
theorem all_bel' (n : Nat) (h : 0 < n) (ds : List PyData) : (DV.o 0 :: ds.map DV.d).all (belV n) = true := by
  rw [List.all_cons, all_bel]
  show (decide (0 < n) && true) = true
  rw [decide_eq_true h]
  rfl
theorem im_callD {n : Nat} {f : Dk → List PyData → RV (PyData × Dk)} (hn : ArityD n f) (hm : ImA cl m w) : ImE cl (mCallD f m) (wCall 2 (dkR n f) w) := by
  intro ρ Q X h
  unfold mCallD at h
  rw [wpM_bind] at h
  refine hm _ _ _ (wpM_mono h fun xs ρ1 h1 => ?_)
  unfold wpM at h1
  dsimp only at h1
  cases e1 : dkArg xs with
  | none => rw [e1] at h1; exact h1.elim
  | some ds =>
    rw [e1] at h1
    dsimp only at h1
    cases e2 : rdDk ρ1.ob with
    | none => rw [e2] at h1; exact h1.elim
    | some q =>
      obtain ⟨k, rs⟩ := q
      rw [e2] at h1
      dsimp only at h1
      have eo := rdDk_eq e2
      cases e3 : f k ds with
      | exc x => rw [e3] at h1; exact h1.elim
      | bad => rw [e3] at h1; exact h1.elim
      | ok p =>
        rw [e3] at h1
        dsimp only at h1
        rw [dkArg_eq e1]
        refine ⟨all_bel' 2 (by decide) ds, by rw [eo]; exact Nat.le_add_left 2 _, by rw [eo, take_dk]; exact bel_dk k, ds, k, rfl, hn k ds (by rw [e3]; intro z; cases z) (fun x => by rw [e3]; intro z; cases z), by rw [eo, take_dk], ?_⟩
        rw [e3]
        intro rs'
        refine ⟨rfl, Nat.le_add_left 2 _, by rw [take_dk]; exact bel_dk p.2, ?_⟩
        rw [take_dk, eo, drop_dk]
        exact h1
/-- a def with a deck, run -/
def runD (n : Nat) (b : M Flow) (k : Dk) (args : List PyData) : RV (PyData × Dk) := match b ⟨some (.o 0) :: (args.map (fun x => some (.d x)) ++ List.replicate (n - (args.length + 1)) none), dkO k⟩ with
  | .ok .nx ρ => match rdDk ρ.ob with
    | some (k', _) => .ok (.none, k')
    | none => .bad
  | .ok (.rt (.d y)) ρ => match rdDk ρ.ob with
    | some (k', _) => .ok (y, k')
    | none => .bad
  | _ => .bad
theorem start_dk (N : List Str) (ds : List PyData) : startS N (.o 0 :: ds.map .d) = some (.o 0) :: (ds.map (fun x => some (.d x)) ++ List.replicate (N.length - (ds.length + 1)) none) := by
  unfold startS
  rw [List.map_cons, List.map_map, List.length_cons, List.length_map]
  rfl
theorem mk_dk {P : Program} {w0 : World} {K : PySem.W.Frag} {mg : Str → Option Value} {base : Heap} {k : Nat} {x : Str} {st : Stmt} {N : List Str} {p0 : Str} {ps : List Str} {f : Dk → List PyData → RV (PyData × Dk)} {b : M Flow} {w : WS} (h : Hd K mg x st (p0 :: ps)) (S : FnScope N (p0 :: ps) (defScope st))
    (hb : PDSs ⟨P, w0, K, mg, base, N, defScope st, k, true⟩ (defBody st) w) (im : ImS cl b w) (hf : ∀ k ds, f k ds ≠ .bad → f k ds = runD N.length b k ds) : DefG P w0 K mg base (k + 1) x st (p0 :: ps) (dkR ps.length f) := by
  refine mk_def h S dkR_len hb ?_
  rintro dvs ob R X ⟨ds, k, rfl, hl, rfl, hr⟩ sl e
  rw [start_dk] at e
  refine im _ _ ?_
  have hn : f k ds ≠ .bad := fun e => by rw [e] at hr; exact hr
  rw [hf k ds hn] at hr
  unfold runD at hr
  rw [e] at hr
  unfold wpS
  cases e2 : b ⟨sl, dkO k⟩ with
  | ok f ρ' =>
    rw [e2] at hr
    cases f with
    | nx =>
      dsimp only at hr
      cases e3 : rdDk ρ'.ob with
      | none => rw [e3] at hr; exact hr.elim
      | some p =>
        obtain ⟨k', rs⟩ := p
        rw [e3] at hr
        show R (.d .none) ρ'.ob
        rw [rdDk_eq e3]
        exact hr rs
    | rt v =>
      cases v with
      | d y =>
        dsimp only at hr
        cases e3 : rdDk ρ'.ob with
        | none => rw [e3] at hr; exact hr.elim
        | some p =>
          obtain ⟨k', rs⟩ := p
          rw [e3] at hr
          show R (.d y) ρ'.ob
          rw [rdDk_eq e3]
          exact hr rs
      | o k => exact hr.elim
    | bk => exact hr.elim
    | ct => exact hr.elim
  | exc y ρ' =>
    rw [e2] at hr
    exact hr.elim
  | bad =>
    rw [e2] at hr
    exact hr.elim
end
end FL
end

section
set_option Elab.async false
set_option linter.all false
set_option maxRecDepth 100000
set_option maxHeartbeats 1000000
set_option autoImplicit false
namespace DL
open PySem PySem.Spec PyProof.Rows L2
variable [Tab0]
def BinD (T : Sta) (op : Operator) (R : DV → DV → S → QD → Prop) : Prop := ∃ r : R2, (∀ X, X.K = T.K → X.calm = true → X.A.units + 64 < cLine → OpR X (binaryOp op) r) ∧ OpD T.K r R
abbrev orR (R R' : DV → DV → S → QD → Prop) : DV → DV → S → QD → Prop := fun x y ρ Q => R x y ρ Q ∨ R' x y ρ Q
section
variable {T : Sta} {pos p : Pos} {a b e tg : Expr} {es : List Expr} {wa wb : WE} {w : WA} {op : Operator} {co : CmpOp} {R R' : DV → DV → S → QD → Prop} {K : PySem.W.Frag}
theorem pd_bin (c : BinD T op R) (ha : PD T a wa) (hb : PD T b wb) : PD T (.BinOp a op b pos) (wOp R wa wb) := by
  obtain ⟨r, ho, hr⟩ := c
  exact pd_op ho hr ha hb
theorem opd_or {r r' : R2} (h1 : OpD K r R) (h2 : OpD K r' R') : OpD K (fun x y H Q => r x y H Q ∨ r' x y H Q) (orR R R') := by
  intro x y ρ Q h σ F G H as v u ok rx ry C k
  rcases h with h | h
  · exact .inl (h1 x y ρ Q h σ F G H as v u ok rx ry C k)
  · exact .inr (h2 x y ρ Q h σ F G H as v u ok rx ry C k)
theorem bd_or (c1 : BinD T op R) (c2 : BinD T op R') : BinD T op (orR R R') := by
  obtain ⟨r, ho, hr⟩ := c1
  obtain ⟨r', ho', hr'⟩ := c2
  refine ⟨_, fun X h1 h2 h3 pins s σ H x y v u Q I rx ry h => ?_, opd_or hr hr'⟩
  rcases h with h | h
  · exact ho X h1 h2 h3 pins s σ H x y v u Q I rx ry h
  · exact ho' X h1 h2 h3 pins s σ H x y v u Q I rx ry h
theorem cd_or (c1 : CmpD T co R) (c2 : CmpD T co R') : CmpD T co (orR R R') := by
  obtain ⟨r, ho, hr⟩ := c1
  obtain ⟨r', ho', hr'⟩ := c2
  refine ⟨_, fun X h1 h2 h3 pins s σ H x y v u Q I rx ry h => ?_, opd_or hr hr'⟩
  rcases h with h | h
  · exact ho X h1 h2 h3 pins s σ H x y v u Q I rx ry h
  · exact ho' X h1 h2 h3 pins s σ H x y v u Q I rx ry h
theorem bd_addI : BinD T .Add (dII0 gAdd) := ⟨_, fun _ _ _ _ => op_add, opd_I0 (g := gAdd) fun _ _ => rfl⟩
theorem bd_sub : BinD T .Sub (dII0 gSub) := ⟨_, fun _ _ _ _ => op_sub, opd_I0 (g := gSub) fun _ _ => rfl⟩
theorem bd_mulI : BinD T .Mult (dII CMulW gMul) := ⟨_, fun _ _ _ _ => op_mulW, opd_I (g := gMul) fun _ _ => rfl⟩
theorem bd_mod : BinD T .Mod (dII (fun _ j => 0 < j) gMod) := ⟨_, fun _ _ _ _ => op_mod, opd_I (g := gMod) fun _ _ => rfl⟩
theorem bd_div : BinD T .FloorDiv (dII CDivW gDiv) := ⟨_, fun _ _ _ _ => op_fdivW, opd_I (g := gDiv) fun _ _ => rfl⟩
theorem bd_pow : BinD T .Pow (dII CPow gPow) := ⟨_, fun _ _ _ _ => op_pow, opd_I (g := gPow) fun _ _ => rfl⟩
/-- t + u -/
def dCatT : DV → DV → S → QD → Prop := fun x y ρ Q => match x, y with
  | .d (.tuple ds), .d (.tuple es) => ds.length + es.length ≤ sizeLine ∧ Q (.d (.tuple (ds ++ es))) ρ
  | _, _ => False
theorem rCatA_of {H : Hp} {v u : V} {C : VK} {a b : Addr} {xs ys : List V} (e1 : v = .ref a) (e2 : u = .ref b) (h1 : SqT K H a xs) (h2 : SqT K H b ys) (hz : xs.length + ys.length ≤ sizeLine) (q1 : xs = [] → C (.ref b) H) (q2 : xs ≠ [] → ys = [] → C (.ref a) H) (q3 : xs ≠ [] → ys ≠ [] → ∀ p, H p = none → C (.ref p) (upd H p (.tup (xs ++ ys)))) : rCatA K v u H C := by
  exact ⟨a, b, xs, ys, e1, e2, h1, h2, hz, q1, q2, q3⟩
theorem opd_catT : OpD K (rCatA K) dCatT := by
  intro x y ρ Q h σ F G H as v u ok rx ry C k
  match x, y, h, rx, ry with
  | .d (.tuple ds), .d (.tuple es), h, rx, ry =>
    obtain ⟨hz, q⟩ := h
    obtain ⟨a, xs, rfl, hs, r⟩ := repT rx
    obtain ⟨b, ys, rfl, hs2, r2⟩ := repT ry
    refine rCatA_of rfl rfl (same_sqT ok.mem.gh hs) (same_sqT ok.mem.gh hs2) (by rw [r.length, r2.length]; exact hz) (fun e => ?_) (fun _ e => ?_) fun _ _ p hp => ?_
    · subst e
      cases r
      exact k.same (v := .ref b) ok q ry
    · subst e
      cases r2
      rw [List.append_nil] at q
      exact k.same (v := .ref a) ok q rx
    · refine k.data ok hp q (.tup upd_same ((r.append r2).mono (same_new (ok.mem.fresh hp).1)))
theorem bd_catT : BinD T .Add dCatT := ⟨_, fun X e _ _ => by rw [← e]; exact op_catA, opd_catT⟩
theorem bd_repT : BinD T .Mult dRep := ⟨rRepT T.K, fun X k _ _ => by rw [← k]; exact op_repT, (fun x y ρ Q h σ F G H as v u ok rx ry C k => by
    match x, y, h, rx, ry with
    | .d (.tuple ds), .d (.int n), ⟨h1, h2, h3, h4, q⟩, rx, ry =>
      cases repI ry
      obtain ⟨a, xs, rfl, hs, r⟩ := repT rx
      refine ⟨a, n, xs, rfl, rfl, same_sqT ok.mem.gh hs, ?_, h2, h3, by rw [r.length]; exact h4, fun p hp => ?_⟩
      · intro z
        subst z
        cases r
        exact h1 rfl
      · exact k.data ok hp q (.tup upd_same ((reps_rep r _).mono (same_new (ok.mem.fresh hp).1))))⟩
/-! ### one of two ways -/
theorem cd_ltA : CmpD T .Lt (orR (dII0 gLt) dLtD) := cd_or cd_lt cd_ltD
/-! ### a tuple or a list, walked -/
def iAny (K : PySem.W.Frag) (tl : TE) : TI := fun σ H R => tl σ H fun x H1 => ∃ a, x = .ref a ∧ (((∃ xs, SqL K H1 a xs) ∧ R (Itl K a) H1) ∨ ((∃ xs, SqT K H1 a xs) ∧ R (Itt K a) H1))
theorem pi_any {X : Cx} {l : Expr} {tl : TE} (hl : PE X l tl) : PI X tg l (iAny X.K tl) := by
  refine ⟨fun pins s σ H R I h => ?_⟩
  refine thn (hl.run pins s σ H _ I h) fun v s1 ⟨x, H1, I1, r1, q1⟩ => ?_
  obtain ⟨a, e, q⟩ := q1
  subst e
  cases r1
  rcases q with ⟨⟨xs, hq⟩, q⟩ | ⟨⟨xs, hq⟩, q⟩
  · obtain ⟨its, rv, p, hz⟩ := I1.list hq
    refine wpAny_pyIter_list p.isList ?_
    refine ⟨s1.heap.objs.size, [s1.heap.objs.size], _, _, H1, rfl, I1.kept (t' := s1.toks) fun b o e => Heap.get?_push_of_some _ e, turn_list a _, ⟨_, Heap.get?_push_size _ rfl, rfl, rfl⟩, fun b hb => ?_, q⟩
    have e : b = s1.heap.objs.size := by simpa using hb
    subst e
    exact I1.fpOk (Nat.le_refl _) (I1.hok.fresh (Nat.le_refl _))
  · obtain ⟨its, rv, p, hz⟩ := I1.tuple hq
    refine wpAny_pyIter_tuple (show s1.heap.IsTuple a its.toArray from p) ?_
    refine ⟨s1.heap.objs.size, [s1.heap.objs.size], _, _, H1, rfl, I1.kept (t' := s1.toks) fun b o e => Heap.get?_push_of_some _ e, turn_tuple a _, ⟨_, Heap.get?_push_size _ rfl, rfl, rfl⟩, fun b hb => ?_, q⟩
    have e : b = s1.heap.objs.size := by simpa using hb
    subst e
    exact I1.fpOk (Nat.le_refl _) (I1.hok.fresh (Nat.le_refl _))
def wiA (wa : WE) : WI := fun ρ Q X => wa ρ (fun x ρ1 => match x with
  | .d (.list ds) => Q ds ρ1
  | .d (.tuple ds) => Q ds ρ1
  | _ => False) X
theorem pdi_any (ha : PD T a wa) : PDI T tg a (wiA wa) := by
  obtain ⟨t, ht, d⟩ := ha
  refine ⟨fun W => iAny T.K (t W), fun W X g tk => by rw [← g.K]; exact pi_any (ht W X g tk), fun ρ Q X h W σ F G H as ok acc R k => ?_⟩
  refine d _ _ _ h W σ F G H as ok acc _ fun x ρ1 v G1 H1 as1 h1 ok1 n1 r1 => ?_
  match x, h1, r1 with
  | .d (.list ds), h1, r1 =>
    obtain ⟨a, xs, rfl, hs, r⟩ := repL r1
    exact ⟨a, rfl, .inl ⟨⟨xs, ok1.mem.gh.seq hs⟩, k ds ρ1 G1 H1 as1 _ h1 ok1 n1 (it_list hs r)⟩⟩
  | .d (.tuple ds), h1, r1 =>
    obtain ⟨a, xs, rfl, hs, r⟩ := repT r1
    exact ⟨a, rfl, .inr ⟨⟨xs, same_sqT ok1.mem.gh hs⟩, k ds ρ1 G1 H1 as1 _ h1 ok1 n1 (it_tup hs r)⟩⟩
end
end DL
namespace FL
open PySem PySem.Spec PyProof.Rows L2 DL
variable [Tab0]
section
variable {cl : Str → Addr} {ma mb : M DV} {wa wb : WE} {m : M (List DV)} {w : WA}
def oAlt (f g : DV → DV → M DV) : DV → DV → M DV := fun x y ρ => match f x y ρ with
  | .bad => g x y ρ
  | r => r
theorem ir_alt {f g : DV → DV → M DV} {R R' : DV → DV → S → QD → Prop} (hf : ImR cl f R) (hg : ImR cl g R') : ImR cl (oAlt f g) (orR R R') := by
  intro x y ρ Q X h
  unfold wpM oAlt at h
  cases e : f x y ρ with
  | bad => rw [e] at h; exact .inr (hg x y ρ Q X h)
  | ok a ρ' =>
    rw [e] at h
    refine .inl (hf x y ρ Q X ?_)
    unfold wpM
    rw [e]
    exact h
  | exc a ρ' =>
    rw [e] at h
    refine .inl (hf x y ρ Q X ?_)
    unfold wpM
    rw [e]
    exact h
abbrev oLtA := oAlt oLt oLtD
theorem ir_ltA : ImR cl oLtA (orR (dII0 gLt) dLtD) := ir_alt ir_II ir_ltD
def rCatTu (x y : DV) (ρ : S) : Option (DV × S) := match x, y with
  | .d (.tuple ds), .d (.tuple es) => if ds.length + es.length ≤ sizeLine then some (.d (.tuple (ds ++ es)), ρ) else none
  | _, _ => none
def oCatT := oOp rCatTu
theorem ir_catT : ImR cl oCatT dCatT := ir_op fun x y ρ z Q e q => by
  unfold rCatTu at e
  unfold dCatT
  split at e
  · split at e
    · rename_i h
      cases e
      exact ⟨h, q⟩
    · cases e
  · cases e
def iA (a : M DV) : M (List PyData) := mbind a fun x => match x with
  | .d (.list ds) => mret ds
  | .d (.tuple ds) => mret ds
  | _ => mbad
theorem ii_a (ha : ImE cl ma wa) : ImI cl (iA ma) (wiA wa) := by
  intro ρ Q X h
  unfold iA at h
  rw [wpM_bind] at h
  refine ha _ _ _ (wpM_mono h fun x ρ1 h1 => ?_)
  split at h1
  · exact h1
  · exact h1
  · exact h1.elim
/-- len(set(xs)), xs tuples of ints -/
def rLenSet (x : DV) (ρ : S) : Option (DV × S) := match lstOf ρ x with
  | some ds => match rowsI ds with
    | some rs => if rs.length < 64 then some (.d (.int (dcn rs : Nat)), ρ) else none
    | none => none
  | none => none
def oLenSet := uOp rLenSet
theorem iu_lenSet : ImU cl oLenSet dLenSet := iu_op fun x ρ z Q e q => by
  unfold rLenSet at e
  unfold dLenSet
  split at e
  · rename_i ds e1
    split at e
    · rename_i rs e2
      split at e
      · rename_i h
        cases e
        exact ⟨ds, rs, e1, e2, h, q⟩
      · cases e
    · cases e
  · cases e
def rRepTu (x y : DV) (ρ : S) : Option (DV × S) := match x, y with
  | .d (.tuple ds), .d (.int k) => if ds ≠ [] ∧ 2 ≤ k ∧ k ≤ 1000 ∧ ds.length ≤ 1000 then some (.d (.tuple (repD k.toNat ds)), ρ) else none
  | _, _ => none
def oRepT := oOp rRepTu
theorem ir_repT : ImR cl oRepT dRep := ir_op fun x y ρ z Q e q => by
  unfold rRepTu at e
  unfold dRep
  split at e
  · split at e
    · rename_i h
      cases e
      exact ⟨h.1, h.2.1, h.2.2.1, h.2.2.2, q⟩
    · cases e
  · cases e
/-! ### the deck's making: law's first statement -/
def mkR (n : Nat) (f : List PyData → RV Dk) : DSp := fun dvs ob R _ => ∃ ds : List PyData, dvs = ds.map .d ∧ ds.length = n ∧ ob = [] ∧ match f ds with
  | .ok k => R (.o 0) (dkO k)
  | _ => False
theorem mkR_len {n : Nat} {f : List PyData → RV Dk} : ∀ (ys : List DV) (ob : List OB) (R : DV → List OB → Prop) (X : XD → List OB → Prop), mkR n f ys ob R X → ys.length = n := by
  rintro ys ob R X ⟨ds, rfl, h, _⟩
  rw [List.length_map, h]
def ArityK (n : Nat) (f : List PyData → RV Dk) : Prop := ∀ ds k, f ds = .ok k → ds.length = n
def curK1 (f : PyData → RV Dk) : List PyData → RV Dk
  | [a] => f a
  | _ => .bad
def curK2 (f : PyData → PyData → RV Dk) : List PyData → RV Dk
  | [a, b] => f a b
  | _ => .bad
theorem arK1 {f : PyData → RV Dk} : ArityK 1 (curK1 f) := fun ds k h => by
  unfold curK1 at h; split at h <;> first | rfl | cases h
theorem arK2 {f : PyData → PyData → RV Dk} : ArityK 2 (curK2 f) := fun ds k h => by
  unfold curK2 at h; split at h <;> first | rfl | cases h
def mMkDk (f : List PyData → RV Dk) (m : M (List DV)) : M DV := mbind m fun xs ρ => match allD xs with
  | some ds => if ρ.ob.length = 0 then match f ds with
    | .ok k => .ok (.o 0) ⟨ρ.sl, dkO k⟩
    | _ => .bad else .bad
  | none => .bad
theorem pick_dk (k : Dk) : pickB [0, 1] (dkO k) = dkO k := by
  unfold dkO pickB
  show [renB [0, 1] (deckK k), renB [0, 1] (cellsO k.c)] = _
  have : renB [0, 1] (cellsO k.c) = cellsO k.c := by
    show OB.lst (((k.c.map PyData.int).map DV.d).map (renV [0, 1])) = _
    rw [List.map_map]
    rfl
  rw [this]
  rfl
theorem inB_cells (c : List Int) : inB [0, 1] (cellsO c) = true := by
  show ((c.map PyData.int).map DV.d).all (inV [0, 1]) = true
  rw [List.all_map]
  exact List.all_eq_true.mpr fun _ _ => rfl
theorem all_isD (ds : List PyData) : (ds.map DV.d).all isD = true := by
  rw [List.all_map]
  exact List.all_eq_true.mpr fun _ _ => rfl
theorem im_mkDk {n : Nat} {f : List PyData → RV Dk} (hn : ArityK n f) (hm : ImA cl m w) : ImE cl (mMkDk f m) (wCallP [0, 1] (mkR n f) w) := by
  intro ρ Q X h
  unfold mMkDk at h
  rw [wpM_bind] at h
  refine hm _ _ _ (wpM_mono h fun xs ρ1 h1 => ?_)
  unfold wpM at h1
  dsimp only at h1
  cases e : allD xs with
  | none => rw [e] at h1; exact h1.elim
  | some ds =>
    rw [e] at h1
    rw [allD_eq e]
    dsimp only at h1
    by_cases hl : ρ1.ob.length = 0
    · rw [if_pos hl] at h1
      have ho : ρ1.ob = [] := List.length_eq_zero_iff.mp hl
      cases e2 : f ds with
      | exc y => rw [e2] at h1; exact h1.elim
      | bad => rw [e2] at h1; exact h1.elim
      | ok k =>
        rw [e2] at h1
        refine ⟨all_isD ds, ho, ds, rfl, hn _ _ e2, rfl, ?_⟩
        rw [e2]
        refine ⟨by decide, ?_, ?_, rfl, ?_⟩
        · intro i hi
          have : i = 0 ∨ i = 1 := by simpa using hi
          rcases this with rfl | rfl
          · show 0 < 2; decide
          · show 1 < 2; decide
        · intro i hi
          have : i = 0 ∨ i = 1 := by simpa using hi
          rcases this with rfl | rfl
          · rfl
          · exact inB_cells k.c
        · rw [pick_dk]
          exact h1
    · rw [if_neg hl] at h1
      exact h1.elim
/-- _law_deck, run -/
def runK (n : Nat) (b : M Flow) (args : List PyData) : RV Dk := match b ⟨args.map (fun x => some (.d x)) ++ List.replicate (n - args.length) none, []⟩ with
  | .ok (.rt v) ρ => match dkArg [v], rdDk ρ.ob with
    | some _, some p => if p.2.length = 0 then .ok p.1 else .bad
    | _, _ => .bad
  | _ => .bad
theorem mk_mk {P : Program} {w0 : World} {K : PySem.W.Frag} {mg : Str → Option Value} {base : Heap} {k : Nat} {x : Str} {st : Stmt} {N ps : List Str} {f : List PyData → RV Dk} {b : M Flow} {w : WS} (h : Hd K mg x st ps) (S : FnScope N ps (defScope st))
    (hb : PDSs ⟨P, w0, K, mg, base, N, defScope st, k, true⟩ (defBody st) w) (im : ImS cl b w) (hf : ∀ ds k, f ds = .ok k → f ds = runK N.length b ds) : DefG P w0 K mg base (k + 1) x st ps (mkR ps.length f) := by
  refine mk_def h S mkR_len hb ?_
  rintro dvs ob R X ⟨ds, rfl, hl, rfl, hr⟩ sl e
  rw [start_map] at e
  refine im _ _ ?_
  cases e0 : f ds with
  | exc y => rw [e0] at hr; exact hr.elim
  | bad => rw [e0] at hr; exact hr.elim
  | ok k0 =>
  rw [hf ds k0 e0] at hr
  unfold runK at hr
  rw [e] at hr
  unfold wpS
  cases e2 : b ⟨sl, []⟩ with
  | exc y ρ' => rw [e2] at hr; exact hr.elim
  | bad => rw [e2] at hr; exact hr.elim
  | ok f ρ' =>
    rw [e2] at hr
    cases f with
    | nx => exact hr.elim
    | bk => exact hr.elim
    | ct => exact hr.elim
    | rt v =>
      dsimp only at hr
      cases e3 : dkArg [v] with
      | none => rw [e3] at hr; exact hr.elim
      | some ds =>
        cases e4 : rdDk ρ'.ob with
        | none => rw [e3, e4] at hr; exact hr.elim
        | some p =>
          rw [e3, e4] at hr
          obtain ⟨k, rs⟩ := p
          dsimp only at hr
          by_cases hl : rs.length = 0
          · rw [if_pos hl] at hr
            have ho : rs = [] := List.length_eq_zero_iff.mp hl
            have ev := dkArg_eq e3
            cases ds with
            | cons _ _ => cases ev
            | nil =>
              cases ev
              show R (.o 0) ρ'.ob
              rw [rdDk_eq e4, ho, List.append_nil]
              exact hr
          · rw [if_neg hl] at hr
            exact hr.elim
theorem hfK1 {m : PyData → RV Dk} {n : Nat} {b : M Flow} (h : ∀ a, m a = runK n b [a]) : ∀ ds k, curK1 m ds = .ok k → curK1 m ds = runK n b ds := fun ds k hd => by
  match ds, hd with
  | [a], _ => exact h a
theorem hfK2 {m : PyData → PyData → RV Dk} {n : Nat} {b : M Flow} (h : ∀ a c, m a c = runK n b [a, c]) : ∀ ds k, curK2 m ds = .ok k → curK2 m ds = runK n b ds := fun ds k hd => by
  match ds, hd with
  | [a, c], _ => exact h a c
end
end FL
end

section
set_option Elab.async false
set_option linter.all false
set_option maxRecDepth 100000
set_option maxHeartbeats 1000000
set_option autoImplicit false
namespace DL
open PySem PySem.Spec PyProof.Rows L2
variable [Tab0]
section
variable {T : Sta} {pos p : Pos} {a b e o i value tg : Expr} {es : List Expr} {wa wb wo wi wv : WE} {w : WA} {op : Operator} {co : CmpOp} {R R' : DV → DV → S → QD → Prop} {K : PySem.W.Frag} {st : Stmt} {ws : WS}
/-! ### what a statement made on the way is forgotten -/
def wTrim (w : WS) : WS := fun E ρ => w { E with nx := fun ρ' => okTrim ρ.ob.length ρ' = true ∧ E.nx ⟨ρ'.sl, ρ'.ob.take ρ.ob.length⟩ } ρ
theorem pds_trim (h : PDS T st ws) : PDS T st (wTrim ws) := by
  obtain ⟨t, ht, d⟩ := h
  refine ⟨t, ht, fun ρ E h W σ F G H as ok acc D l => ?_⟩
  refine d _ _ h W σ F G H as ok acc D ⟨?_, l.rt, l.bk, l.ct⟩
  rintro ρ' σ' G' H' as' ⟨ht, q⟩ o n
  obtain ⟨_, n2⟩ := nxt_take n ok.mem.len
  exact l.nx _ _ G' H' _ q (o.trim ht) n2
/-! ### targets over tuples and lists -/
def wgSeq (n : Nat) (wr : WGs) : WG := fun dv ρ Q => wgTup n wr dv ρ Q ∨ wgLst n wr dv ρ Q
theorem pdg_or {wg wg' : WG} {js : List Nat} (h1 : PDG T tg wg js) (h2 : PDG T tg wg' js) : PDG T tg (fun dv ρ Q => wg dv ρ Q ∨ wg' dv ρ Q) js := by
  obtain ⟨g, hg, dg⟩ := h1
  obtain ⟨g', hg', dg'⟩ := h2
  refine ⟨fun v σ H C => g v σ H C ∨ g' v σ H C, fun X gd => ⟨fun pins s σ H v u Q I r h => ?_⟩, fun dv ρ Q h σ F G H as v ok r C k => ?_⟩
  · rcases h with h | h
    · exact (hg X gd).run pins s σ H v u Q I r h
    · exact (hg' X gd).run pins s σ H v u Q I r h
  · rcases h with h | h
    · exact .inl (dg dv ρ Q h σ F G H as v ok r C k)
    · exact .inr (dg' dv ρ Q h σ F G H as v ok r C k)
theorem pdg_seq {k n : Nat} {wr : WGs} {js : List Nat} (h : PDGs T es wr js) (hn : ∀ env, (assignEach es env).length = n := by intro _; rfl) (hst : ∀ env, (assignEach es env).findIdx? (·.1) = none := by intro _; rfl) : PDG T (.Tuple es k pos) (wgSeq n wr) js :=
  pdg_or (pdg_tup h hn hst) (pdg_lst h hn hst)
/-! ### list + list -/
def rCatL (K : PySem.W.Frag) : R2 := fun x y H Q => ∃ l b xs zs, x = .ref l ∧ y = .ref b ∧ SqL K H l xs ∧ SqL K H b zs ∧ xs.length + zs.length ≤ sizeLine ∧ ∀ p, H p = none → Q (.ref p) (upd H p (.lst (xs ++ zs)))
theorem op_catL {X : Cx} : OpR X (binaryOp .Add) (rCatL X.K) := by
  intro pins s σ H x y v u Q I rx ry h
  obtain ⟨l, b, xs, zs, rfl, rfl, hH, hB, hz, q⟩ := h
  cases rx
  cases ry
  obtain ⟨its, r, ⟨⟨cls, dd, data, sl⟩, n, ho, hc, _, hd⟩, _⟩ := I.list hH
  obtain ⟨its2, r2, ⟨⟨cls2, dd2, data2, sl2⟩, n2, ho2, hc2, _, hd2⟩, _⟩ := I.list hB
  simp only at hc hd hc2 hd2
  subst hc hd hc2 hd2
  have ea : its.toArray ++ its2.toArray = (its ++ its2).toArray := by simp
  refine concat_meets ⟨_, ho, rfl⟩ ⟨_, ho2, rfl⟩ noFill_list_add seq_list_add PySem.F.slot_list_add PySem.F.entry_list_add (PySem.F.args_list_add_2 _ _) (list_addW l b its.toArray its2.toArray n n2 dd dd2 sl sl2 (by rw [List.size_toArray, List.size_toArray, ← r.length, ← r2.length]; exact hz)) ⟨ho, ho2, ?_⟩
  rw [ea]
  exact ⟨.ref _, _, I.lnew (t' := s.toks) (r.append r2) (by rw [List.length_append]; omega), rfl, q _ I.fresh⟩
def dCatL : DV → DV → S → QD → Prop := fun x y ρ Q => ∃ ds es, lstOf ρ x = some ds ∧ lstOf ρ y = some es ∧ ds.length + es.length ≤ sizeLine ∧ Q (.o ρ.ob.length) ⟨ρ.sl, ρ.ob ++ [.lst ((ds ++ es).map .d)]⟩
theorem opd_catL : OpD K (rCatL K) dCatL := by
  intro x y ρ Q h σ F G H as v u ok rx ry C k
  obtain ⟨ds, es, h1, h2, hz, q⟩ := h
  obtain ⟨a, xs, rfl, hs, r⟩ := lstOf_rep ok rx h1
  obtain ⟨b, ys, rfl, hs2, r2⟩ := lstOf_rep ok ry h2
  exact ⟨a, b, xs, ys, rfl, rfl, hs, hs2, by rw [r.length, r2.length]; exact hz, fun p hp => mineL k ok hp (RepVs.of (r.append r2)) q⟩
theorem bd_catL : BinD T .Add dCatL := ⟨_, fun X e _ _ => by rw [← e]; exact op_catL, opd_catL⟩
/-! ### text + text -/
def dCatS : DV → DV → S → QD → Prop := fun x y ρ Q => match x, y with
  | .d (.str a), .d (.str b) => a.length + b.length ≤ sizeLine ∧ Q (.d (.str (a ++ b))) ρ
  | _, _ => False
theorem bd_catS : BinD T .Add dCatS := ⟨_, fun X _ _ _ => op_add_str, by
  intro x y ρ Q h σ F G H as v u ok rx ry C k
  match x, y, h, rx, ry with
  | .d (.str i), .d (.str j), h, rx, ry =>
    exact ⟨i, j, repS rx, repS ry, h.1, k (.d (.str (i ++ j))) ρ _ G H as h.2 ok (Nxt.refl _ _) (Rep.str _)⟩⟩
abbrev dAddA : DV → DV → S → QD → Prop := orR (dII0 gAdd) (orR dCatT (orR dCatL dCatS))
theorem bd_addA : BinD T .Add dAddA := bd_or bd_addI (bd_or bd_catT (bd_or bd_catL bd_catS))
/-! ### list * int -/
def rRepL (K : PySem.W.Frag) : R2 := fun x y H Q => ∃ l k xs, x = .ref l ∧ y = .int k ∧ H l = some (.lst xs) ∧ 0 ≤ k ∧ k < 2 ^ 63 ∧ xs.length * k.toNat ≤ sizeLine ∧
  ∀ p, H p = none → Q (.ref p) (upd H p (.lst (List.replicate k.toNat xs).flatten))
def dRepL : DV → DV → S → QD → Prop := fun x y ρ Q => match x, y with
  | .o j, .d (.int k) => match obK ρ j with
    | .lst xs => ∃ ds, allD xs = some ds ∧ 0 ≤ k ∧ k < 2 ^ 63 ∧ ds.length * k.toNat ≤ sizeLine ∧ Q (.o ρ.ob.length) ⟨ρ.sl, ρ.ob ++ [.lst ((repD k.toNat ds).map .d)]⟩
    | _ => False
  | _, _ => False
theorem bd_repL : BinD T .Mult dRepL := ⟨rRepL T.K, fun X _ _ _ pins s σ H x y v u Q I rx ry h => by
  obtain ⟨l, k, xs, e1, e2, e3, e4, e5, e6, e7⟩ := h
  exact op_rep pins s σ H x y v u Q I rx ry ⟨l, k, xs, e1, e2, e3, by omega, e5, e6, e7⟩, by
  intro x y ρ Q h σ F G H as v u ok rx ry C k
  match x, y, h, rx, ry with
  | .o j, .d (.int n), h, rx, ry =>
    cases repI ry
    unfold dRepL at h
    dsimp only at h
    cases e : obK ρ j with
    | lst xs =>
      rw [e] at h
      obtain ⟨ds, h1, h2, h3, h4, q⟩ := h
      obtain ⟨a, rfl, hk, hob, vs, hv, rr⟩ := repO ok rx e (by intro z; cases z)
      have e3 := allD_eq h1
      subst e3
      refine ⟨a, n, vs, rfl, rfl, hv, h2, h3, by rw [rr.length, List.length_map]; exact h4, fun p hp => mineL k ok hp (RepVs.of (reps_rep rr.to _)) q⟩
    | dk _ => rw [e] at h; exact h.elim
    | dt _ => rw [e] at h; exact h.elim
    | st _ => rw [e] at h; exact h.elim
    | gone => rw [e] at h; exact h.elim⟩
theorem bd_mulC : BinD T .Mult (dII CMul gMul) := ⟨_, fun _ _ _ _ => op_mul, opd_I (g := gMul) fun _ _ => rfl⟩
abbrev dMulA : DV → DV → S → QD → Prop := orR (dII CMul gMul) (orR (dII CMulW gMul) (orR dRep dRepL))
theorem bd_mulA : BinD T .Mult dMulA := bd_or bd_mulC (bd_or bd_mulI (bd_or bd_repT bd_repL))
theorem bd_band : BinD T .BitAnd (dII0 fun i j => .int (Builtin.bitAnd i j)) := ⟨_, fun _ _ _ _ => op_and, opd_I0 (g := fun i j => .int (Builtin.bitAnd i j)) fun _ _ => rfl⟩
/-! ### sum -/
def dSumA : List DV → S → QD → Prop := fun xs ρ Q => match xs with
  | [x] => ∃ ns : List Int, ((∃ ds, lstOf ρ x = some ds ∧ intsOf ds = some ns) ∨ ∃ ds, x = .d (.tuple ds) ∧ intsOf ds = some ns) ∧ Q (.d (.int ns.sum)) ρ
  | _ => False
def rSumA (K : PySem.W.Frag) : List V → Hp → VK → Prop := fun vs H Q => rSum K vs H Q ∨ rSumT K vs H Q
theorem cr_sumA {X : Cx} (hc : X.calm = true) : CallR X (.builtin "sum") (rSumA X.K) := by
  intro pins s σ H vs us Q I r h
  rcases h with h | h
  · exact cr_sum hc pins s σ H vs us Q I r h
  · exact cr_sumT hc pins s σ H vs us Q I r h
theorem pd_sumA (hg : T.sc.names.lookup ("sum" : Str) = some .globalImplicit) (hm : T.mg "sum" = none) (ha : PDA T [e] w) (he : ∀ env, starEach [e] env = (false, eval e env) :: starEach [] env := by intro _; rfl) :
    PD T (.Call (.Name "sum" p) [e] [] pos) (wCa dSumA w) :=
  pd_callB (r := rSumA T.K) (fun X k _ _ c _ _ => by rw [← k]; exact cr_sumA c) (fun x ρ Q h σ F G H as v ok rx C k => by
    match x, h, rx with
    | [x], ⟨ns, h1, q⟩, .cons (v := v) r .nil =>
      rcases h1 with ⟨ds, h1, h2⟩ | ⟨ds, rfl, h2⟩
      · obtain ⟨a, xs, rfl, hs, rr⟩ := lstOf_rep ok r h1
        have e := intsOf_eq h2
        subst e
        have ex := reps_int rr
        subst ex
        exact .inl ⟨a, ns, rfl, hs, k (.d (.int ns.sum)) ρ _ G H as q ok (Nxt.refl _ _) (.int _)⟩
      · obtain ⟨a, xs, rfl, hs, rr⟩ := repT r
        have e := intsOf_eq h2
        subst e
        have ex := reps_int rr
        subst ex
        exact .inr ⟨a, ns, rfl, same_sqT ok.mem.gh hs, k (.d (.int ns.sum)) ρ _ G H as q ok (Nxt.refl _ _) (.int _)⟩) hg hm (by decide +kernel) ha (he := he) (hpl := fun _ => rfl)
/-! ### xs[i] as a target -/
def wgIx (wo wi : WE) : WG := fun z ρ Q => wo ρ (fun x ρ2 => wi ρ2 (fun y ρ3 => match x, y with
  | .o k, .d (.int i) => match obK ρ3 k with
    | .lst xs => ∃ j, ixN xs.length i = some j ∧ Q ⟨ρ3.sl, ρ3.ob.set k (.lst (xs.set j z))⟩
    | _ => False
  | _, _ => False) X0) X0
theorem pdg_ix (ho : PD T o wo) (hi : PD T i wi)
    (ha : ∀ env v, assign (.Subscript o i pos) env v = (do
      let ov ← holding [v] (eval o env)
      let iv ← holding [v, ov] (eval i env)
      standAt pos
      holding [v, ov, iv] (setItem ov iv v)
      release [v, ov, iv] []) := by intro _ _; rfl) : PDG T (.Subscript o i pos) (wgIx wo wi) [] := by
  obtain ⟨to, ho, d1⟩ := ho
  obtain ⟨ti, hi, d2⟩ := hi
  refine ⟨L2.gSub (to W0) (ti W0) rSetL, fun X g => pg_sub (ho W0 X g takes0) (hi W0 X g takes0) set_list (ha _), fun z ρ Q h σ F G H as v ok r C k => ?_⟩
  refine d1 _ _ _ h W0 σ F G H as ok acc0 _ fun x ρ2 vx G2 H2 as2 h2 ok2 n2 r2 => ?_
  refine d2 _ _ _ h2 W0 σ F G2 H2 as2 ok2 acc0 _ fun y ρ3 vy G3 H3 as3 h3 ok3 n3 r3 => ?_
  have n := n2.trans n3
  have rz := r.mono n
  have rx := r2.mono n3
  match x, y, h3, rx, r3 with
  | .o m, .d (.int j), h3, rx, ry =>
    cases repI ry
    dsimp only at h3
    cases e : obK ρ3 m with
    | lst xs =>
      rw [e] at h3
      obtain ⟨jj, hj, q⟩ := h3
      obtain ⟨a, rfl, hk, hob, vs, hv, rr⟩ := repO ok3 rx e (by intro z; cases z)
      exact ⟨a, vs, j, jj, rfl, rfl, hv, by rw [rr.length]; exact hj, k _ _ G3 _ as3 q (wr_lst (vs := vs) ok3 hk hob (rr.set rz jj)) n wi_nil⟩
    | dk _ => rw [e] at h3; exact h3.elim
    | dt _ => rw [e] at h3; exact h3.elim
    | st _ => rw [e] at h3; exact h3.elim
    | gone => rw [e] at h3; exact h3.elim
theorem pds_setIx {pos' : Pos} (ho : PD T o wo) (hi : PD T i wi) (hv : PD T value wv)
    (ha : ∀ env v, assign (.Subscript o i pos') env v = (do
      let ov ← holding [v] (eval o env)
      let iv ← holding [v, ov] (eval i env)
      standAt pos'
      holding [v, ov, iv] (setItem ov iv v)
      release [v, ov, iv] []) := by intro _ _; rfl)
    (hs : ∀ env, swapsWithSole [.Subscript o i pos'] value pos.line env = pure false := by intro _; rfl) (hw : ∀ env, swappedStores [.Subscript o i pos'] value env = pure none := by intro _; rfl)
    (h1 : ∀ env, (assignEach [.Subscript o i pos'] env).map (·.2) = [assign (.Subscript o i pos') env] := by intro _; rfl) : PDS T (.Assign [.Subscript o i pos'] value pos) (wAsg wv (wgIx wo wi)) :=
  pds_asg hv (pdg_ix ho hi ha) hs hw h1
/-! ### x += e -/
theorem pds_aug {x : Str} {pos' : Pos} {f : Int → Int → Int} {c : Int → Int → Prop} (ip : ∀ X : Cx, PIp X op fun x y H Q => ∃ i j, x = V.int i ∧ y = V.int j ∧ c i j ∧ Q (.int (f i j)) H) (i : Nat) (ha : PD T a wa) (hN : T.N[i]? = some x := by rfl) (hx : Sto T x := by first | exact Or.inl rfl | exact Or.inr ⟨rfl, rfl⟩) :
    PDS T (.AugAssign (.Name x pos') op a pos) (wAsg (wOp (dII c fun i j => .int (f i j)) (wVar i) wa) (wgName i)) := by
  obtain ⟨t, ht, d⟩ := ha
  refine ⟨fun W => tAug i (t W) _, fun W X g tk => ps_aug (by rw [g.N]; exact g.nd) (by rw [g.N]; exact hN) (hx.loc g).1 (ht W X g tk) (ip X) (hx.loc g).2, fun ρ E h W σ F G H as ok acc D l => ?_⟩
  have h : wVar i ρ (fun x ρ1 => wa ρ1 (fun y ρ2 => dII c (fun i j => .int (f i j)) x y ρ2 fun z ρ3 => E.nx ⟨ρ3.sl.set i (some z), ρ3.ob⟩) E.xr) E.xr := h
  unfold wVar at h
  cases hs : slot ρ.sl i with
  | none => rw [hs] at h; exact h.elim
  | some dv =>
    rw [hs] at h
    obtain ⟨v, e, r⟩ := ok.sl i dv (slot_get hs)
    refine ⟨v, e, ?_⟩
    refine d _ _ _ h W σ F G H as ok (acc.at σ) _ fun y ρ2 u G2 H2 as2 h2 ok2 n2 r2 => ?_
    match dv, y, h2, r.mono n2, r2 with
    | .d (.int m), .d (.int n), h2, r, r2 =>
      exact ⟨m, n, repI r, repI r2, h2.1, l.nx _ _ G2 H2 as2 h2.2 (ok2.set i (dv := .d (.int (f m n))) (Rep.int _)) n2⟩
theorem ip_addc (X : Cx) : PIp X .Add fun x y H Q => ∃ i j, x = V.int i ∧ y = V.int j ∧ True ∧ Q (.int (i + j)) H := fun pins s σ H x y v u Q I r1 r2 ⟨i, j, e1, e2, _, q⟩ => ip_add pins s σ H x y v u Q I r1 r2 ⟨i, j, e1, e2, q⟩
theorem ip_subc (X : Cx) : PIp X .Sub fun x y H Q => ∃ i j, x = V.int i ∧ y = V.int j ∧ True ∧ Q (.int (i - j)) H := fun pins s σ H x y v u Q I r1 r2 ⟨i, j, e1, e2, _, q⟩ => ip_sub pins s σ H x y v u Q I r1 r2 ⟨i, j, e1, e2, q⟩
theorem ip_mulc (X : Cx) : PIp X .Mult fun x y H Q => ∃ i j, x = V.int i ∧ y = V.int j ∧ CMul i j ∧ Q (.int (i * j)) H := fun pins s σ H x y v u Q I r1 r2 ⟨i, j, e1, e2, c, q⟩ => iop_mul pins s σ H x y v u Q I r1 r2 ⟨i, j, e1, e2, c, q⟩
end
end DL
namespace FL
open PySem PySem.Spec PyProof.Rows L2 DL
variable [Tab0]
section
variable {cl : Str → Addr} {ma mb mc : M DV} {wa wb wc : WE} {m : M (List DV)} {w : WA} {sa : M Flow} {va : WS}
def sTrim (m : M Flow) : M Flow := fun ρ => match m ρ with
  | .ok .nx ρ' => if okTrim ρ.ob.length ρ' then .ok .nx ⟨ρ'.sl, ρ'.ob.take ρ.ob.length⟩ else .bad
  | r => r
theorem is_trim (ha : ImS cl sa va) : ImS cl (sTrim sa) (wTrim va) := by
  intro E ρ h
  refine ha _ _ ?_
  unfold wpS sTrim at h
  unfold wpS
  try dsimp only at h
  cases e : sa ρ with
  | ok f ρ' =>
    rw [e] at h
    cases f with
    | nx =>
      dsimp only at h ⊢
      by_cases ht : okTrim ρ.ob.length ρ' = true
      · rw [if_pos ht] at h
        exact ⟨ht, h⟩
      · rw [if_neg ht] at h
        exact h.elim
    | rt v => exact h
    | bk => exact h
    | ct => exact h
  | exc x ρ' => rw [e] at h; exact h
  | bad => rw [e] at h; exact h
/-- a tuple or a list, taken apart -/
def seqD (ρ : S) : DV → Option (List PyData)
  | .d (.tuple ds) => some ds
  | x => lstOf ρ x
def gSeq (n : Nat) (gs : List PyData → M Unit) : DV → M Unit := fun dv ρ => match seqD ρ dv with
  | some ds => if ds.length = n then gs ds ρ else .bad
  | none => .bad
theorem ig_seq {n : Nat} {gs : List PyData → M Unit} {wr : WGs} (h2 : ImGs cl gs wr) : ImG cl (gSeq n gs) (wgSeq n wr) := by
  intro dv ρ Q h
  by_cases ht : ∃ ds, dv = .d (.tuple ds)
  · obtain ⟨ds, rfl⟩ := ht
    refine .inl (ig_tup h2 _ _ _ ?_)
    unfold gSeq wpM at h
    unfold gTup wpM
    dsimp only [seqD] at h ⊢
    by_cases hl : ds.length = n
    · rw [if_pos hl] at h ⊢
      exact h
    · rw [if_neg hl] at h
      exact h.elim
  · refine .inr (ig_lst h2 _ _ _ ?_)
    have e : seqD ρ dv = lstOf ρ dv := by
      unfold seqD
      split
      · rename_i ds
        exact (ht ⟨ds, rfl⟩).elim
      · rfl
    unfold gSeq wpM at h
    unfold gLst wpM
    try dsimp only at h ⊢
    rw [e] at h
    exact h
theorem nx_seq {n : Nat} {gs : List PyData → M Unit} (h2 : NoXs gs) : NoX (gSeq n gs) := fun dv ρ x ρ' h => by
  unfold gSeq at h
  split at h
  · split at h
    · exact h2 _ _ _ _ h
    · cases h
  · cases h
def rCatLi (x y : DV) (ρ : S) : Option (DV × S) := match lstOf ρ x, lstOf ρ y with
  | some ds, some es => if ds.length + es.length ≤ sizeLine then some (.o ρ.ob.length, ⟨ρ.sl, ρ.ob ++ [.lst ((ds ++ es).map .d)]⟩) else none
  | _, _ => none
def oCatL := oOp rCatLi
theorem ir_catL : ImR cl oCatL dCatL := ir_op fun x y ρ z Q e q => by
  unfold rCatLi at e
  unfold dCatL
  split at e
  · rename_i ds es h1 h2
    split at e
    · rename_i hl
      cases e
      exact ⟨ds, es, h1, h2, hl, q⟩
    · cases e
  · cases e
def rCatSt (x y : DV) (ρ : S) : Option (DV × S) := match x, y with
  | .d (.str a), .d (.str b) => if a.length + b.length ≤ sizeLine then some (.d (.str (a ++ b)), ρ) else none
  | _, _ => none
def oCatS := oOp rCatSt
theorem ir_catS : ImR cl oCatS dCatS := ir_op fun x y ρ z Q e q => by
  unfold rCatSt at e
  unfold dCatS
  split at e
  · split at e
    · rename_i hl
      cases e
      exact ⟨hl, q⟩
    · cases e
  · cases e
def oAddA := oAlt oAdd (oAlt oCatT (oAlt oCatL oCatS))
theorem ir_addA : ImR cl oAddA dAddA := ir_alt ir_II (ir_alt ir_catT (ir_alt ir_catL ir_catS))
def rRepLi (x y : DV) (ρ : S) : Option (DV × S) := match x, y with
  | .o j, .d (.int k) => match obK ρ j with
    | .lst xs => match allD xs with
      | some ds => if 0 ≤ k ∧ k < 2 ^ 63 ∧ ds.length * k.toNat ≤ sizeLine then some (.o ρ.ob.length, ⟨ρ.sl, ρ.ob ++ [.lst ((repD k.toNat ds).map .d)]⟩) else none
      | none => none
    | _ => none
  | _, _ => none
def oRepL := oOp rRepLi
theorem ir_repL : ImR cl oRepL dRepL := ir_op fun x y ρ z Q e q => by
  unfold rRepLi at e
  unfold dRepL
  split at e
  · try dsimp only
    split at e
    · rename_i e5
      try rw [e5]
      split at e
      · rename_i ds e6
        split at e
        · rename_i hl
          cases e
          exact ⟨ds, e6, hl.1, hl.2.1, hl.2.2, q⟩
        · cases e
      · cases e
    · cases e
  · cases e
def oMulA := oAlt oMul (oAlt oMulW (oAlt oRepT oRepL))
theorem ir_mulA : ImR cl oMulA dMulA := ir_alt ir_IIc (ir_alt ir_IIc (ir_alt ir_repT ir_repL))
abbrev oBand := oII fun i j => .int (Builtin.bitAnd i j)
def rSumAny : List DV → S → Option (DV × S)
  | [x], ρ => match seqD ρ x with
    | some ds => match intsOf ds with
      | some ns => some (.d (.int ns.sum), ρ)
      | none => none
    | none => none
  | _, _ => none
def oSumA := cOp rSumAny
theorem ic_sumA : ImC cl oSumA dSumA := ic_op fun x ρ z Q e q => by
  unfold rSumAny at e
  unfold dSumA
  split at e
  · split at e
    · rename_i ds h1
      split at e
      · rename_i ns h2
        cases e
        refine ⟨ns, ?_, q⟩
        unfold seqD at h1
        split at h1
        · cases h1
          exact .inr ⟨ds, rfl, h2⟩
        · exact .inl ⟨ds, h1, h2⟩
      · cases e
    · cases e
  · cases e
def oEqS : DV → DV → M DV := fun x y => match x, y with
  | .d (.str s), .d (.str t) => mret (.d (.bool (decide (s = t))))
  | .d (.int s), .d (.int t) => mret (.d (.bool (decide (s = t))))
  | _, _ => mbad
def oNeS : DV → DV → M DV := fun x y => match x, y with
  | .d (.str s), .d (.str t) => mret (.d (.bool (!decide (s = t))))
  | .d (.int s), .d (.int t) => mret (.d (.bool (!decide (s = t))))
  | _, _ => mbad
theorem ir_eqS : ImR cl oEqS dEqS := by
  intro x y ρ Q X h
  unfold oEqS at h
  unfold dEqS
  split at h
  · exact h
  · exact h
  · exact h.elim
theorem ir_neS : ImR cl oNeS dNeS := by
  intro x y ρ Q X h
  unfold oNeS at h
  unfold dNeS
  split at h
  · exact h
  · exact h
  · exact h.elim
def oEqA := oAlt oEqS oEq
def oNeA := oAlt oNeS oNe
abbrev dEqA : DV → DV → S → QD → Prop := orR dEqS dEq
abbrev dNeA : DV → DV → S → QD → Prop := orR dNeS dNe
theorem ir_eqA : ImR cl oEqA dEqA := ir_alt ir_eqS ir_eq
theorem ir_neA : ImR cl oNeA dNeA := ir_alt ir_neS ir_ne
theorem cd_eqA {T : Sta} : CmpD T .Eq dEqA := cd_or cd_eqS cd_eqD
theorem cd_neA {T : Sta} : CmpD T .NotEq dNeA := cd_or cd_neS cd_neD
abbrev rExtA := rExt
theorem imm_extA : ImM rExtA dExt := imm_ext
abbrev oRevA := oRevL
theorem iu_revA : ImU cl oRevA dRevL := iu_revL
def gIx (mo mi : M DV) : DV → M Unit := fun z => mbind mo fun x => mbind mi fun y ρ3 => match x, y with
  | .o k, .d (.int i) => match obK ρ3 k with
    | .lst xs => match ixN xs.length i with
      | some j => .ok () ⟨ρ3.sl, ρ3.ob.set k (.lst (xs.set j z))⟩
      | none => .bad
    | _ => .bad
  | _, _ => .bad
/-- the target's parts raise nothing -/
def noX (m : M DV) : M DV := fun ρ => match m ρ with
  | .exc _ _ => .bad
  | r => r
theorem ig_ix (ha : ImE cl ma wa) (hb : ImE cl mb wb) : ImG cl (gIx (noX ma) (noX mb)) (wgIx wa wb) := by
  intro z ρ Q h
  unfold gIx at h
  rw [wpM_bind] at h
  have step : ∀ {m : M DV} {ρ : S} {Q : DV → S → Prop}, wpM cl (noX m) ρ Q (fun _ _ => False) → wpM cl m ρ Q X0 := fun {m ρ Q} h => by
    unfold wpM noX at h
    unfold wpM
    cases e : m ρ <;> rw [e] at h <;> exact h
  refine ha _ _ _ (wpM_mono (step h) fun x ρ1 h1 => ?_)
  rw [wpM_bind] at h1
  refine hb _ _ _ (wpM_mono (step h1) fun y ρ2 h2 => ?_)
  unfold wpM at h2
  dsimp only at h2
  split at h2
  · rename_i e
    split at e
    · try dsimp only
      split at e
      · rename_i e5
        try rw [e5]
        split at e
        · rename_i j e6
          cases e
          exact ⟨j, e6, h2⟩
        · cases e
      · cases e
    · cases e
  · exact h2.elim
  · exact h2.elim
theorem nx_ix : NoX (gIx (noX ma) (noX mb)) := fun z ρ x ρ' h => by
  have nn : ∀ {m : M DV} {ρ x ρ'}, noX m ρ ≠ .exc x ρ' := fun {m ρ x ρ'} h => by
    unfold noX at h
    split at h
    · cases h
    · rename_i h1; exact h1 _ _ h
  unfold gIx mbind at h
  cases e : noX ma ρ with
  | exc y ρ1 => exact nn e
  | bad => rw [e] at h; cases h
  | ok a ρ1 =>
    rw [e] at h
    dsimp only at h
    cases e1 : noX mb ρ1 with
    | exc y ρ1 => exact nn e1
    | bad => rw [e1] at h; cases h
    | ok b ρ2 =>
      rw [e1] at h
      dsimp only at h
      split at h
      · split at h
        · split at h <;> cases h
        · cases h
      · cases h
def oAddc := oIIc (fun _ _ => True) gAdd
def oSubc := oIIc (fun _ _ => True) gSub
theorem ir_addc : ImR cl oAddc (dII (fun _ _ => True) gAdd) := ir_IIc
theorem ir_subc : ImR cl oSubc (dII (fun _ _ => True) gSub) := ir_IIc
end
end FL
end

section
set_option Elab.async false
set_option linter.all false
set_option maxRecDepth 100000
set_option maxHeartbeats 1000000
set_option autoImplicit false
namespace FL
open PySem PySem.Spec PyProof.Rows L2 DL
theorem hf1 {m : PyData → RV PyData} {n : Nat} {b : M Flow} (h : ∀ a, m a = runP n b [a]) : ∀ ds, cur1 m ds ≠ .bad → cur1 m ds = runP n b ds := fun ds hd => by
  unfold cur1 at hd ⊢
  split
  · exact h _
  · rename_i hx
    split at hd
    · exact (hx _ rfl).elim
    · exact (hd rfl).elim
theorem hf2 {m : PyData → PyData → RV PyData} {n : Nat} {b : M Flow} (h : ∀ a c, m a c = runP n b [a, c]) : ∀ ds, cur2 m ds ≠ .bad → cur2 m ds = runP n b ds := fun ds hd => by
  match ds, hd with
  | [a, c], _ => exact h a c
  | [], hd => exact (hd rfl).elim
  | [_], hd => exact (hd rfl).elim
  | _ :: _ :: _ :: _, hd => exact (hd rfl).elim
theorem hf3 {m : PyData → PyData → PyData → RV PyData} {n : Nat} {b : M Flow} (h : ∀ a c d, m a c d = runP n b [a, c, d]) : ∀ ds, cur3 m ds ≠ .bad → cur3 m ds = runP n b ds := fun ds hd => by
  match ds, hd with
  | [a, c, d], _ => exact h a c d
  | [], hd => exact (hd rfl).elim
  | [_], hd => exact (hd rfl).elim
  | [_, _], hd => exact (hd rfl).elim
  | _ :: _ :: _ :: _ :: _, hd => exact (hd rfl).elim
theorem hf4 {m : PyData → PyData → PyData → PyData → RV PyData} {n : Nat} {b : M Flow} (h : ∀ a c d e, m a c d e = runP n b [a, c, d, e]) : ∀ ds, cur4 m ds ≠ .bad → cur4 m ds = runP n b ds := fun ds hd => by
  match ds, hd with
  | [a, c, d, e], _ => exact h a c d e
  | [], hd => exact (hd rfl).elim
  | [_], hd => exact (hd rfl).elim
  | [_, _], hd => exact (hd rfl).elim
  | [_, _, _], hd => exact (hd rfl).elim
  | _ :: _ :: _ :: _ :: _ :: _, hd => exact (hd rfl).elim
theorem hf5 {m : PyData → PyData → PyData → PyData → PyData → RV PyData} {n : Nat} {b : M Flow} (h : ∀ a c d e f, m a c d e f = runP n b [a, c, d, e, f]) : ∀ ds, cur5 m ds ≠ .bad → cur5 m ds = runP n b ds := fun ds hd => by
  match ds, hd with
  | [a, c, d, e, f], _ => exact h a c d e f
  | [], hd => exact (hd rfl).elim
  | [_], hd => exact (hd rfl).elim
  | [_, _], hd => exact (hd rfl).elim
  | [_, _, _], hd => exact (hd rfl).elim
  | [_, _, _, _], hd => exact (hd rfl).elim
  | _ :: _ :: _ :: _ :: _ :: _ :: _, hd => exact (hd rfl).elim
theorem hfD0 {m : Dk → RV (PyData × Dk)} {n : Nat} {b : M Flow} (h : ∀ k, m k = runD n b k []) : ∀ k ds, curD0 m k ds ≠ .bad → curD0 m k ds = runD n b k ds := fun k ds hd => by
  match ds, hd with
  | [], _ => exact h k
  | _ :: _, hd => exact (hd rfl).elim
theorem hfD1 {m : Dk → PyData → RV (PyData × Dk)} {n : Nat} {b : M Flow} (h : ∀ k a, m k a = runD n b k [a]) : ∀ k ds, curD1 m k ds ≠ .bad → curD1 m k ds = runD n b k ds := fun k ds hd => by
  match ds, hd with
  | [a], _ => exact h k a
  | [], hd => exact (hd rfl).elim
  | _ :: _ :: _, hd => exact (hd rfl).elim
theorem hfD2 {m : Dk → PyData → PyData → RV (PyData × Dk)} {n : Nat} {b : M Flow} (h : ∀ k a c, m k a c = runD n b k [a, c]) : ∀ k ds, curD2 m k ds ≠ .bad → curD2 m k ds = runD n b k ds := fun k ds hd => by
  match ds, hd with
  | [a, c], _ => exact h k a c
  | [], hd => exact (hd rfl).elim
  | [_], hd => exact (hd rfl).elim
  | _ :: _ :: _ :: _, hd => exact (hd rfl).elim
theorem hfD3 {m : Dk → PyData → PyData → PyData → RV (PyData × Dk)} {n : Nat} {b : M Flow} (h : ∀ k a c d, m k a c d = runD n b k [a, c, d]) : ∀ k ds, curD3 m k ds ≠ .bad → curD3 m k ds = runD n b k ds := fun k ds hd => by
  match ds, hd with
  | [a, c, d], _ => exact h k a c d
  | [], hd => exact (hd rfl).elim
  | [_], hd => exact (hd rfl).elim
  | [_, _], hd => exact (hd rfl).elim
  | _ :: _ :: _ :: _ :: _, hd => exact (hd rfl).elim
theorem hfD4 {m : Dk → PyData → PyData → PyData → PyData → RV (PyData × Dk)} {n : Nat} {b : M Flow} (h : ∀ k a c d e, m k a c d e = runD n b k [a, c, d, e]) : ∀ k ds, curD4 m k ds ≠ .bad → curD4 m k ds = runD n b k ds := fun k ds hd => by
  match ds, hd with
  | [a, c, d, e], _ => exact h k a c d e
  | [], hd => exact (hd rfl).elim
  | [_], hd => exact (hd rfl).elim
  | [_, _], hd => exact (hd rfl).elim
  | [_, _, _], hd => exact (hd rfl).elim
  | _ :: _ :: _ :: _ :: _ :: _, hd => exact (hd rfl).elim
theorem hfD5 {m : Dk → PyData → PyData → PyData → PyData → PyData → RV (PyData × Dk)} {n : Nat} {b : M Flow} (h : ∀ k a c d e f, m k a c d e f = runD n b k [a, c, d, e, f]) : ∀ k ds, curD5 m k ds ≠ .bad → curD5 m k ds = runD n b k ds := fun k ds hd => by
  match ds, hd with
  | [a, c, d, e, f], _ => exact h k a c d e f
  | [], hd => exact (hd rfl).elim
  | [_], hd => exact (hd rfl).elim
  | [_, _], hd => exact (hd rfl).elim
  | [_, _, _], hd => exact (hd rfl).elim
  | [_, _, _, _], hd => exact (hd rfl).elim
  | _ :: _ :: _ :: _ :: _ :: _ :: _, hd => exact (hd rfl).elim
end FL
namespace FL
open PySem PySem.Spec PyProof.Rows L2 DL
variable [Tab0]
section
variable {P : Program} {w0 : World} {K : PySem.W.Frag} {mg : Str → Option Value} {base : Heap} {cl : Str → Addr}
theorem fng_false {k : Nat} {f : Addr} {fd : FuncData} {ps : List Str} {sp : DSp} (h : ∀ dvs ob R X, ¬ sp dvs ob R X) : FnG P w0 K mg base k f fd ps (SpD K ps.length sp) :=
  ⟨fun vs H Q E ⟨_, _, _, _, _, _, _, _, _, _, z, _⟩ => (h _ _ _ _ z).elim, fun _ _ _ _ _ _ _ _ _ _ _ _ _ _ ⟨_, _, _, _, _, _, _, _, _, _, z, _⟩ => (h _ _ _ _ z).elim⟩
theorem mk_bad {k : Nat} {x : Str} {st : Stmt} {ps : List Str} {f : List PyData → RV PyData} {n : Nat} (h : Hd K mg x st ps) (hn : ps.length = n) (hf : ∀ ds, f ds = .bad) : DefG P w0 K mg base k x st ps (purR cl n f) := by
  obtain ⟨fa, fd, F, hm, bd⟩ := h.ex
  have no : ∀ dvs ob R X, ¬ purR cl n f dvs ob R X := fun dvs ob R X ⟨ds, _, _, _, z⟩ => by rw [hf] at z; exact z
  exact ⟨⟨fa, fd, fng_false no, hm, F.kp, bd, F⟩, fun _ _ _ _ z => (no _ _ _ _ z).elim⟩
theorem mk_badD {k : Nat} {x : Str} {st : Stmt} {ps : List Str} {f : Dk → List PyData → RV (PyData × Dk)} {n : Nat} (h : Hd K mg x st ps) (hf : ∀ k ds, f k ds = .bad) : DefG P w0 K mg base k x st ps (dkR n f) := by
  obtain ⟨fa, fd, F, hm, bd⟩ := h.ex
  have no : ∀ dvs ob R X, ¬ dkR n f dvs ob R X := fun dvs ob R X ⟨ds, k, _, _, _, z⟩ => by rw [hf] at z; exact z
  exact ⟨⟨fa, fd, fng_false no, hm, F.kp, bd, F⟩, fun _ _ _ _ z => (no _ _ _ _ z).elim⟩
/-- what the head tells of a def -/
theorem hd_of {h : Heap} {x : Str} {st : Stmt} {ps : List Str} {f : Addr} {oc : Value} {od an : Option Addr} {sl : Array (Option Value)} {kV dc pm cd ct : Value} (X : K.In h) (G : h.Ns mainGlobals mg)
    (a : PySem.W.nsIn K mainGlobals x = some (some (.ref f))) (l : K.lookup f = some ⟨oc, od, .func (PySem.W.fnOf x x (defArgs st) (defBody st) (defScope st) .none kV dc pm an cd ct), sl⟩) (c : PySem.W.codeIn K cd x = true) (k : PySem.W.keepIn K (.ref f) = true)
    (hb : ∀ (kV doc pm : Value) (an : Option Addr) (cdv ct : Value) (us : List Value), us.length = ps.length → bindArgs (PySem.W.fnOf x x (defArgs st) (defBody st) (defScope st) .none kV doc pm an cdv ct) ⟨us, []⟩ = pure (ps.zip us)) : Hd K mg x st ps :=
  ⟨f, _, fun_mk l c k, PySem.W.mg_of X G a, (fun_mk l c k).binds hb⟩
/-- an own error's class, as the module's names tell it -/
def clOf (mg : Str → Option Value) (x : Str) : Addr := match mg x with
  | some (.ref a) => a
  | _ => 0
theorem exe_of {h : Heap} {x qual fx : Str} {st : Stmt} {C fI B : Addr} {nm q N bs sn sub ab col dd k0 k1 k2 k3 k5} {oc : Value} {od an : Option Addr} {sl : Array (Option Value)} {kV dc pm cd ct : Value} {p1 p2 p3 p4 : Pos} (X : K.In h) (G : h.Ns mainGlobals mg)
    (g : PySem.W.nsIn K mainGlobals x = some (some (.ref C))) (c : K.lookup C = some (excClassObj nm q C N bs (.ref B :: tailE) true sn sub ab col dd k0 k1 k2 k3 k5 "Exception.__new__"))
    (sa : PySem.W.findIn K (.ref C) "__setattr__" = some (some (.builtin "object.__setattr__"))) (exC : PySem.W.subIn K (.ref C) (.type "BaseException") = some true) (tyC : PySem.W.typeIn K (.ref C) = some (.type "type")) (kC : PySem.W.keepIn K (.ref C) = true)
    (iC : PySem.W.findIn K (.ref C) "__init__" = some (some (.ref fI))) (tI : PySem.W.typeIn K (.ref fI) = some (.type "function")) (hno : PySem.W.findIn K (.ref C) fx = some none)
    (l : K.lookup fI = some ⟨oc, od, .func (PySem.W.fnOf "__init__" qual (defArgs st) (defBody st) (defScope st) .none kV dc pm an cd ct), sl⟩) (cc : PySem.W.codeIn K cd qual = true) (kk : PySem.W.keepIn K (.ref fI) = true)
    (S : FnScope ["self", fx] ["self", fx] (defScope st)) (hb : defBody st = [.Assign [.Attribute (.Name "self" p1) fx p2] (.Name fx p3) p4])
    (v0 : Vis (defScope st) "self") (v1 : Vis (defScope st) fx) (hd : (fx == ("__debug__" : Str)) = false) (hcd : (fx == ("__classdict__" : Str)) = false)
    (hs : ∀ env : Env, env.scope = defScope st → swapsWith (.Name fx p3) (some (.Attribute (.Name "self" p1) fx p2)) p4.line env = pure false)
    (hbi : ∀ (kV doc pm : Value) (an : Option Addr) (cdv ct : Value) (us : List Value), us.length = (["self", fx] : List Str).length → bindArgs (PySem.W.fnOf "__init__" qual (defArgs st) (defBody st) (defScope st) .none kV doc pm an cdv ct) ⟨us, []⟩ = pure ((["self", fx] : List Str).zip us)) :
    ExE P w0 K mg base 1 x (clOf mg x) fx := by
  have gm := PySem.W.mg_of X G g
  have e : clOf mg x = C := by unfold clOf; rw [gm]
  rw [e]
  have T : OexE K C := ⟨⟨nm, q, N, bs, [B], sn, sub, ab, col, dd, k0, k1, k2, k3, k5, c⟩, sa, exC, tyC, kC⟩
  have F := fun_mk (st := st) l cc kk
  exact ⟨⟨fI, _, _, T, iC, tI, init_fn F S hb T hno v0 v1 hd hcd hs, F.binds hbi⟩, gm⟩
/-- the end: the law's function gives True -/
def finR (f : PyData → RV PyData) : DSp := fun dvs ob R _ => ∃ x, dvs = [.d x] ∧ ob = [] ∧ f x = .ok (.bool true) ∧ ∀ ob', R (.d (.bool true)) ob'
theorem fin_of {k : Nat} {f : Addr} {fd : FuncData} {p : Str} {m : PyData → RV PyData} (F : FnG P w0 K mg base k f fd [p] (SpD K 1 (purR cl 1 (cur1 m)))) : FnG P w0 K mg base k f fd [p] (SpD K 1 (finR m)) := by
  have im : ∀ vs H Q E, SpD K 1 (finR m) vs H Q E → SpD K 1 (purR cl 1 (cur1 m)) vs H Q E := by
    rintro vs H Q E ⟨F, G, as, dvs, ob, R, X, h1, h2, h3, ⟨x, rfl, rfl, e, r⟩, h5, h6⟩
    refine ⟨F, G, as, _, _, R, X, h1, h2, h3, ⟨[x], rfl, rfl, rfl, ?_⟩, h5, h6⟩
    have : cur1 m [x] = .ok (.bool true) := e
    rw [this]
    exact r
  exact ⟨fun vs H Q E h => F.len vs H Q E (im _ _ _ _ h), fun A g r o s H env args us vs b v Q E h => F.run A g r o s H env args us vs b v Q E (im _ _ _ _ h)⟩
end
end FL
end

section
set_option Elab.async false
set_option linter.all false
set_option maxRecDepth 100000
set_option maxHeartbeats 1000000
set_option autoImplicit false
namespace FL
open PySem PySem.Spec PyProof.Rows L2 DL
variable [Tab0]
section
variable {cl : Str → Addr} {ma mb mc : M DV} {wa wb wc : WE}
/-- e != sorted(d), d a dict with tuple keys -/
def sortsK (ks : List (List Key)) : Bool := (ks.map tupP).all (fun d => (ks.map tupP).all fun d' => PySem.W.alike d d') && (ks.all (fun k => match k with
  | _ :: _ => true
  | [] => false))
theorem sortsK_iff {ks : List (List Key)} (h : sortsK ks = true) : PySem.W.AllAlike (ks.map tupP) ∧ PySem.W.Sortable (ks.map tupP) := by
  unfold sortsK at h
  rw [Bool.and_eq_true] at h
  obtain ⟨h1, h2⟩ := h
  refine ⟨fun d hd d' hd' => List.all_eq_true.mp (List.all_eq_true.mp h1 d hd) d' hd', .inl fun d hd => ?_⟩
  obtain ⟨k, hk, rfl⟩ := List.mem_map.mp hd
  have := List.all_eq_true.mp h2 k hk
  match k, this with
  | x :: r, _ => exact ⟨kP x, r.map kP, rfl⟩
def rNeSd (x y : DV) (ρ : S) : Option (DV × S) := match y with
  | .d y => match datOf ρ x, keysT y with
    | some d, some ks => if sortsK ks && (eqs d && eqs (.list (srtK ks))) then some (.d (.bool (!PyData.eqv d (.list (srtK ks)))), ρ) else none
    | _, _ => none
  | _ => none
def oNeSd := oOp rNeSd
theorem ir_neSd : ImR cl oNeSd dNeSd := ir_op fun x y ρ z Q e q => by
  unfold rNeSd at e
  unfold dNeSd
  split at e
  · split at e
    · rename_i d ks h1 h2
      split at e
      · rename_i h3
        rw [Bool.and_eq_true, Bool.and_eq_true] at h3
        cases e
        obtain ⟨h4, h5⟩ := sortsK_iff h3.1
        exact ⟨d, ks, h1, h2, h4, h5, eqs_iff h3.2.1, eqs_iff h3.2.2, q⟩
      · cases e
    · cases e
  · cases e
end
end FL
end

section
set_option Elab.async false
set_option linter.all false
set_option maxRecDepth 100000
set_option maxHeartbeats 1000000
set_option autoImplicit false
namespace DL
open PySem PySem.Spec PyProof.Rows L2 StX
variable [Tab0]
section
variable {T : Sta} {pos p : Pos} {a b e o i value tg : Expr} {es : List Expr} {wa wb wo wi wv : WE} {w : WA} {K : PySem.W.Frag}
/-! ### *xs -/
def wStar (wa : WE) (w : WA) : WA := fun ρ Q X => wa ρ (fun x ρ1 => ∃ l, seqOf ρ1 x = some l ∧ w ρ1 (fun ys ρ2 => Q (l ++ ys) ρ2) X) X
theorem pda_star (ha : PD T e wa) (hr : PDA T es w) (hs : ∀ env, starEach (.Starred e p :: es) env = (true, eval e env) :: starEach es env := by intro _; rfl) : PDA T (.Starred e p :: es) (wStar wa w) := by
  obtain ⟨ta, ha, da⟩ := ha
  obtain ⟨t, ht, d⟩ := hr
  refine ⟨fun W => tStar T.K (ta W) (t W), fun W X g tk => by rw [← g.K]; exact pa_star (ha W X g tk) (ht W X g tk) (hs _), fun ρ Q X h W σ F G H as ok acc C k => ?_⟩
  refine da _ _ _ h W σ F G H as ok acc _ fun x ρ1 v G1 H1 as1 h1 ok1 n1 r1 => ?_
  obtain ⟨l, h2, h3⟩ := h1
  obtain ⟨a, xs, rfl, hs, rr⟩ := seqOf_rep ok1 r1 h2
  refine ⟨a, xs, rfl, hs.symm, ?_⟩
  refine d _ _ _ h3 W σ F G1 H1 as1 ok1 (acc.next n1) _ fun ys ρ2 vs G2 H2 as2 h4 ok2 n2 r2 => ?_
  exact k _ ρ2 _ G2 H2 as2 h4 ok2 (n1.trans n2) ((rr.mono n2).append r2)
/-! ### x in xs -/
def rInA (K : PySem.W.Frag) (neg : Bool) : R2 := fun x y H Q => ∃ d ds, Dp K H x d ∧ d.canLay0 = true ∧ d.depth ≤ 60 ∧ PyData.canLayAll0 ds = true ∧ (Dp K H y (.list ds) ∨ Dp K H y (.tuple ds)) ∧ Q (.bl (if neg then !ds.any fun z => PyData.eqv z d else ds.any fun z => PyData.eqv z d)) H
theorem min_room {A : Around} {ds : List PyData} {d : PyData} (hd : d.depth ≤ 60) (hu : A.units + 64 < cLine) : A.units + 1 + min (PyData.depthAll ds) d.depth < cLine := by
  have : min (PyData.depthAll ds) d.depth ≤ d.depth := Nat.min_le_right _ _
  omega
theorem op_inA {X : Cx} (hu : X.A.units + 64 < cLine) : OpR X (compareOp .In) (rInA X.K false) := by
  intro pins s σ H x y v u Q I rx ry h
  obtain ⟨d, ds, hd, cd, dd, cs, he, q⟩ := h
  obtain ⟨as, r1⟩ := Dp.reads I d x v hd rx
  rcases he with he | he
  · obtain ⟨bs, r2⟩ := Dp.reads I (.list ds) y u he ry
    exact SeqAt.in_list_reads r2 r1 cs cd (min_room dd hu) ⟨.bl _, H, I, rfl, q⟩
  · obtain ⟨bs, r2⟩ := Dp.reads I (.tuple ds) y u he ry
    exact SeqAt.in_tuple_reads r2 r1 cs cd (min_room dd hu) ⟨.bl _, H, I, rfl, q⟩
theorem op_notInA {X : Cx} (hu : X.A.units + 64 < cLine) : OpR X (compareOp .NotIn) (rInA X.K true) := by
  intro pins s σ H x y v u Q I rx ry h
  obtain ⟨d, ds, hd, cd, dd, cs, he, q⟩ := h
  obtain ⟨as, r1⟩ := Dp.reads I d x v hd rx
  rcases he with he | he
  · obtain ⟨bs, r2⟩ := Dp.reads I (.list ds) y u he ry
    exact SeqAt.notIn_list_reads r2 r1 cs cd (min_room dd hu) ⟨.bl _, H, I, rfl, q⟩
  · obtain ⟨bs, r2⟩ := Dp.reads I (.tuple ds) y u he ry
    exact SeqAt.notIn_tuple_reads r2 r1 cs cd (min_room dd hu) ⟨.bl _, H, I, rfl, q⟩
def seqI : PyData → Option (List PyData)
  | .list ds => some ds
  | .tuple ds => some ds
  | _ => none
def dInS (neg : Bool) : DV → DV → S → QD → Prop := fun x y ρ Q => ∃ d e ds, datOf ρ x = some d ∧ datOf ρ y = some e ∧ seqI e = some ds ∧ d.hasDict = false ∧ PyData.hasDictAll ds = false ∧ d.canLay0 = true ∧ d.depth ≤ 60 ∧ PyData.canLayAll0 ds = true ∧ Q (.d (.bool (if neg then !ds.any fun z => PyData.eqv z d else ds.any fun z => PyData.eqv z d))) ρ
theorem opd_inS {neg : Bool} : OpD K (rInA K neg) (dInS neg) := by
  intro x y ρ Q h σ F G H as v u ok rx ry C k
  obtain ⟨d, e, ds, h1, h2, h3, h4, h5, h6, h7, h8, q⟩ := h
  have r1 := datOf_rep ok rx h1
  have r2 := datOf_rep ok ry h2
  refine ⟨d, ds, rep_dp (Same.refl H) d v r1 h4, h6, h7, h8, ?_, k (.d (.bool _)) ρ _ G H as q ok (Nxt.refl _ _) (.bl _)⟩
  cases e with
  | list es =>
    cases h3
    exact .inl (rep_dp (Same.refl H) (.list ds) u r2 (by simpa [PyData.hasDict] using h5))
  | tuple es =>
    cases h3
    exact .inr (rep_dp (Same.refl H) (.tuple ds) u r2 (by simpa [PyData.hasDict] using h5))
  | _ => cases h3
theorem cd_inS : CmpD T .In (dInS false) := ⟨_, fun X e _ hu => by rw [← e]; exact op_inA hu, opd_inS⟩
theorem cd_notInS : CmpD T .NotIn (dInS true) := ⟨_, fun X e _ hu => by rw [← e]; exact op_notInA hu, opd_inS⟩
/-! ### k in d, as a test -/
theorem de_din {neg : Bool} {to ti : WX → TE} (d1 : ∀ ρ Q X, wo ρ Q X → DE K to ρ Q X) (d2 : ∀ ρ Q X, wi ρ Q X → DE K ti ρ Q X) {ρ : S} {Q : QD} {X : QX} (h : wOp (dDI neg) wi wo ρ Q X) : DE K (fun W => if neg then tDNotIn (ti W) (to W) else tDIn (ti W) (to W)) ρ Q X := by
  intro W σ F G H as ok acc C k
  cases neg with
  | false =>
    show tDIn (ti W) (to W) σ H C
    refine d2 _ _ _ h W σ F G H as ok acc _ fun y ρ1 u G1 H1 as1 h1 ok1 n1 r1 => ?_
    refine d1 _ _ _ h1 W σ F G1 H1 as1 ok1 (acc.next n1) _ fun x ρ2 v G2 H2 as2 h2 ok2 n2 r2 => ?_
    have h2 : dDI false y x ρ2 Q := h2
    unfold dDI at h2
    cases e : getR ρ2 x y with
    | none => rw [e] at h2; exact h2.elim
    | some oz =>
      rw [e] at h2
      obtain ⟨a, ov, rfl, dg, rr⟩ := getR_ok ok2 r2 (r1.mono n2) e
      exact ⟨a, ov, rfl, dg, by rw [opt_some rr]; exact (k.next (n1.trans n2)).same ok2 h2 (.bl _)⟩
  | true =>
    show tDNotIn (ti W) (to W) σ H C
    refine d2 _ _ _ h W σ F G H as ok acc _ fun y ρ1 u G1 H1 as1 h1 ok1 n1 r1 => ?_
    refine d1 _ _ _ h1 W σ F G1 H1 as1 ok1 (acc.next n1) _ fun x ρ2 v G2 H2 as2 h2 ok2 n2 r2 => ?_
    have h2 : dDI true y x ρ2 Q := h2
    unfold dDI at h2
    cases e : getR ρ2 x y with
    | none => rw [e] at h2; exact h2.elim
    | some oz =>
      rw [e] at h2
      obtain ⟨a, ov, rfl, dg, rr⟩ := getR_ok ok2 r2 (r1.mono n2) e
      exact ⟨a, ov, rfl, dg, by rw [opt_some rr]; exact (k.next (n1.trans n2)).same ok2 h2 (.bl _)⟩
theorem pdt_din (hi : PD T i wi) (ho : PD T o wo) (hm : behindInMarks .In o = false := by rfl) : PDT T (.Compare i [.In] [o] pos) (wB (wOp (dDI false) wi wo)) := by
  obtain ⟨to, ho, d1⟩ := ho
  obtain ⟨ti, hi, d2⟩ := hi
  exact ⟨fun W => tB (tDIn (ti W) (to W)), fun W X g tk => L2.pt_cmp (pc_din (u1 g.room.units) (hi W X g tk) (ho W X g tk)) hm, fun ρ Q X h => dt_of (t := fun W => tDIn (ti W) (to W)) (fun ρ Q X h => de_din (neg := false) d1 d2 h) h⟩
theorem pdt_dnin (hi : PD T i wi) (ho : PD T o wo) (hm : behindInMarks .NotIn o = false := by rfl) : PDT T (.Compare i [.NotIn] [o] pos) (wB (wOp (dDI true) wi wo)) := by
  obtain ⟨to, ho, d1⟩ := ho
  obtain ⟨ti, hi, d2⟩ := hi
  exact ⟨fun W => tB (tDNotIn (ti W) (to W)), fun W X g tk => L2.pt_cmp (pc_dnotin (u1 g.room.units) (hi W X g tk) (ho W X g tk)) hm, fun ρ Q X h => dt_of (t := fun W => tDNotIn (ti W) (to W)) (fun ρ Q X h => de_din (neg := true) d1 d2 h) h⟩
end
end DL
namespace FL
open PySem PySem.Spec PyProof.Rows L2 DL
variable [Tab0]
section
variable {cl : Str → Addr} {ma mb mc : M DV} {wa wb wc : WE} {m : M (List DV)} {w : WA}
def mStar (a : M DV) (m : M (List DV)) : M (List DV) := mbind a fun x ρ1 => match seqOf ρ1 x with
  | some l => mbind m (fun ys => mret (l ++ ys)) ρ1
  | none => .bad
theorem im_star (ha : ImE cl ma wa) (hm : ImA cl m w) : ImA cl (mStar ma m) (wStar wa w) := by
  intro ρ Q X h
  unfold mStar at h
  rw [wpM_bind] at h
  refine ha _ _ _ (wpM_mono h fun x ρ1 h1 => ?_)
  unfold wpM at h1
  dsimp only at h1
  cases e : seqOf ρ1 x with
  | none => rw [e] at h1; exact h1.elim
  | some l =>
    rw [e] at h1
    have h1 : wpM cl (mbind m fun ys => mret (l ++ ys)) ρ1 Q X := h1
    rw [wpM_bind] at h1
    exact ⟨l, rfl, hm _ _ _ (wpM_mono h1 fun y ρ2 h2 => h2)⟩
def rInSq (neg : Bool) (x y : DV) (ρ : S) : Option (DV × S) := match datOf ρ x, datOf ρ y with
  | some d, some e => match seqI e with
    | some ds => if !d.hasDict && (!PyData.hasDictAll ds && (d.canLay0 && (decide (d.depth ≤ 60) && PyData.canLayAll0 ds))) then some (.d (.bool (if neg then !ds.any fun z => PyData.eqv z d else ds.any fun z => PyData.eqv z d)), ρ) else none
    | none => none
  | _, _ => none
def oInS := oOp (rInSq false)
def oNotInS := oOp (rInSq true)
theorem ir_inS {neg : Bool} : ImR cl (oOp (rInSq neg)) (dInS neg) := ir_op fun x y ρ z Q e q => by
  unfold rInSq at e
  split at e
  · rename_i d y h1 h2
    split at e
    · rename_i ds h3
      split at e
      · rename_i h4
        simp only [Bool.and_eq_true, Bool.not_eq_true', decide_eq_true_eq] at h4
        cases e
        exact ⟨d, y, ds, h1, h2, h3, h4.1, h4.2.1, h4.2.2.1, h4.2.2.2.1, h4.2.2.2.2, q⟩
      · cases e
    · cases e
  · cases e
def rAbs : List DV → S → Option (DV × S)
  | [.d (.int i)], ρ => some (.d (.int (if i < 0 then -i else i)), ρ)
  | _, _ => none
def oAbs := cOp rAbs
def dAbs : List DV → S → QD → Prop := fun xs ρ Q => match xs with
  | [.d (.int i)] => Q (.d (.int (if i < 0 then -i else i))) ρ
  | _ => False
theorem ic_abs : ImC cl oAbs dAbs := ic_op fun x ρ z Q e q => by
  unfold rAbs at e
  unfold dAbs
  split at e <;> cases e <;> exact q
theorem pd_abs {T : Sta} {pos p : Pos} {e : Expr} {w : WA} (hg : T.sc.names.lookup ("abs" : Str) = some .globalImplicit) (hm : T.mg "abs" = none) (ha : PDA T [e] w) (he : ∀ env, starEach [e] env = (false, eval e env) :: starEach [] env := by intro _; rfl) :
    PD T (.Call (.Name "abs" p) [e] [] pos) (wCa dAbs w) :=
  pd_callB (fun X _ _ _ _ _ _ => call_abs) (fun x ρ Q h σ F G H as v ok rx C k => by
    match x, h, rx with
    | [.d (.int i)], h, .cons (v := v) r .nil =>
      cases repI r
      exact ⟨i, rfl, k (.d (.int (if i < 0 then -i else i))) ρ _ G H as h ok (Nxt.refl _ _) (Rep.int _)⟩) hg hm (by decide +kernel) ha (he := he) (hpl := fun _ => rfl)
end
end FL
end

section
set_option Elab.async false
set_option linter.all false
set_option maxRecDepth 100000
set_option maxHeartbeats 1000000
set_option autoImplicit false
/-! ## How the functions of data run: equations for simp -/
namespace FL
open PySem PySem.Spec PyProof.Rows L2 DL
def R.bd {α β : Type} (r : R α) (f : α → S → R β) : R β := match r with
  | .ok a ρ => f a ρ
  | .exc x ρ => .exc x ρ
  | .bad => .bad
section
variable {α β γ : Type} {ρ : S} {a b c : M DV} {t u : M Bool} {m : M (List DV)}
@[simp] theorem bd_ok {x : α} {f : α → S → R β} : (R.ok x ρ).bd f = f x ρ := rfl
@[simp] theorem bd_exc {x : XV} {f : α → S → R β} : (R.exc x ρ : R α).bd f = .exc x ρ := rfl
@[simp] theorem bd_bad {f : α → S → R β} : (R.bad : R α).bd f = .bad := rfl
theorem bd_bd {r : R α} {f : α → S → R β} {g : β → S → R γ} : (r.bd f).bd g = r.bd fun x ρ => (f x ρ).bd g := by cases r <;> rfl
@[simp] theorem mret_ap {x : α} : mret x ρ = .ok x ρ := rfl
@[simp] theorem mbad_ap : (mbad : M α) ρ = .bad := rfl
@[simp] theorem mbind_ap {x : M α} {f : α → M β} : mbind x f ρ = (x ρ).bd f := by
  unfold mbind R.bd; cases x ρ <;> rfl
theorem mbind_fun {x : M α} {f : α → M β} : mbind x f = fun ρ => (x ρ).bd f := by funext ρ; exact mbind_ap
def oOk {α : Type} (o : Option α) (ρ : S) : R α := match o with
  | some x => .ok x ρ
  | none => .bad
@[simp] theorem oOk_some {x : α} : oOk (some x) ρ = .ok x ρ := rfl
@[simp] theorem oOk_none : oOk (none : Option α) ρ = .bad := rfl
@[simp] theorem mVar_ap {i : Nat} : mVar i ρ = oOk (slot ρ.sl i) ρ := by
  unfold mVar oOk; cases slot ρ.sl i <;> rfl
@[simp] theorem slot_z {x : Option DV} {r : List (Option DV)} : slot (x :: r) 0 = x := rfl
@[simp] theorem slot_s {x : Option DV} {r : List (Option DV)} {n : Nat} : slot (x :: r) (n + 1) = slot r n := rfl
@[simp] theorem mC_ap {x : PyData} : mC x ρ = .ok (.d x) ρ := rfl
@[simp] theorem mOp_ap {f : DV → DV → M DV} : mOp f a b ρ = (a ρ).bd fun x ρ1 => (b ρ1).bd fun y ρ2 => f x y ρ2 := by simp [mOp, mbind_fun]
@[simp] theorem mUn_ap {f : DV → M DV} : mUn f a ρ = (a ρ).bd f := by simp [mUn]
@[simp] theorem mCa_ap {f : List DV → M DV} : mCa f m ρ = (m ρ).bd f := by simp [mCa]
@[simp] theorem mNil_ap : mNil ρ = .ok [] ρ := rfl
@[simp] theorem mCons_ap : mCons a m ρ = (a ρ).bd fun x ρ1 => (m ρ1).bd fun xs ρ2 => .ok (x :: xs) ρ2 := by simp [mCons, mbind_fun]; rfl
def andK (x : DV) (k : M DV) : M DV := match x with
  | .d (.bool true) => k
  | .d (.bool false) => mret (.d (.bool false))
  | _ => mbad
def orK (x : DV) (k : M DV) : M DV := match x with
  | .d (.bool true) => mret (.d (.bool true))
  | .d (.bool false) => k
  | _ => mbad
@[simp] theorem mAnd_ap : mAnd a b ρ = (a ρ).bd fun x ρ1 => andK x b ρ1 := by
  rw [show mAnd a b = mbind a fun x => andK x b from rfl]; simp
@[simp] theorem mOr_ap : mOr a b ρ = (a ρ).bd fun x ρ1 => orK x b ρ1 := by
  rw [show mOr a b = mbind a fun x => orK x b from rfl]; simp
@[simp] theorem andK_b {x : Bool} {k : M DV} : andK (.d (.bool x)) k ρ = if x = true then k ρ else .ok (.d (.bool false)) ρ := by cases x <;> rfl
@[simp] theorem orK_b {x : Bool} {k : M DV} : orK (.d (.bool x)) k ρ = if x = true then .ok (.d (.bool true)) ρ else k ρ := by cases x <;> rfl
@[simp] theorem mAndT_ap : mAndT t u ρ = (t ρ).bd fun x ρ1 => if x = true then u ρ1 else .ok false ρ1 := by
  unfold mAndT; rw [mbind_ap]; congr 1; funext x; cases x <;> rfl
@[simp] theorem mOrT_ap : mOrT t u ρ = (t ρ).bd fun x ρ1 => if x = true then .ok true ρ1 else u ρ1 := by
  unfold mOrT; rw [mbind_ap]; congr 1; funext x; cases x <;> rfl
@[simp] theorem mNotT_ap : mNotT t ρ = (t ρ).bd fun x ρ1 => .ok (!x) ρ1 := by simp [mNotT]; rfl
def bK (x : DV) : M Bool := match x with
  | .d (.bool b) => mret b
  | _ => mbad
@[simp] theorem mB_ap : mB a ρ = (a ρ).bd fun x ρ1 => bK x ρ1 := by
  rw [show mB a = mbind a fun x => bK x from rfl]; simp
@[simp] theorem bK_b {x : Bool} : bK (.d (.bool x)) ρ = .ok x ρ := rfl
@[simp] theorem mIfE_ap : mIfE t a b ρ = (t ρ).bd fun x ρ1 => if x = true then a ρ1 else b ρ1 := by
  unfold mIfE; rw [mbind_ap]; congr 1; funext x; cases x <;> rfl
@[simp] theorem allD_nil : allD [] = some [] := rfl
@[simp] theorem allD_cons {x : PyData} {r : List DV} : allD (.d x :: r) = (allD r).map (x :: ·) := by
  show (match allD r with | some l => some (x :: l) | none => none) = _
  cases allD r <;> rfl
@[simp] theorem allD_dmap {l : List PyData} : allD (l.map .d) = some l := @allD_map ⟨[]⟩ l
@[simp] theorem mTup_ap : mTup m ρ = (m ρ).bd fun xs ρ1 => (oOk (allD xs) ρ1).bd fun ds ρ2 => if ds.length ≤ sizeLine then .ok (.d (.tuple ds)) ρ2 else .bad := by
  unfold mTup; rw [mbind_ap]; congr 1; funext xs ρ1
  cases allD xs with
  | none => rfl
  | some ds => simp; split <;> rfl
@[simp] theorem mLst_ap : mLst m ρ = (m ρ).bd fun xs ρ1 => if xs.length ≤ sizeLine then .ok (.o ρ1.ob.length) ⟨ρ1.sl, ρ1.ob ++ [.lst xs]⟩ else .bad := by
  unfold mLst; rw [mbind_ap]; congr 1; funext xs ρ1; split <;> rfl
theorem size0 : (0 : Nat) ≤ sizeLine := Nat.zero_le _
theorem sizeL : sizeLine = 16777216 := rfl
/-! ### operations -/
section
variable {i j : Int} {x y : PyData}
@[simp] theorem oII_i {g : Int → Int → PyData} : oII g (.d (.int i)) (.d (.int j)) ρ = .ok (.d (g i j)) ρ := rfl
@[simp] theorem oIIc_i {c : Int → Int → Prop} [∀ i j, Decidable (c i j)] {g : Int → Int → PyData} : oIIc c g (.d (.int i)) (.d (.int j)) ρ = if c i j then .ok (.d (g i j)) ρ else .bad := by
  show (if c i j then (mret (DV.d (g i j)) : M DV) else mbad) ρ = _
  split <;> rfl
@[simp] theorem oAddA_i : oAddA (.d (.int i)) (.d (.int j)) ρ = .ok (.d (.int (i + j))) ρ := rfl
@[simp] theorem oMulA_i : oMulA (.d (.int i)) (.d (.int j)) ρ = if CMul i j ∨ CMulW i j then .ok (.d (.int (i * j))) ρ else .bad := by
  unfold oMulA oAlt
  rw [show oMul (DV.d (.int i)) (DV.d (.int j)) ρ = _ from oIIc_i]
  by_cases h : CMul i j
  · rw [if_pos h, if_pos (.inl h)]
  · rw [if_neg h]
    try dsimp only
    rw [show oMulW (DV.d (.int i)) (DV.d (.int j)) ρ = _ from oIIc_i]
    by_cases h2 : CMulW i j
    · rw [if_pos h2, if_pos (.inr h2)]
    · rw [if_neg h2, if_neg (by rintro (z | z) <;> contradiction)]
      rfl
@[simp] theorem oLtA_i : oLtA (.d (.int i)) (.d (.int j)) ρ = .ok (.d (.bool (decide (i < j)))) ρ := rfl
@[simp] theorem oNeg_i : oNeg (.d (.int i)) ρ = .ok (.d (.int (-i))) ρ := rfl
@[simp] theorem oNot_b {x : Bool} : oNot (.d (.bool x)) ρ = .ok (.d (.bool (!x))) ρ := rfl
@[simp] theorem oIsi_int : oIsi "int" (.d x) ρ = .ok (.d (.bool (DL.isInt x))) ρ := by
  unfold oIsi uOp rIsi
  rw [if_neg (@tyN_ne ⟨[]⟩ ρ x), @k_int ⟨[]⟩]
@[simp] theorem oIsi_bool : oIsi "bool" (.d x) ρ = .ok (.d (.bool (DL.isBool x))) ρ := by
  unfold oIsi uOp rIsi
  rw [if_neg (@tyN_ne ⟨[]⟩ ρ x), @k_bool ⟨[]⟩]
@[simp] theorem oIsi_tup : oIsi "tuple" (.d x) ρ = .ok (.d (.bool (DL.isTup x))) ρ := by
  unfold oIsi uOp rIsi
  rw [if_neg (@tyN_ne ⟨[]⟩ ρ x), @k_tup ⟨[]⟩]
@[simp] theorem oIx_t {ds : List PyData} : oIx (.d (.tuple ds)) (.d (.int i)) ρ = oOk ((atI ds i).map .d) ρ := by
  unfold oIx oOp ox
  show (match (match (atI ds i).map DV.d with | some z => some (z, ρ) | none => none) with | some p => R.ok p.1 p.2 | none => .bad) = _
  cases atI ds i <;> rfl
@[simp] theorem oIx_l {ds : List PyData} : oIx (.d (.list ds)) (.d (.int i)) ρ = oOk ((atI ds i).map .d) ρ := by
  unfold oIx oOp ox
  show (match (match (atI ds i).map DV.d with | some z => some (z, ρ) | none => none) with | some p => R.ok p.1 p.2 | none => .bad) = _
  cases atI ds i <;> rfl
@[simp] theorem oLen_t {ds : List PyData} : oLen [.d (.tuple ds)] ρ = .ok (.d (.int (ds.length : Nat))) ρ := by
  unfold oLen cOp rLen ox
  show R.ok (DV.d (.int ((ds.map DV.d).length : Nat))) ρ = _
  rw [List.length_map]
@[simp] theorem oLen_l {ds : List PyData} : oLen [.d (.list ds)] ρ = .ok (.d (.int (ds.length : Nat))) ρ := by
  unfold oLen cOp rLen ox
  show R.ok (DV.d (.int ((ds.map DV.d).length : Nat))) ρ = _
  rw [List.length_map]
@[simp] theorem oTuple_t {ds : List PyData} : oTuple [.d (.tuple ds)] ρ = .ok (.d (.tuple ds)) ρ := rfl
@[simp] theorem oTuple_l {ds : List PyData} : oTuple [.d (.list ds)] ρ = .ok (.d (.tuple ds)) ρ := rfl
@[simp] theorem oInt_i : oInt [.d (.int i)] ρ = .ok (.d (.int i)) ρ := rfl
@[simp] theorem oMin_i : oMin [.d (.int i), .d (.int j)] ρ = .ok (.d (.int (if j < i then j else i))) ρ := rfl
@[simp] theorem oMax_i : oMax [.d (.int i), .d (.int j)] ρ = .ok (.d (.int (if j > i then j else i))) ρ := rfl
theorem bools_of {xs : List PyData} {p : PyData → Bool} : bools (xs.map fun x => .bool (p x)) = some (xs.map p) := by
  have := @bools_map ⟨[]⟩ (xs.map p)
  rwa [List.map_map] at this
@[simp] theorem oAll_l {xs : List PyData} {p : PyData → Bool} : oAll [.d (.list (xs.map fun x => .bool (p x)))] ρ = .ok (.d (.bool (xs.all p))) ρ := by
  unfold oAll cOp rBools
  show (match (match bools (xs.map fun x => PyData.bool (p x)) with | some bs => some (DV.d (.bool (bs.all id)), ρ) | none => none) with | some p => R.ok p.1 p.2 | none => .bad) = _
  rw [bools_of]
  show R.ok (DV.d (.bool ((xs.map p).all id))) ρ = _
  rw [List.all_map]
  rfl
theorem oEq_d (hx : eqs x = true) (hy : eqs y = true) : oEq (.d x) (.d y) ρ = .ok (.d (.bool (PyData.eqv x y))) ρ := by
  unfold oEq oOp rEq
  show (match (if (eqs x && eqs y) = true then some (DV.d (.bool (if false = true then !PyData.eqv x y else PyData.eqv x y)), ρ) else none) with | some p => R.ok p.1 p.2 | none => .bad) = _
  rw [hx, hy]
  rfl
theorem oNe_d (hx : eqs x = true) (hy : eqs y = true) : oNe (.d x) (.d y) ρ = .ok (.d (.bool (!PyData.eqv x y))) ρ := by
  unfold oNe oOp rEq
  show (match (if (eqs x && eqs y) = true then some (DV.d (.bool (if true = true then !PyData.eqv x y else PyData.eqv x y)), ρ) else none) with | some p => R.ok p.1 p.2 | none => .bad) = _
  rw [hx, hy]
  rfl
theorem eqs_int : eqs (.int i) = true := rfl
theorem eqv_int : PyData.eqv (.int i) (.int j) = decide (i = j) := by
  rw [PyData.eqv]
  by_cases h : i = j
  · simp [h]
  · simp [h]
@[simp] theorem oEq_i : oEq (.d (.int i)) (.d (.int j)) ρ = .ok (.d (.bool (decide (i = j)))) ρ := by rw [oEq_d rfl rfl, eqv_int]
@[simp] theorem oNe_i : oNe (.d (.int i)) (.d (.int j)) ρ = .ok (.d (.bool (!decide (i = j)))) ρ := by rw [oNe_d rfl rfl, eqv_int]
@[simp] theorem oEqA_i : oEqA (.d (.int i)) (.d (.int j)) ρ = .ok (.d (.bool (decide (i = j)))) ρ := rfl
@[simp] theorem oNeA_i : oNeA (.d (.int i)) (.d (.int j)) ρ = .ok (.d (.bool (!decide (i = j)))) ρ := rfl
@[simp] theorem oEqA_s {s t : Str} : oEqA (.d (.str s)) (.d (.str t)) ρ = .ok (.d (.bool (decide (s = t)))) ρ := rfl
@[simp] theorem oNeA_s {s t : Str} : oNeA (.d (.str s)) (.d (.str t)) ρ = .ok (.d (.bool (!decide (s = t)))) ρ := rfl
theorem oEqA_d (h : ∀ ρ, oEqS (.d x) (.d y) ρ = .bad) (hx : eqs x = true) (hy : eqs y = true) : oEqA (.d x) (.d y) ρ = .ok (.d (.bool (PyData.eqv x y))) ρ := by
  unfold oEqA oAlt
  rw [h, oEq_d hx hy]
theorem oNeA_d (h : ∀ ρ, oNeS (.d x) (.d y) ρ = .bad) (hx : eqs x = true) (hy : eqs y = true) : oNeA (.d x) (.d y) ρ = .ok (.d (.bool (!PyData.eqv x y))) ρ := by
  unfold oNeA oAlt
  rw [h, oNe_d hx hy]
@[simp] theorem oIs_d : oIs (.d x) (.d .none) ρ = .ok (.d (.bool (isNn x))) ρ := rfl
@[simp] theorem oIsNot_d : oIsNot (.d x) (.d .none) ρ = .ok (.d (.bool (!isNn x))) ρ := rfl
end
/-! ### targets -/
@[simp] theorem gName_ap {i : Nat} {v : DV} : FL.gName i v ρ = .ok () ⟨ρ.sl.set i (some v), ρ.ob⟩ := rfl
@[simp] theorem gSeq_t {n : Nat} {gs : List PyData → M Unit} {ds : List PyData} : gSeq n gs (.d (.tuple ds)) ρ = if ds.length = n then gs ds ρ else .bad := rfl
@[simp] theorem gSeq_l {n : Nat} {gs : List PyData → M Unit} {ds : List PyData} : gSeq n gs (.d (.list ds)) ρ = if ds.length = n then gs ds ρ else .bad := rfl
@[simp] theorem gNil_ap : gNil [] ρ = .ok () ρ := rfl
@[simp] theorem gCons_ap {g : DV → M Unit} {gs : List PyData → M Unit} {x : PyData} {r : List PyData} : gCons g gs (x :: r) ρ = (g (.d x) ρ).bd fun _ ρ1 => gs r ρ1 := by
  show mbind (g (.d x)) (fun _ => gs r) ρ = _
  simp
/-! ### statements -/
def seqK (f : FL.Flow) (k : M FL.Flow) : M FL.Flow := match f with
  | .nx => k
  | f => mret f
@[simp] theorem sSeq_ap {p q : M FL.Flow} : sSeq p q ρ = (p ρ).bd fun f ρ1 => seqK f q ρ1 := by
  rw [show sSeq p q = mbind p fun f => seqK f q from rfl]; simp
@[simp] theorem seqK_nx {k : M FL.Flow} : seqK .nx k ρ = k ρ := rfl
@[simp] theorem seqK_rt {k : M FL.Flow} {v : DV} : seqK (.rt v) k ρ = .ok (.rt v) ρ := rfl
@[simp] theorem seqK_bk {k : M FL.Flow} : seqK .bk k ρ = .ok .bk ρ := rfl
@[simp] theorem seqK_ct {k : M FL.Flow} : seqK .ct k ρ = .ok .ct ρ := rfl
@[simp] theorem sNext_ap : sNext ρ = .ok .nx ρ := rfl
@[simp] theorem sPass_ap : sPass ρ = .ok .nx ρ := rfl
@[simp] theorem sBrk_ap : sBrk ρ = .ok .bk ρ := rfl
@[simp] theorem sCont_ap : sCont ρ = .ok .ct ρ := rfl
@[simp] theorem sRet_ap : sRet a ρ = (a ρ).bd fun v ρ1 => .ok (.rt v) ρ1 := by simp [sRet]; rfl
@[simp] theorem sExp_ap : sExp a ρ = (a ρ).bd fun _ ρ1 => .ok .nx ρ1 := by simp [sExp]; rfl
@[simp] theorem sIf_ap {p q : M FL.Flow} : sIf t p q ρ = (t ρ).bd fun x ρ1 => if x = true then p ρ1 else q ρ1 := by
  unfold sIf; rw [mbind_ap]; congr 1; funext x; cases x <;> rfl
@[simp] theorem sAsg_ap {g : DV → M Unit} : sAsg a g ρ = (a ρ).bd fun v ρ1 => (g v ρ1).bd fun _ ρ2 => .ok .nx ρ2 := by simp [sAsg]; rfl
def parK (i j : Nat) (xs : List DV) (ρ1 : S) : R FL.Flow := match xs with
  | [x, y] => .ok .nx ⟨(ρ1.sl.set i (some x)).set j (some y), ρ1.ob⟩
  | _ => .bad
@[simp] theorem sPar_ap {i j : Nat} : sPar i j m ρ = (m ρ).bd fun xs ρ1 => parK i j xs ρ1 := by
  rw [show sPar i j m = mbind m fun xs => parK i j xs from rfl]; simp
@[simp] theorem parK_2 {i j : Nat} {x y : DV} : parK i j [x, y] ρ = .ok .nx ⟨(ρ.sl.set i (some x)).set j (some y), ρ.ob⟩ := rfl
def raiseK (c f : Str) (xs : List DV) (ρ : S) : R FL.Flow := match oneD xs with
  | some y => .exc ⟨c, some [(f, y)]⟩ ρ
  | none => .bad
@[simp] theorem sRaise_ap {c f : Str} : sRaise c f m ρ = (m ρ).bd fun xs ρ1 => raiseK c f xs ρ1 := by
  rw [show sRaise c f m = mbind m fun xs => raiseK c f xs from rfl]; simp
@[simp] theorem raiseK_1 {c f : Str} {x : PyData} : raiseK c f [.d x] ρ = .exc ⟨c, some [(f, x)]⟩ ρ := rfl
/-! ### calls -/
def rvR (r : RV PyData) (ρ : S) : R DV := match r with
  | .ok y => .ok (.d y) ρ
  | .exc x => .exc x ρ
  | .bad => .bad
@[simp] theorem rvR_ok {y : PyData} : rvR (.ok y) ρ = .ok (.d y) ρ := rfl
@[simp] theorem rvR_exc {y : XV} : rvR (.exc y) ρ = .exc y ρ := rfl
@[simp] theorem rvR_bad : rvR .bad ρ = .bad := rfl
@[simp] theorem mCall_ap {f : List PyData → RV PyData} : mCall f m ρ = (m ρ).bd fun xs ρ1 => (oOk (allD xs) ρ1).bd fun ds ρ2 => rvR (f ds) ρ2 := by
  unfold mCall; rw [mbind_ap]; congr 1; funext xs ρ1
  cases allD xs <;> rfl
@[simp] theorem mCallK_ap {pi : List Nat} {f : List PyData → RV PyData} : mCallK pi f m ρ = (m ρ).bd fun xs ρ1 => if xs.length = pi.length then (oOk (allD (pi.map fun j => xs.getD j (.d .none))) ρ1).bd fun ds ρ2 => rvR (f ds) ρ2 else .bad := by
  unfold mCallK; rw [mbind_ap]; congr 1; funext xs ρ1
  split
  · cases allD (pi.map fun j => xs.getD j (.d .none)) <;> rfl
  · rfl
@[simp] theorem cur1_ap {f : PyData → RV PyData} {x : PyData} : cur1 f [x] = f x := rfl
@[simp] theorem cur2_ap {f : PyData → PyData → RV PyData} {x y : PyData} : cur2 f [x, y] = f x y := rfl
@[simp] theorem cur3_ap {f : PyData → PyData → PyData → RV PyData} {x y z : PyData} : cur3 f [x, y, z] = f x y z := rfl
@[simp] theorem cur4_ap {f : PyData → PyData → PyData → PyData → RV PyData} {x y z u : PyData} : cur4 f [x, y, z, u] = f x y z u := rfl
/-! ### defs -/
def endP (r : R FL.Flow) : RV PyData := match r with
  | .ok .nx _ => .ok .none
  | .ok (.rt (.d y)) _ => .ok y
  | .exc x _ => .exc x
  | _ => .bad
theorem runP_eq {n : Nat} {p : M FL.Flow} {as : List PyData} : runP n p as = endP (p ⟨as.map (fun x => some (.d x)) ++ List.replicate (n - as.length) none, []⟩) := by
  unfold runP endP
  cases p ⟨as.map (fun x => some (.d x)) ++ List.replicate (n - as.length) none, []⟩ with
  | ok f _ => cases f with
    | rt v => cases v <;> rfl
    | _ => rfl
  | _ => rfl
@[simp] theorem endP_rt {y : PyData} : endP (.ok (.rt (.d y)) ρ) = .ok y := rfl
@[simp] theorem endP_nx : endP (.ok .nx ρ) = .ok .none := rfl
@[simp] theorem endP_exc {x : XV} : endP (.exc x ρ) = .exc x := rfl
@[simp] theorem endP_bad : endP .bad = .bad := rfl
/-! ### freezing -/
@[simp] theorem frzV_d {x : PyData} : FL.frzV (.d x) ρ = some (x, ρ) := rfl
theorem mFT_ap : mFT a ρ = (a ρ).bd fun dv ρ1 => (oOk (FL.frzV dv ρ1) ρ1).bd fun p _ => if okTrim ρ.ob.length p.2 = true then .ok (.d p.1) ⟨p.2.sl, p.2.ob.take ρ.ob.length⟩ else .bad := by
  unfold mFT; rw [mbind_ap]; congr 1; funext dv ρ1
  cases FL.frzV dv ρ1 <;> rfl
@[simp] theorem mFrz_ap : mFrz a ρ = (a ρ).bd fun dv ρ1 => (oOk (FL.frzV dv ρ1) ρ1).bd fun p _ => .ok (.d p.1) p.2 := by
  unfold mFrz; rw [mbind_ap]; congr 1; funext dv ρ1
  cases FL.frzV dv ρ1 <;> rfl
/-- a list just made, at the end -/
theorem frz_last {sl : List (Option DV)} {ob : List OB} {xs : List PyData} (hs : sl.all (belO ob.length) = true) : FL.frzV (.o ob.length) ⟨sl, ob ++ [.lst (xs.map .d)]⟩ = some (.list xs, ⟨sl, ob ++ [.gone]⟩) := by
  show frz ⟨sl, ob ++ [.lst (xs.map .d)]⟩ ob.length = _
  unfold frz
  rw [@obK_last ⟨[]⟩]
  show (allD (xs.map .d)).map _ = _
  rw [allD_dmap]
  show some (PyData.list xs, S.mk (sl.map (ren ob.length (.list xs))) ((ob ++ [OB.lst (xs.map .d)]).set ob.length .gone)) = _
  have e1 : sl.map (ren ob.length (.list xs)) = sl := by
    have : ∀ l : List (Option DV), l.all (belO ob.length) = true → l.map (ren ob.length (.list xs)) = l := by
      intro l
      induction l with
      | nil => intro _; rfl
      | cons y r ih =>
        intro h
        rw [List.all_cons, Bool.and_eq_true] at h
        rw [List.map_cons, ih h.2]
        cases y with
        | none => rfl
        | some v =>
          cases v with
          | d x => rfl
          | o k =>
            have hk : k < ob.length := of_decide_eq_true h.1
            show (if k = ob.length then some (DV.d (.list xs)) else some (.o k)) :: r = _
            rw [if_neg (by omega)]
    exact this sl hs
  have e2 : (ob ++ [OB.lst (xs.map .d)]).set ob.length .gone = ob ++ [.gone] := by
    rw [List.set_append_right _ _ (Nat.le_refl _), Nat.sub_self]
    rfl
  rw [e1, e2]
/-- nothing is named that is not there -/
def Wf (ρ : S) : Prop := okTrim ρ.ob.length ρ = true
theorem wf_iff : Wf ρ ↔ ρ.ob.all (belB ρ.ob.length) = true ∧ ρ.sl.all (belO ρ.ob.length) = true := by
  unfold Wf okTrim
  rw [List.take_length]
  simp
theorem wf_pure {sl : List (Option DV)} (h : sl.all (belO 0) = true) : Wf ⟨sl, []⟩ := by
  rw [wf_iff]
  exact ⟨rfl, h⟩
theorem ft_last (w : Wf ρ) {xs : List PyData} : (oOk (FL.frzV (DV.o ρ.ob.length) ⟨ρ.sl, ρ.ob ++ [.lst (xs.map .d)]⟩) ⟨ρ.sl, ρ.ob ++ [.lst (xs.map .d)]⟩).bd (fun p _ => if okTrim ρ.ob.length p.2 = true then R.ok (DV.d p.1) ⟨p.2.sl, p.2.ob.take ρ.ob.length⟩ else .bad) = .ok (.d (.list xs)) ρ := by
  obtain ⟨h1, h2⟩ := wf_iff.mp w
  rw [frz_last h2]
  have : okTrim ρ.ob.length ⟨ρ.sl, ρ.ob ++ [.gone]⟩ = true := by
    unfold okTrim
    simp only [List.length_append, List.take_append_of_le_length (Nat.le_refl ρ.ob.length), List.take_length]
    rw [h1, h2]
    simp
  simp [this]
/-- [..] made and frozen: the state is as it was -/
theorem ft_of (w : Wf ρ) {xs : List PyData} (h : a ρ = .ok (.o ρ.ob.length) ⟨ρ.sl, ρ.ob ++ [.lst (xs.map .d)]⟩) : mFT a ρ = .ok (.d (.list xs)) ρ := by
  rw [mFT_ap, h, bd_ok]
  exact ft_last w
theorem ft_data {x : PyData} (w : Wf ρ) (h : a ρ = .ok (.d x) ρ) : mFT a ρ = .ok (.d x) ρ := by
  rw [mFT_ap, h]
  simp only [bd_ok, frzV_d, oOk_some]
  rw [if_pos (show okTrim ρ.ob.length ρ = true from w), List.take_length]
end
end FL
end

section
set_option Elab.async false
set_option linter.all false
set_option maxRecDepth 100000
set_option maxHeartbeats 1000000
set_option autoImplicit false
/-! ## Dict comprehensions with keys of any kind -/
namespace DL
open PySem PySem.Spec PyProof.Rows L2
section
variable {X : Cx} {pins : List (Addr × Obj)} {σ : St} {H H' : Hp} {s : Shared} {E : Value → Shared → Prop} {Q : Unit → Shared → Prop}
/-- one more pair, whatever the keys are -/
theorem put_pair {D : Addr} {y v : V} {u r : Value} (room : X.A.units + 1 < cLine) (inv : Inv X pins σ H s) (p : DPut H D y v H') (hy : RelV y u) (hv : RelV v r) (go : ∀ s', Inv X pins σ H' s' → Q () s') : wpAny (model X.prog X.w) X.A (dictSet D u r) Q E s := by
  rcases p with ⟨ps, k, here, ky, small, new⟩ | ⟨ps, k, b, here, ky, kb, small, new⟩
  · subst ky new
    exact d_dictSet inv here small hy hv go
  · subst ky new
    cases (show u = Value.ref b from hy)
    obtain ⟨le, nsys, cells, rel, held⟩ := L2.dt_of inv.hok here
    have cnt : cells.length ≤ sizeLine := by rw [← Paired.length rel]; exact le
    have cnt' : (putK ps k v).length ≤ sizeLine := by have := length_putK ps k v; omega
    refine wpAny_dictSet_heap (hsz := cnt) (Nat.lt_of_succ_lt room) (key_of inv.hok kb) held fun g held' same => go _ ?_
    obtain ⟨o, arr, ep, at_, q1, q2, q3, _, q4⟩ := held'
    refine d_write inv (by rw [here]; exact True.intro) same ⟨o, at_⟩ ⟨cnt', nsys, _, (rel.put k kb hv).keeps fun c ys ec => ?_, o, arr, ep, at_, q1, q2, q3, q4⟩
    rw [upd_ne (ne_of ec here (fun z => nomatch z))]
    exact ec
end
/-- an empty dict, of either kind -/
def Mt0 (c0 : HO) : Prop := c0 = .dK [] ∨ c0 = .dT []
theorem fresh_dict {X : Cx} {pins : List (Addr × Obj)} {σ : St} {H : Hp} {s : Shared} {c0 : HO} (e0 : Mt0 c0) (inv : Inv X pins σ H s) : Inv X pins σ (upd H s.heap.objs.size c0) { s with heap := s.heap.push { cls := .type "dict", data := .dict #[] } } := by
  rcases e0 with rfl | rfl
  · exact inv.laid (t' := s.toks) (fun _ _ q => Heap.get?_push_of_some _ q) (Nat.le_refl _) (dk_empty s.heap inv.big)
  · exact inv.laid (t' := s.toks) (fun _ _ q => Heap.get?_push_of_some _ q) (Nat.le_refl _) (dt_empty s.heap inv.big)
/-- {k: v for target in iter if ..}: one pair after the other, whatever the keys are -/
def tDcP (c0 : HO) (wi : TI) (g : TG) (tt : TT) (tk tv : TE) (vs : List Nat) : TE := fun σ H Q => wi σ H fun J H1 => ∀ D, H1 D = none → ∃ I : Nat → Nat → Hp → Prop, (∃ m, I 0 m (upd H1 D c0)) ∧ ∀ i m H, I i m H →
  (J.stop i H ∧ Q (.ref D) H) ∨ (J.go i H ∧ ∃ Nx : Hp → Prop, (∀ H', Nx H' → ∃ m', m' < m ∧ I (i + 1) m' H') ∧ ∀ x H', J.yld i H x H' → g x (wipe σ vs) H' fun σ2 H2 => wipe σ2 vs = wipe σ vs ∧ tt σ2 H2 fun b H3 =>
    if b = true then tk σ2 H3 fun y H4 => tv σ2 H4 fun z H5 => ∃ H6, DPut H5 D y z H6 ∧ Nx H6 else Nx H3)
section
variable {X : Cx}
/-- the block's cells and the comprehension's own context -/
def blkE (X : Cx) (scope : Scope) (t : Shared) : Env := compEnvC scope (cellsFrom (t.heap.objs.size + 1) scope.names (cloFrom X.env.cells scope.names [])) t.heap.objs.size X.env
theorem dcp_run {pins : List (Addr × Obj)} {s : Shared} {σ : St} {H : Hp} {Q : VK} {kx vx tg iter : Expr} {ifs : List Expr} {scope : Scope} {own : List (Str × Nat)} {pos : Pos} {c0 : HO} {wi : TI} {g : TG} {tt : TT} {tk tv : TE}
    (calm : X.calm = true) (room : X.A.units + 1 < cLine) (nd : X.N.Nodup) (e0 : Mt0 c0) (inv : Inv X pins σ H s) (pi : PI X tg iter wi) (blk : BlkOk X.N X.env.scope scope own)
    (pg : ∀ (s : Shared) (H : Hp) (C : Addr) (cl : List (Str × Addr)) (fp : List Addr), PG (X.blk s H scope (compEnvC scope cl C X.env) fp) tg g) (pt : ∀ (s : Shared) (H : Hp) (C : Addr) (cl : List (Str × Addr)) (fp : List Addr), PTs (X.blk s H scope (compEnvC scope cl C X.env) fp) ifs tt)
    (pk : ∀ (s : Shared) (H : Hp) (C : Addr) (cl : List (Str × Addr)) (fp : List Addr), PE (X.blk s H scope (compEnvC scope cl C X.env) fp) kx tk) (pv : ∀ (s : Shared) (H : Hp) (C : Addr) (cl : List (Str × Addr)) (fp : List Addr), PE (X.blk s H scope (compEnvC scope cl C X.env) fp) vx tv)
    (fold : ∀ x, foldedSetIterable iter X.env x = pure x) (h : tDcP c0 wi g tt tk tv (own.map (·.2)) σ H Q) :
    wpAny (model X.prog X.w) X.A (eval (.DictComp kx vx [⟨tg, iter, ifs, 0⟩] scope pos) X.env) (fun r t => ∃ y H', Inv X pins σ H' t ∧ RelV y r ∧ Q y H') X.xe s := by
  have free : ∀ y ∈ scope.names, y.2 = .free → ∃ c, X.env.cells.lookup y.1 = some c := fun y hy e => (blk.free y hy e).elim (fun k => inv.ok.has _ (.inl k)) fun k => inv.ok.has _ (.inr k)
  rw [arm_eval_DictComp]
  refine wpAny_comprehension_free rfl fold (closure_ok free) blk.kind (fun y hy e => (blk.uniq y hy).trans (by rw [e])) (thn (pi.run pins s σ H _ inv h) fun xv t1 hx => thn hx ?_)
  rintro _ t2 ⟨it, fp, tn, J, H2, rfl, inv2, T, st2, out2, q⟩
  refine wpAny_newObj_type (newEnv_comp ?_)
  obtain ⟨I, ⟨m0, i0⟩, turn⟩ := q t2.heap.objs.size (inv2.hok.fresh (Nat.le_refl _))
  have inv3 := fresh_dict e0 inv2
  generalize eD : t2.heap.objs.size = D at *
  generalize e3 : ({ t2 with heap := t2.heap.push { cls := .type "dict", data := .dict #[] } } : Shared) = t3 at *
  have h3 : t3.heap = t2.heap.push { cls := .type "dict", data := .dict #[] } := by rw [← e3]
  have grow : ∀ b o, t2.heap.get? b = some o → t3.heap.get? b = some o := fun b o e => by rw [h3]; exact Heap.get?_push_of_some _ e
  have below : ∀ b ∈ fp, b < t2.heap.objs.size := fun b hb => (T.obj _ _ st2 b hb).elim fun o e => Heap.lt_size e.1
  have out3 : ∀ b ∈ fp, FpOk X pins (upd H2 D c0) b ∧ b < t3.heap.objs.size := fun b hb => by
    have lt := below b hb
    refine ⟨⟨?_, (out2 b hb).2⟩, by rw [h3, Heap.size_push]; exact Nat.lt_succ_of_lt lt⟩
    rw [upd_ne (by rw [← eD]; exact Nat.ne_of_lt lt)]
    exact (out2 b hb).1
  have inv4 := block_start inv3 blk nd out3
  generalize e4 : ({ t3 with heap := pushCells (t3.heap.push { cls := .type "dict", data := .dict #[] }) scope.names } : Shared) = t4 at *
  have kpg := pg t3 (upd H2 D c0) t3.heap.objs.size (cellsFrom (t3.heap.objs.size + 1) scope.names (cloFrom X.env.cells scope.names [])) fp
  have kpt := pt t3 (upd H2 D c0) t3.heap.objs.size (cellsFrom (t3.heap.objs.size + 1) scope.names (cloFrom X.env.cells scope.names [])) fp
  have kpk := pk t3 (upd H2 D c0) t3.heap.objs.size (cellsFrom (t3.heap.objs.size + 1) scope.names (cloFrom X.env.cells scope.names [])) fp
  have kpv := pv t3 (upd H2 D c0) t3.heap.objs.size (cellsFrom (t3.heap.objs.size + 1) scope.names (cloFrom X.env.cells scope.names [])) fp
  show codeAny _ _ (.compStart (.DictComp kx vx [⟨tg, iter, ifs, 0⟩] scope pos) 0 (.ref it) (.ref D) (compEnvC scope (cellsFrom (t3.heap.objs.size + 1) scope.names (cloFrom X.env.cells scope.names [])) t3.heap.objs.size X.env)) (compPost (model X.prog X.w) X.A X.xe none _ (.ref D) t3.heap.objs.size) t4
  have none3 : ∀ b ∈ fp, (upd H2 D c0) b = none := fun b hb => (out3 b hb).1.1
  generalize eE : compEnvC scope (cellsFrom (t3.heap.objs.size + 1) scope.names (cloFrom X.env.cells scope.names [])) t3.heap.objs.size X.env = ce at inv4 kpg kpt kpk kpv ⊢
  have own_at : ce.locals = t3.heap.objs.size := by rw [← eE]; rfl
  generalize eH3 : upd H2 D c0 = H3 at inv3 inv4 kpg kpt kpk kpv i0 none3 out3
  have st4 : tn 0 t4.heap := T.keep _ _ _ st2 fun b _ o e => by rw [← e4]; exact pushCells_keeps _ _ _ _ (Heap.get?_push_of_some _ (grow b o e))
  have still : ∀ {σ' : St} {H' : Hp} {s' : Shared}, Inv (X.blk t3 H3 scope ce fp) [] σ' H' s' → (∀ b ∈ fp, H' b = none) → ∀ b ∈ fp, FpOk (X.blk t3 H3 scope ce fp) [] H' b := fun {σ' H' s'} i' hn b hb =>
    ⟨hn b hb, (i'.ok.exf b hb).1, i'.ok.exfs b hb, .inl hb, fun x c e => (i'.ok.exf b hb).2 x c e, fun p hp => absurd (show p ∈ ([] : List (Addr × Obj)) ++ [] from hp) (by simp)⟩
  have loop : codeAny (model X.prog X.w) X.A (.compLoop (.DictComp kx vx [⟨tg, iter, ifs, 0⟩] scope pos) 0 (.ref it) (.ref D) ce) (compPost (model X.prog X.w) X.A X.xe none (fun r t => ∃ y H', Inv X pins σ H' t ∧ RelV y r ∧ Q y H') (.ref D) t3.heap.objs.size) t4 := by
    refine compLoop_anyD (fun m t => ∃ i H', Inv (X.blk t3 H3 scope ce fp) [] (wipe σ (own.map (·.2))) H' t ∧ tn i t.heap ∧ (∀ b ∈ fp, H' b = none) ∧ I i m H') ?_ m0 ⟨0, H3, inv4, st4, none3, i0⟩
    rintro m t5 ⟨i, H5, inv5, st5, none5, i5⟩
    rcases turn i m H5 i5 with ⟨stop, res⟩ | ⟨go, Nx, next, step⟩
    · refine thnF (T.done (X.blk t3 H3 scope ce fp) rfl rfl rfl calm i [] t5 _ H5 (fun _ _ => False) inv5 (still inv5 none5) st5 stop) ?_
      rintro _ t6 ⟨rfl, inv6⟩
      have inv7 : Inv X pins σ H5 t6 := inv3.call' (ch := fp) inv6.os inv6.base inv6.hok inv6.bare fun b hb => ⟨(out3 b hb).1.2.2.2.1, (out3 b hb).1.2.1, (out3 b hb).1.2.2.2.2.1, (out3 b hb).1.2.2.2.2.2⟩
      have gone : H5 t3.heap.objs.size = none := by rw [← own_at]; exact inv6.free
      obtain ⟨mm, ns, _⟩ := inv6.loc
      obtain ⟨f0, f1, f2, f3, f4, f5⟩ := inv3.fpOk (Nat.le_refl _) gone
      refine ⟨mm, by rw [← own_at]; exact ns, fun h'' sb => ⟨.ref D, H5, inv7.turned (t' := t6.toks) (fun b o hb e => (sb.2 b hb).trans e) f0 f1 f3 f4 f5, rfl, res⟩⟩
    · refine thnF (T.item (X.blk t3 H3 scope ce fp) rfl rfl rfl calm i [] t5 _ H5 (fun _ _ => False) inv5 (still inv5 none5) st5 go) ?_
      rintro _ t6 ⟨u, rfl, got⟩
      refine thnF got ?_
      rintro _ t7 ⟨x, H7, inv7, r7, y7, st7, none7⟩
      refine thnF (kpg.run _ t7 _ H7 x u _ (inv7.pinned (still inv7 none7) (T.obj _ _ st7)) r7 (step x H7 y7)) ?_
      rintro _ t8 ⟨σ8, H8, inv8, same8, q8⟩
      refine thnF (kpt.run _ t8 σ8 H8 _ inv8 q8) ?_
      rintro b t9 ⟨H9, inv9, q9⟩
      have again : ∀ {t : Shared} {H' : Hp}, Inv (X.blk t3 H3 scope ce fp) ([] ++ pinsAt fp t7.heap) σ8 H' t → Nx H' → ∃ m', m' < m ∧ ∃ i H', Inv (X.blk t3 H3 scope ce fp) [] (wipe σ (own.map (·.2))) H' t ∧ tn i t.heap ∧ (∀ b ∈ fp, H' b = none) ∧ I i m' H' := fun {t H'} i' nx => by
        obtain ⟨m', less, w'⟩ := next H' nx
        have held : ∀ b ∈ fp, ∀ o, t7.heap.get? b = some o → t.heap.get? b = some o ∧ H' b = none := fun b hb o e =>
          have z := i'.pin (b, o) (List.mem_append_right _ (List.mem_append_right _ (mem_pinsAt hb e)))
          ⟨z.1, z.2.1⟩
        refine ⟨m', less, i + 1, H', (i'.unpinned (pins := [])).weak (by rw [← same8, wipe_length]) (fun j v e => ?_), T.keep _ _ _ st7 fun b hb o e => (held b hb o e).1, fun b hb => ?_, w'⟩
        · rw [← same8] at e
          exact (wipe_some e).1
        · exact (T.obj _ _ st7 b hb).elim fun o e => (held b hb o e.1).2
      cases b with
      | false =>
        simp only [Bool.false_eq_true, if_false] at q9 ⊢
        exact again inv9 q9
      | true =>
        simp only [if_true] at q9 ⊢
        refine thnF (kpk.run _ t9 σ8 H9 _ inv9 q9) ?_
        rintro _ t10 ⟨yk, H10, inv10, r10, q10⟩
        refine thnF (kpv.run _ t10 σ8 H10 _ inv10 q10) ?_
        rintro _ t11 ⟨yv, H11, inv11, r11, H12, put, nx⟩
        exact put_pair (X := X.blk t3 H3 scope ce fp) room inv11 put r10 r11 fun t12 inv12 => again inv12 nx
  exact codeAny_compStart_dict loop (T.self X.A 0 _ _ _ st4 loop)
end
end DL
end

section
set_option Elab.async false
set_option linter.all false
set_option maxRecDepth 100000
set_option maxHeartbeats 1000000
set_option autoImplicit false
/-! ## Dict comprehensions in the level of data: the dict is one's own from the start -/
namespace DL
open PySem PySem.Spec PyProof.Rows L2
section
variable {X : Cx}
theorem pe_dcP {kx vx tg iter : Expr} {ifs : List Expr} {scope : Scope} {own : List (Str × Nat)} {pos : Pos} {c0 : HO} {wi : TI} {g : TG} {tt : TT} {tk tv : TE}
    (calm : X.calm = true) (room : X.A.units + 1 < cLine) (nd : X.N.Nodup) (e0 : Mt0 c0) (pi : PI X tg iter wi) (blk : BlkOk X.N X.env.scope scope own)
    (pg : ∀ (s : Shared) (H : Hp) (C : Addr) (cl : List (Str × Addr)) (fp : List Addr), PG (X.blk s H scope (compEnvC scope cl C X.env) fp) tg g) (pt : ∀ (s : Shared) (H : Hp) (C : Addr) (cl : List (Str × Addr)) (fp : List Addr), PTs (X.blk s H scope (compEnvC scope cl C X.env) fp) ifs tt)
    (pk : ∀ (s : Shared) (H : Hp) (C : Addr) (cl : List (Str × Addr)) (fp : List Addr), PE (X.blk s H scope (compEnvC scope cl C X.env) fp) kx tk) (pv : ∀ (s : Shared) (H : Hp) (C : Addr) (cl : List (Str × Addr)) (fp : List Addr), PE (X.blk s H scope (compEnvC scope cl C X.env) fp) vx tv)
    (fold : ∀ x, foldedSetIterable iter X.env x = pure x) : PE X (.DictComp kx vx [⟨tg, iter, ifs, 0⟩] scope pos) (tDcP c0 wi g tt tk tv (own.map (·.2))) :=
  ⟨fun pins s σ H Q inv h => dcp_run calm room nd e0 inv pi blk pg pt pk pv fold h⟩
end
variable [Tab0]
section
variable {K : PySem.W.Frag} {F G H : Hp} {as : List Addr} {ρ ρ' : S} {σ : St}
/-- a pair put into a dict of one's own: the heap and the store go along -/
theorem put_own (ok : Ok K ρ σ F G H as) {m : Nat} {D : Addr} {vy v : V} {y z : DV} (hm : as[m]? = some D) (ry : RepV K G as vy y) (rz : RepV K G as v z) (hf : fewD ρ (.o m) = true) (h : putR ρ (.o m) y z = some ρ') :
    ∃ H', DPut H D vy v H' ∧ Ok K ρ' σ F G H' as := by
  match y, h, ry with
  | .d y, h, ry =>
    unfold putR at h
    unfold fewD at hf
    have rx : RepV K G as (.ref D) (.o m) := ⟨D, hm, rfl⟩
    cases e : obK ρ m with
    | dk kvs =>
      simp only [e] at h hf
      cases e2 : toK y with
      | none => simp [e2] at h
      | some kk =>
        simp only [e2, Option.map_some] at h
        obtain rfl := Option.some.inj h
        obtain ⟨a, ea, ha, hk, ws, hw, hq, rr⟩ := repO ok rx e (by intro z; cases z)
        cases ea
        have ey : vy = kV kk := by
          rw [toK_eq e2] at ry
          cases kk with
          | inl i => exact repI ry
          | inr i => exact repS ry
        obtain ⟨p1, p2⟩ := put_rep kk rz hq rr
        have cnt := congrArg List.length hq
        rw [List.length_map, List.length_map] at cnt
        refine ⟨_, by rw [ey]; exact DPut.k hw (by rw [cnt]; exact of_decide_eq_true hf), ?_⟩
        exact ok.wr (y := .dk (putD kvs kk z)) ha hk (by intro z; cases z) ⟨_, upd_same, p1, p2⟩
    | dt kvs =>
      simp only [e] at h hf
      cases e2 : tkey y with
      | none => simp [e2] at h
      | some kl =>
        simp only [e2, Option.map_some] at h
        obtain rfl := Option.some.inj h
        obtain ⟨a, ea, ha, hk, ws, hw, hq, rr⟩ := repO ok rx e (by intro z; cases z)
        cases ea
        obtain ⟨b, rfl, hb⟩ := tup_key ry e2
        obtain ⟨p1, p2⟩ := put_rep kl rz hq rr
        have cnt := congrArg List.length hq
        rw [List.length_map, List.length_map] at cnt
        refine ⟨_, DPut.t hw (ok.mem.gh _ _ hb) (by rw [cnt]; exact of_decide_eq_true hf), ?_⟩
        exact ok.wr (y := .dt (putD kvs kl z)) ha hk (by intro z; cases z) ⟨_, upd_same, p1, p2⟩
    | lst _ => simp only [e] at h; cases h
    | st _ => simp only [e] at h; cases h
    | gone => simp only [e] at h; cases h
  | .o _, h, _ => cases h
end
/-- {k: v for .. in .. if ..} -/
def wDcP (x0 : OB) (wi : WI) (wg : WG) (wt : WT) (wk wv : WE) (vs : List Nat) : WE := fun ρ Q X => wi ρ (fun xs ρ1 => ∃ I : Nat → List OB → Prop, I 0 (ρ1.ob ++ [x0]) ∧
  (∀ (i : Nat) (x : PyData) (ob : List OB), xs[i]? = some x → I i ob → ob.length = ρ1.ob.length + 1 → wg (.d x) ⟨wipeS ρ1.sl vs, ob⟩ fun ρ2 => wt ρ2 (fun b ρ3 => match b with
    | true => wk ρ3 (fun y ρ4 => wv ρ4 (fun z ρ5 => fewD ρ5 (.o ρ1.ob.length) = true ∧ match putR ρ5 (.o ρ1.ob.length) y z with
      | some ρ6 => okCut (ρ1.ob.length + 1) ρ6.ob = true ∧ I (i + 1) (ρ6.ob.take (ρ1.ob.length + 1))
      | none => False) X0) X0
    | false => okCut (ρ1.ob.length + 1) ρ3.ob = true ∧ I (i + 1) (ρ3.ob.take (ρ1.ob.length + 1))) X0) ∧
  (∀ ob : List OB, I xs.length ob → ob.length = ρ1.ob.length + 1 → Q (.o ρ1.ob.length) ⟨ρ1.sl, ob⟩)) X
section
variable {K : PySem.W.Frag} {X : QX}
theorem de_dcP {ti : WX → TI} {wi : WI} {g : TG} {wg : WG} {js vs : List Nat} {tt : TT} {tk tv : TE} {wt : WT} {wk wv : WE} {c0 : HO} {x0 : OB} (e0 : (c0 = .dK [] ∧ x0 = .dk []) ∨ (c0 = .dT [] ∧ x0 = .dt [])) (di : ∀ ρ Q X, wi ρ Q X → DI K ti ρ Q X) (dg : DG K g wg js) (dt : ∀ ρ Q, wt ρ Q X0 → DT K (fun _ => tt) ρ Q X0)
    (dk : ∀ ρ Q, wk ρ Q X0 → DE K (fun _ => tk) ρ Q X0) (dv : ∀ ρ Q, wv ρ Q X0 → DE K (fun _ => tv) ρ Q X0) (hj : ∀ j ∈ js, j ∈ vs) {ρ : S} {Q : QD} (h : wDcP x0 wi wg wt wk wv vs ρ Q X) : DE K (fun W => tDcP c0 (ti W) g tt tk tv vs) ρ Q X := by
  intro W σ F G H as ok acc C k
  refine di _ _ _ h W σ F G H as ok acc _ fun xs ρ1 G1 H1 as1 J h1 ok1 n1 it D hD => ?_
  obtain ⟨I, h0, hst, hd⟩ := h1
  have al : as1.length = ρ1.ob.length := ok1.mem.len
  have okD : Ok K ⟨ρ1.sl, ρ1.ob ++ [x0]⟩ σ F G1 (upd H1 D c0) (as1 ++ [D]) := by
    rcases e0 with ⟨rfl, rfl⟩ | ⟨rfl, rfl⟩
    · exact ok1.mine (x := .dk []) hD ⟨[], upd_same, rfl, .nil⟩
    · exact ok1.mine (x := .dt []) hD ⟨[], upd_same, rfl, .nil⟩
  have okOf : ∀ {G' H' : Hp} {ob : List OB}, Mem K F G' H' (as1 ++ [D]) ob → Same G1 G' → Ok K ⟨ρ1.sl, ob⟩ σ F G' H' (as1 ++ [D]) := fun {G' H' ob} m s => ⟨m, ok1.sll, fun i dv e => by
    obtain ⟨v, e1, r⟩ := ok1.sl i dv e
    exact ⟨v, e1, r.mono ⟨s, [D], rfl⟩⟩⟩
  have len1 : (as1 ++ [D]).length = ρ1.ob.length + 1 := by rw [List.length_append, al]; rfl
  have atD : (as1 ++ [D])[ρ1.ob.length]? = some D := by rw [← al]; exact get_last _ _
  refine ⟨fun i m H => m = xs.length - i ∧ i ≤ xs.length ∧ ∃ (G' : Hp) (ob : List OB), I i ob ∧ ob.length = ρ1.ob.length + 1 ∧ Mem K F G' H (as1 ++ [D]) ob ∧ Same G1 G',
    ⟨xs.length, by simp, Nat.zero_le _, G1, ρ1.ob ++ [x0], h0, by simp, okD.mem, Same.refl _⟩, ?_⟩
  rintro i m H2 ⟨rfl, hi, G2, ob, hI, hl, m2, s2⟩
  by_cases hlt : i < xs.length
  · refine .inr ⟨it.go i H2 hlt (s2.trans m2.gh), fun H' => i + 1 ≤ xs.length ∧ ∃ (G' : Hp) (ob : List OB), I (i + 1) ob ∧ ob.length = ρ1.ob.length + 1 ∧ Mem K F G' H' (as1 ++ [D]) ob ∧ Same G1 G',
      fun H' hN => ⟨xs.length - (i + 1), by omega, rfl, hN⟩, fun x H' y => ?_⟩
    have hx : xs[i]? = some xs[i] := by simp [hlt]
    obtain ⟨G3, m3, s3, r3⟩ := it.yld i _ hx _ G2 H2 _ _ s2 m2 x H' y
    have ok3 := okOf m3 (s2.trans s3)
    refine dg (.d xs[i]) _ _ (hst i _ ob hx hI hl) (L2.wipe σ vs) _ G3 H' (as1 ++ [D]) x (ok3.wipe vs) r3 _ fun ρ4 σ4 G4 H4 as4 q4 ok4 n4 w4 => ?_
    refine ⟨?_, ?_⟩
    · rw [w4 vs hj]
      apply List.ext_getElem?
      intro j
      rw [wipe_get, wipe_get, wipe_length]
      by_cases hv : j ∈ vs ∧ j < σ.length
      · rw [if_pos hv, if_pos hv]
      · rw [if_neg hv, if_neg hv]
    refine dt _ _ q4 W0 σ4 _ G4 H4 as4 ok4 acc0 _ fun b ρ5 G5 H5 as5 q5 ok5 n5 => ?_
    have n45 := n4.trans n5
    cases b with
    | false =>
      refine iteF ?_
      obtain ⟨hc, hI5⟩ := q5
      obtain ⟨l5, b5⟩ := cut_len hc
      have m5 := ok5.mem.trim _ b5
      rw [(nxt_take n45 len1).1] at m5
      exact ⟨hlt, G5, _, hI5, l5, m5, (s2.trans s3).trans n45.g⟩
    | true =>
      refine iteT ?_
      refine dk _ _ q5 W0 σ4 _ G5 H5 as5 ok5 acc0 _ fun y ρ6 vy G6 H6 as6 q6 ok6 n6 ry => ?_
      refine dv _ _ q6 W0 σ4 _ G6 H6 as6 ok6 acc0 _ fun z ρ7 vz G7 H7 as7 q7 ok7 n7 rz => ?_
      have n47 := (n45.trans n6).trans n7
      obtain ⟨hf, q7⟩ := q7
      have at7 : as7[ρ1.ob.length]? = some D := by
        obtain ⟨r, e⟩ := n47.a
        rw [e, List.getElem?_append_left (by rw [len1]; omega)]
        exact atD
      cases e : putR ρ7 (.o ρ1.ob.length) y z with
      | none => rw [e] at q7; exact q7.elim
      | some ρ8 =>
        rw [e] at q7
        obtain ⟨hc, hI8⟩ := q7
        obtain ⟨H8, dp, ok8⟩ := put_own ok7 at7 (ry.mono n7) rz hf e
        obtain ⟨l8, b8⟩ := cut_len hc
        have m8 := ok8.mem.trim _ b8
        rw [(nxt_take n47 len1).1] at m8
        exact ⟨H8, dp, hlt, G7, _, hI8, l8, m8, (s2.trans s3).trans n47.g⟩
  · have e : i = xs.length := by omega
    subst e
    refine .inl ⟨it.stop H2 (s2.trans m2.gh), ?_⟩
    have n3 : Nxt G1 as1 G2 (as1 ++ [D]) := ⟨s2, [D], rfl⟩
    exact (k.next n1) (.o ρ1.ob.length) _ (.ref D) G2 H2 (as1 ++ [D]) (hd ob hI hl) (okOf m2 s2) n3 ⟨D, atD, rfl⟩
end
section
variable {T : Sta} {pos : Pos} {kx vx tg iter : Expr} {ifs : List Expr} {wt : WT} {wk wv : WE}
theorem pd_dcP {scope : Scope} {own : List (Str × Nat)} {wi : WI} {wg : WG} {js : List Nat} {c0 : HO} {x0 : OB} (e0 : (c0 = .dK [] ∧ x0 = .dk []) ∨ (c0 = .dT [] ∧ x0 = .dt [])) (hi : PDI T tg iter wi) (ok : BlkOk T.N T.sc scope own) (hg : PDG (blkT T scope) tg wg js) (ht : PDTs (blkT T scope) ifs wt) (hk : PD (blkT T scope) kx wk) (hv : PD (blkT T scope) vx wv)
    (hj : ∀ j ∈ js, j ∈ own.map (·.2) := by decide) (hs : ∀ env x, foldedSetIterable iter env x = pure x := by intro _ _; rfl) : PD T (.DictComp kx vx [⟨tg, iter, ifs, 0⟩] scope pos) (wDcP x0 wi wg wt wk wv (own.map (·.2))) := by
  obtain ⟨ti, hti, di⟩ := hi
  obtain ⟨g, hg, dg⟩ := hg
  obtain ⟨tt, ht, dt⟩ := ht
  obtain ⟨tk, hk, dk⟩ := hk
  obtain ⟨tv, hv, dv⟩ := hv
  have e1 : Mt0 c0 := by rcases e0 with ⟨h, _⟩ | ⟨h, _⟩ <;> rw [h]; exact .inl rfl; exact .inr rfl
  refine ⟨fun W => tDcP c0 (ti W) g tt (tk W0) (tv W0) (own.map (·.2)), fun W X gd tke => pe_dcP gd.calm (u1 gd.room.units) (by rw [gd.N]; exact gd.nd) e1 (hti W X gd tke) (by rw [gd.N, gd.sc]; exact ok) (fun s H C cl fp => hg _ (gd.blk s H scope cl C fp))
    (fun s H C cl fp => ht _ (gd.blk s H scope cl C fp) takes0) (fun s H C cl fp => hk W0 _ (gd.blk s H scope cl C fp) takes0) (fun s H C cl fp => hv W0 _ (gd.blk s H scope cl C fp) takes0) (hs _), fun ρ Q X h => ?_⟩
  exact de_dcP (K := T.K) (tk := tk W0) (tv := tv W0) e0 di dg dt (fun ρ Q h W σ F G H as ok acc C k => dk ρ Q X0 h W0 σ F G H as ok acc0 C k) (fun ρ Q h W σ F G H as ok acc C k => dv ρ Q X0 h W0 σ F G H as ok acc0 C k) hj h
end
end DL
end

section
set_option Elab.async false
set_option linter.all false
set_option maxRecDepth 100000
set_option maxHeartbeats 1000000
set_option autoImplicit false
/-! ## Dict comprehensions as functions of data -/
namespace FL
open PySem PySem.Spec PyProof.Rows L2 DL
section
variable [Tab0] {cl : Str → Addr} {mt : M Bool} {wt : WT} {mk mv : M DV} {wk wv : WE}
def putN (n : Nat) (y z : DV) (ρ : S) : Option S := if fewD ρ (.o n) = true then match putR ρ (.o n) y z with
  | some ρ6 => if okCut (n + 1) ρ6.ob = true then some ρ6 else none
  | none => none else none
def dcGo (sl : List (Option DV)) (n : Nat) (g : DV → M Unit) (t : M Bool) (ek ev : M DV) : List PyData → List OB → R (List OB)
  | [], ob => .ok ob ⟨[], []⟩
  | x :: r, ob => match g (.d x) ⟨sl, ob⟩ with
    | .ok _ ρ2 => match t ρ2 with
      | .ok true ρ3 => match ek ρ3 with
        | .ok y ρ4 => match ev ρ4 with
          | .ok z ρ5 => match putN n y z ρ5 with
            | some ρ6 => dcGo sl n g t ek ev r (ρ6.ob.take (n + 1))
            | none => .bad
          | _ => .bad
        | _ => .bad
      | .ok false ρ3 => if okCut (n + 1) ρ3.ob = true then dcGo sl n g t ek ev r (ρ3.ob.take (n + 1)) else .bad
      | _ => .bad
    | _ => .bad
def mDcP (x0 : OB) (i : M (List PyData)) (g : DV → M Unit) (t : M Bool) (ek ev : M DV) (vs : List Nat) : M DV := mbind i fun xs ρ1 => match dcGo (wipeS ρ1.sl vs) ρ1.ob.length g t ek ev xs (ρ1.ob ++ [x0]) with
  | .ok ob _ => if ob.length = ρ1.ob.length + 1 then .ok (.o ρ1.ob.length) ⟨ρ1.sl, ob⟩ else .bad
  | _ => .bad
theorem im_dcP {x0 : OB} {i : M (List PyData)} {wi : WI} {g : DV → M Unit} {wg : WG} {vs : List Nat} (hi : ImI cl i wi) (hg : ImG cl g wg) (ht : ImT cl mt wt) (hk : ImE cl mk wk) (hv : ImE cl mv wv) : ImE cl (mDcP x0 i g mt mk mv vs) (wDcP x0 wi wg wt wk wv vs) := by
  intro ρ Q X h
  unfold mDcP at h
  rw [wpM_bind] at h
  refine hi _ _ _ (wpM_mono h fun xs ρ1 h1 => ?_)
  have h2 : ∃ ob ρ2, dcGo (wipeS ρ1.sl vs) ρ1.ob.length g mt mk mv xs (ρ1.ob ++ [x0]) = .ok ob ρ2 ∧ ob.length = ρ1.ob.length + 1 ∧ Q (.o ρ1.ob.length) ⟨ρ1.sl, ob⟩ := by
    unfold wpM at h1
    cases e : dcGo (wipeS ρ1.sl vs) ρ1.ob.length g mt mk mv xs (ρ1.ob ++ [x0]) with
    | ok ob ρ2 =>
      simp only [e] at h1
      by_cases hl : ob.length = ρ1.ob.length + 1
      · rw [if_pos hl] at h1; exact ⟨ob, ρ2, rfl, hl, h1⟩
      · rw [if_neg hl] at h1; exact h1.elim
    | exc x ρ2 => simp only [e] at h1
    | bad => simp only [e] at h1
  clear h1
  refine ⟨fun k ob => ∃ ob' ρ2, dcGo (wipeS ρ1.sl vs) ρ1.ob.length g mt mk mv (xs.drop k) ob = .ok ob' ρ2 ∧ ob'.length = ρ1.ob.length + 1 ∧ Q (.o ρ1.ob.length) ⟨ρ1.sl, ob'⟩, by simpa using h2, ?_, ?_⟩
  · rintro k x ob hxk ⟨ob', ρ2, hgo, hl', hq⟩ hl
    have hd : xs.drop k = x :: xs.drop (k + 1) := by
      obtain ⟨hxk, e⟩ := List.getElem?_eq_some_iff.mp hxk
      rw [List.drop_eq_getElem_cons hxk, e]
    rw [hd] at hgo
    unfold dcGo at hgo
    refine hg _ _ _ ?_
    unfold wpM
    cases e1 : g (.d x) ⟨wipeS ρ1.sl vs, ob⟩ with
    | exc y ρ2 => simp only [e1] at hgo; cases hgo
    | bad => simp only [e1] at hgo; cases hgo
    | ok u ρ3 =>
      simp only [e1] at hgo
      refine ht _ _ _ ?_
      unfold wpM
      cases e2 : mt ρ3 with
      | exc y ρ4 => simp only [e2] at hgo; cases hgo
      | bad => simp only [e2] at hgo; cases hgo
      | ok b ρ4 =>
        cases b with
        | false =>
          simp only [e2] at hgo ⊢
          by_cases hc : okCut (ρ1.ob.length + 1) ρ4.ob = true
          · rw [if_pos hc] at hgo
            exact ⟨hc, ob', ρ2, hgo, hl', hq⟩
          · rw [if_neg hc] at hgo
            cases hgo
        | true =>
          simp only [e2] at hgo ⊢
          refine hk _ _ _ ?_
          unfold wpM
          cases e3 : mk ρ4 with
          | exc y ρ5 => simp only [e3] at hgo; cases hgo
          | bad => simp only [e3] at hgo; cases hgo
          | ok y ρ5 =>
            simp only [e3] at hgo
            refine hv _ _ _ ?_
            unfold wpM
            cases e4 : mv ρ5 with
            | exc y ρ6 => simp only [e4] at hgo; cases hgo
            | bad => simp only [e4] at hgo; cases hgo
            | ok z ρ6 =>
              simp only [e4] at hgo
              unfold putN at hgo
              by_cases hf : fewD ρ6 (.o ρ1.ob.length) = true
              · rw [if_pos hf] at hgo
                refine ⟨hf, ?_⟩
                cases e5 : putR ρ6 (.o ρ1.ob.length) y z with
                | none => simp only [e5] at hgo; cases hgo
                | some ρ7 =>
                  simp only [e5] at hgo
                  by_cases hc : okCut (ρ1.ob.length + 1) ρ7.ob = true
                  · rw [if_pos hc] at hgo
                    exact ⟨hc, ob', ρ2, hgo, hl', hq⟩
                  · rw [if_neg hc] at hgo
                    cases hgo
              · rw [if_neg hf] at hgo
                cases hgo
  · rintro ob ⟨ob', ρ2, hgo, hl', hq⟩ hl
    rw [List.drop_length] at hgo
    cases hgo
    exact hq
end
end FL
end

section
set_option Elab.async false
set_option linter.all false
set_option maxRecDepth 100000
set_option maxHeartbeats 1000000
set_option autoImplicit false
/-! ## list(range(a, b)), tuple(range(..)) -/
namespace DL
open PySem PySem.Spec PyProof.Rows L2
variable [Tab0]
section
variable {T : Sta} {pos p p2 q : Pos} {a b e : Expr} {wa wb we : WE} {K : PySem.W.Frag}
theorem reps_rg2 {G : Hp} (i j : Int) : Reps K G (rgV i j) (rng i (j - i).toNat) := by
  unfold rgV rng
  exact reps_mapR (fun k => .int _) _
def dLrg2 : DV → DV → S → QD → Prop := fun x y ρ Q => match x, y with
  | .d (.int i), .d (.int j) => RgOk i j ∧ Q (.o ρ.ob.length) ⟨ρ.sl, ρ.ob ++ [.lst ((rng i (j - i).toNat).map .d)]⟩
  | _, _ => False
def dTrg2 : DV → DV → S → QD → Prop := fun x y ρ Q => match x, y with
  | .d (.int i), .d (.int j) => RgOk i j ∧ Q (.d (.tuple (rng i (j - i).toNat))) ρ
  | _, _ => False
def dTrg : DV → S → QD → Prop := fun x ρ Q => match x with
  | .d (.int n) => RgOk 0 n ∧ Q (.d (.tuple (rng 0 n.toNat))) ρ
  | _ => False
theorem pd_listRg2 (ha : PD T a wa) (hb : PD T b wb) (hg : T.sc.names.lookup ("range" : Str) = some .globalImplicit) (hm : T.mg "range" = none) (hg2 : T.sc.names.lookup ("list" : Str) = some .globalImplicit) (hm2 : T.mg "list" = none)
    (na : ∀ env, starEach [a, b] env = (false, eval a env) :: starEach [b] env := by intro _; rfl) (na2 : ∀ env, starEach [b] env = (false, eval b env) :: starEach [] env := by intro _; rfl) (na3 : ∀ env, (backTo q (starEach [b] env)).any (·.1) = false := by intro _; rfl)
    (nb : ∀ env, starEach [.Call (.Name "range" p2) [a, b] [] q] env = (false, eval (.Call (.Name "range" p2) [a, b] [] q) env) :: starEach [] env := by intro _; rfl) :
    PD T (.Call (.Name "list" p) [.Call (.Name "range" p2) [a, b] [] q] [] pos) (wOp dLrg2 wa wb) := by
  obtain ⟨ta, ha, d1⟩ := ha
  obtain ⟨tb, hb, d2⟩ := hb
  refine ⟨fun W => tLstRg (tRg2 (ta W) (tb W)), fun W X g tk => ?_, fun ρ Q X h W σ F G H as ok acc C k => ?_⟩
  · exact pe_listRg g.calm (by show X.env.scope.names.lookup _ = _; rw [g.sc]; exact hg2) (by rw [g.mg]; exact hm2) (prg_2 (by show X.env.scope.names.lookup _ = _; rw [g.sc]; exact hg) (by rw [g.mg]; exact hm) (ha W X g tk) (hb W X g tk) (na _) (na2 _) (na3 _)) (nb _)
  · refine d1 _ _ _ h W σ F G H as ok acc _ fun x ρ1 v G1 H1 as1 h1 ok1 n1 r1 => ?_
    refine d2 _ _ _ h1 W σ F G1 H1 as1 ok1 (acc.next n1) _ fun y ρ2 u G2 H2 as2 h2 ok2 n2 r2 => ?_
    have r1 := r1.mono n2
    match x, y, h2, r1, r2 with
    | .d (.int i), .d (.int j), ⟨hr, h2⟩, r1, r2 =>
      cases repI r1
      cases repI r2
      exact ⟨i, j, rfl, rfl, hr, fun p hp => mineL (k.next (n1.trans n2)) ok2 hp (RepVs.of (reps_rg2 i j)) h2⟩
theorem pd_tupRg2 (ha : PD T a wa) (hb : PD T b wb) (hg : T.sc.names.lookup ("range" : Str) = some .globalImplicit) (hm : T.mg "range" = none) (hg2 : T.sc.names.lookup ("tuple" : Str) = some .globalImplicit) (hm2 : T.mg "tuple" = none)
    (na : ∀ env, starEach [a, b] env = (false, eval a env) :: starEach [b] env := by intro _; rfl) (na2 : ∀ env, starEach [b] env = (false, eval b env) :: starEach [] env := by intro _; rfl) (na3 : ∀ env, (backTo q (starEach [b] env)).any (·.1) = false := by intro _; rfl)
    (nb : ∀ env, starEach [.Call (.Name "range" p2) [a, b] [] q] env = (false, eval (.Call (.Name "range" p2) [a, b] [] q) env) :: starEach [] env := by intro _; rfl) :
    PD T (.Call (.Name "tuple" p) [.Call (.Name "range" p2) [a, b] [] q] [] pos) (wOp dTrg2 wa wb) := by
  obtain ⟨ta, ha, d1⟩ := ha
  obtain ⟨tb, hb, d2⟩ := hb
  refine ⟨fun W => tTupRg (tRg2 (ta W) (tb W)), fun W X g tk => ?_, fun ρ Q X h W σ F G H as ok acc C k => ?_⟩
  · exact pe_tupRg g.calm (by show X.env.scope.names.lookup _ = _; rw [g.sc]; exact hg2) (by rw [g.mg]; exact hm2) (prg_2 (by show X.env.scope.names.lookup _ = _; rw [g.sc]; exact hg) (by rw [g.mg]; exact hm) (ha W X g tk) (hb W X g tk) (na _) (na2 _) (na3 _)) (nb _)
  · refine d1 _ _ _ h W σ F G H as ok acc _ fun x ρ1 v G1 H1 as1 h1 ok1 n1 r1 => ?_
    refine d2 _ _ _ h1 W σ F G1 H1 as1 ok1 (acc.next n1) _ fun y ρ2 u G2 H2 as2 h2 ok2 n2 r2 => ?_
    have r1 := r1.mono n2
    match x, y, h2, r1, r2 with
    | .d (.int i), .d (.int j), ⟨hr, h2⟩, r1, r2 =>
      cases repI r1
      cases repI r2
      exact ⟨i, j, rfl, rfl, hr, fun p hp => (k.next (n1.trans n2)).data ok2 hp h2 (.tup upd_same (reps_rg2 i j))⟩
theorem pd_tupRg (ha : PD T a wa) (hg : T.sc.names.lookup ("range" : Str) = some .globalImplicit) (hm : T.mg "range" = none) (hg2 : T.sc.names.lookup ("tuple" : Str) = some .globalImplicit) (hm2 : T.mg "tuple" = none)
    (na : ∀ env, starEach [a] env = (false, eval a env) :: starEach [] env := by intro _; rfl)
    (nb : ∀ env, starEach [.Call (.Name "range" p2) [a] [] q] env = (false, eval (.Call (.Name "range" p2) [a] [] q) env) :: starEach [] env := by intro _; rfl) :
    PD T (.Call (.Name "tuple" p) [.Call (.Name "range" p2) [a] [] q] [] pos) (wUn dTrg wa) := by
  obtain ⟨ta, ha, d1⟩ := ha
  refine ⟨fun W => tTupRg (tRg1 (ta W)), fun W X g tk => ?_, fun ρ Q X h W σ F G H as ok acc C k => ?_⟩
  · exact pe_tupRg g.calm (by show X.env.scope.names.lookup _ = _; rw [g.sc]; exact hg2) (by rw [g.mg]; exact hm2) (prg_1 (by show X.env.scope.names.lookup _ = _; rw [g.sc]; exact hg) (by rw [g.mg]; exact hm) (ha W X g tk) (na _)) (nb _)
  · refine d1 _ _ _ h W σ F G H as ok acc _ fun x ρ1 v G1 H1 as1 h1 ok1 n1 r1 => ?_
    match x, h1, r1 with
    | .d (.int n), ⟨hr, h1⟩, r1 =>
      cases repI r1
      exact ⟨n, rfl, hr, fun p hp => (k.next n1).data ok1 hp h1 (.tup upd_same (reps_rg n))⟩
end
end DL
namespace FL
open PySem PySem.Spec PyProof.Rows L2 DL
variable [Tab0]
section
variable {cl : Str → Addr}
def rLrg2 (x y : DV) (ρ : S) : Option (DV × S) := match x, y with
  | .d (.int i), .d (.int j) => if RgOk i j then some (.o ρ.ob.length, ⟨ρ.sl, ρ.ob ++ [.lst ((rng i (j - i).toNat).map .d)]⟩) else none
  | _, _ => none
def rTrg2 (x y : DV) (ρ : S) : Option (DV × S) := match x, y with
  | .d (.int i), .d (.int j) => if RgOk i j then some (.d (.tuple (rng i (j - i).toNat)), ρ) else none
  | _, _ => none
def rTrg (x : DV) (ρ : S) : Option (DV × S) := match x with
  | .d (.int n) => if RgOk 0 n then some (.d (.tuple (rng 0 n.toNat)), ρ) else none
  | _ => none
def oLrg2 := oOp rLrg2
def oTrg2 := oOp rTrg2
def oTrg := uOp rTrg
theorem ir_lrg2 : ImR cl oLrg2 dLrg2 := ir_op fun x y ρ z Q e q => by
  match x, y, e with
  | .d (.int i), .d (.int j), e =>
    have e : (if RgOk i j then some ((DV.o ρ.ob.length, (⟨ρ.sl, ρ.ob ++ [.lst ((rng i (j - i).toNat).map .d)]⟩ : S)) : DV × S) else none) = some z := e
    by_cases h : RgOk i j
    · rw [if_pos h] at e
      cases e
      exact ⟨h, q⟩
    · rw [if_neg h] at e
      cases e
theorem ir_trg2 : ImR cl oTrg2 dTrg2 := ir_op fun x y ρ z Q e q => by
  match x, y, e with
  | .d (.int i), .d (.int j), e =>
    have e : (if RgOk i j then some ((DV.d (.tuple (rng i (j - i).toNat)), ρ) : DV × S) else none) = some z := e
    by_cases h : RgOk i j
    · rw [if_pos h] at e
      cases e
      exact ⟨h, q⟩
    · rw [if_neg h] at e
      cases e
theorem iu_trg : ImU cl oTrg dTrg := iu_op fun x ρ z Q e q => by
  match x, e with
  | .d (.int n), e =>
    have e : (if RgOk 0 n then some ((DV.d (.tuple (rng 0 n.toNat)), ρ) : DV × S) else none) = some z := e
    by_cases h : RgOk 0 n
    · rw [if_pos h] at e
      cases e
      exact ⟨h, q⟩
    · rw [if_neg h] at e
      cases e
end
end FL
end

section
set_option Elab.async false
set_option linter.all false
set_option maxRecDepth 100000
set_option maxHeartbeats 1000000
set_option autoImplicit false
/-! ## gcd, lcm of two -/
namespace DL
open PySem PySem.Spec PyProof.Rows L2
variable [Tab0]
def lcmI (a b : Int) : Int := (((Nat.lcm 1 a.natAbs).lcm b.natAbs : Nat) : Int)
def gcdI (a b : Int) : Int := ((Nat.gcd a.natAbs b.natAbs : Nat) : Int)
def CLcm (a b : Int) : Prop := a.natAbs < 2 ^ 64 ∧ b.natAbs < 2 ^ 64 ∧ (lcmI a b).natAbs.log2 < bitsLine
def rLcm : List V → Hp → VK → Prop := fun vs H Q => ∃ a b : Int, vs = [.int a, .int b] ∧ CLcm a b ∧ Q (.int (lcmI a b)) H
theorem cr_lcm {X : Cx} : CallR X (.builtin "math.lcm") rLcm := by
  intro pins s σ H vs us Q inv r h
  obtain ⟨a, b, rfl, ⟨ha, hb, hs⟩, q⟩ := h
  obtain ⟨t, u, rfl⟩ := Vals.int2 r
  exact PySem.W.mg_lcm ha hb hs ⟨.int _, H, inv.tok _, ⟨_, rfl⟩, q⟩
def dGcd : List DV → S → QD → Prop := fun xs ρ Q => match xs with
  | [.d (.int a), .d (.int b)] => Q (.d (.int (gcdI a b))) ρ
  | _ => False
def dLcm : List DV → S → QD → Prop := fun xs ρ Q => match xs with
  | [.d (.int a), .d (.int b)] => CLcm a b ∧ Q (.d (.int (lcmI a b))) ρ
  | _ => False
section
variable {T : Sta} {pos p : Pos} {a b e : Expr} {es : List Expr} {w : WA} {K : PySem.W.Frag} {x : Str}
theorem two_ints {G : Hp} {as : List Addr} {vs : List V} {i j : Int} (r : RepVs K G as vs [.d (.int i), .d (.int j)]) : vs = [.int i, .int j] := by
  cases r with
  | cons r1 r2 =>
    cases r2 with
    | cons r2 r3 =>
      cases r3
      rw [repI r1, repI r2]
theorem cad_gcd : CaD K rGcd dGcd := by
  intro xs ρ Q h σ F G H as vs ok rx C k
  unfold dGcd at h
  split at h
  · rename_i i j
    exact ⟨i, j, two_ints rx, k.same ok h (.int _)⟩
  · exact h.elim
theorem cad_lcm : CaD K rLcm dLcm := by
  intro xs ρ Q h σ F G H as vs ok rx C k
  unfold dLcm at h
  split at h
  · rename_i i j
    exact ⟨i, j, two_ints rx, h.1, k.same ok h.2 (.int _)⟩
  · exact h.elim
/-- a call of what a module of Python's own gives -/
theorem pd_callM {r : List V → Hp → VK → Prop} {R : List DV → S → QD → Prop} {id : String} (hc : ∀ X : Cx, CallR X (.builtin id) r) (hr : CaD T.K r R) (hg : T.sc.names.lookup x = some .globalImplicit) (hm : T.mg x = some (.builtin id)) (ha : PDA T (e :: es) w) (hdb : (x == ("__debug__" : Str)) = false := by decide)
    (he : ∀ env, starEach (e :: es) env = (false, eval e env) :: starEach es env := by intro _; rfl) (hpl : ∀ env, (backTo pos (starEach es env)).any (·.1) = false := by intro _; rfl) : PD T (.Call (.Name x p) (e :: es) [] pos) (wCa R w) := by
  obtain ⟨ta, ha, da⟩ := ha
  exact ⟨fun W => tCB r (ta W), fun W X g tk => pe_callBfun (hc X) (by show X.env.scope.names.lookup x = _; rw [g.sc]; exact hg) (by rw [g.mg]; exact hm) (ha W X g tk) hdb (he _) (hpl _), fun ρ Q X h => de_ca hr da h⟩
theorem pd_gcd (hg : T.sc.names.lookup x = some .globalImplicit) (hm : T.mg x = some (.builtin "math.gcd")) (ha : PDA T (e :: es) w) (hdb : (x == ("__debug__" : Str)) = false := by decide)
    (he : ∀ env, starEach (e :: es) env = (false, eval e env) :: starEach es env := by intro _; rfl) (hpl : ∀ env, (backTo pos (starEach es env)).any (·.1) = false := by intro _; rfl) : PD T (.Call (.Name x p) (e :: es) [] pos) (wCa dGcd w) :=
  pd_callM (fun _ => cr_gcd) cad_gcd hg hm ha hdb he hpl
theorem pd_lcm (hg : T.sc.names.lookup x = some .globalImplicit) (hm : T.mg x = some (.builtin "math.lcm")) (ha : PDA T (e :: es) w) (hdb : (x == ("__debug__" : Str)) = false := by decide)
    (he : ∀ env, starEach (e :: es) env = (false, eval e env) :: starEach es env := by intro _; rfl) (hpl : ∀ env, (backTo pos (starEach es env)).any (·.1) = false := by intro _; rfl) : PD T (.Call (.Name x p) (e :: es) [] pos) (wCa dLcm w) :=
  pd_callM (fun _ => cr_lcm) cad_lcm hg hm ha hdb he hpl
end
end DL
namespace FL
open PySem PySem.Spec PyProof.Rows L2 DL
variable [Tab0]
section
variable {cl : Str → Addr}
instance : ∀ a b, Decidable (CLcm a b) := fun a b => by unfold CLcm; infer_instance
def rGcdD : List DV → S → Option (DV × S)
  | [.d (.int a), .d (.int b)], ρ => some (.d (.int (gcdI a b)), ρ)
  | _, _ => none
def rLcmD : List DV → S → Option (DV × S)
  | [.d (.int a), .d (.int b)], ρ => if CLcm a b then some (.d (.int (lcmI a b)), ρ) else none
  | _, _ => none
def oGcd := cOp rGcdD
def oLcm := cOp rLcmD
theorem ic_gcd : ImC cl oGcd dGcd := ic_op fun xs ρ z Q e q => by
  unfold rGcdD at e
  split at e
  · cases e; exact q
  · cases e
theorem ic_lcm : ImC cl oLcm dLcm := ic_op fun xs ρ z Q e q => by
  unfold rLcmD at e
  split at e
  · split at e
    · rename_i h
      cases e; exact ⟨h, q⟩
    · cases e
  · cases e
end
end FL
end

section
set_option Elab.async false
set_option linter.all false
set_option maxRecDepth 100000
set_option maxHeartbeats 1000000
set_option autoImplicit false
/-! ## a, b, c = e, e', e'' with values of one's own -/
namespace DL
open PySem PySem.Spec PyProof.Rows L2
variable [Tab0]
section
variable {T : Sta} {pos : Pos} {a b c : Expr} {w : WA}
def wPar3 (i j l : Nat) (w : WA) : WS := fun E ρ => w ρ (fun xs ρ1 => match xs with
  | [x, y, z] => E.nx ⟨((ρ1.sl.set i (some x)).set j (some y)).set l (some z), ρ1.ob⟩
  | _ => False) E.xr
theorem pds_par3 {x y z : Str} {px py pz pt pt2 : Pos} {kt k2 : Nat} (i j l : Nat) (ha : PDA T [a, b, c] w) (hi : T.N[i]? = some x := by rfl) (hj : T.N[j]? = some y := by rfl) (hl : T.N[l]? = some z := by rfl) (hij : i ≠ j := by decide) (hil : i ≠ l := by decide) (hjl : j ≠ l := by decide)
    (hx : T.sc.names.lookup x = some .local := by rfl) (hy : T.sc.names.lookup y = some .local := by rfl) (hz : T.sc.names.lookup z = some .local := by rfl)
    (hw : ∀ env : Env, env.scope = T.sc → swappedStores [.Tuple [.Name x px, .Name y py, .Name z pz] kt pt] (.Tuple [a, b, c] k2 pt2) env = pure (some [x, y, z])) (hs : ∀ env, swapsWithSole [.Tuple [.Name x px, .Name y py, .Name z pz] kt pt] (.Tuple [a, b, c] k2 pt2) pos.line env = pure false := by intro _; rfl) :
    PDS T (.Assign [.Tuple [.Name x px, .Name y py, .Name z pz] kt pt] (.Tuple [a, b, c] k2 pt2) pos) (wPar3 i j l w) := by
  obtain ⟨t, ht, d⟩ := ha
  refine ⟨fun W => tPar3 i j l (t W), fun W X g tk => ps_par3 g.calm (by rw [g.N]; exact g.nd) (by rw [g.N]; exact hi) (by rw [g.N]; exact hj) (by rw [g.N]; exact hl) hij hil hjl (by rw [g.sc]; exact hx) (by rw [g.sc]; exact hy) (by rw [g.sc]; exact hz) (ht W X g tk) (hw _ g.sc) (hs _), fun ρ E h W σ F G H as ok acc D l' => ?_⟩
  refine d _ _ _ h W σ F G H as ok (acc.at σ) _ fun dvs ρ' vs G' H' as' q o n r => ?_
  match dvs, q, r with
  | [x, y, z], q, .cons (v := v) r1 (.cons (v := u) r2 (.cons (v := t') r3 .nil)) => exact ⟨v, u, t', rfl, l'.nx _ _ G' H' as' q (((o.set i r1).set j r2).set l r3) n⟩
end
end DL
namespace FL
open PySem PySem.Spec PyProof.Rows L2 DL
variable [Tab0]
section
variable {cl : Str → Addr} {m : M (List DV)} {w : WA}
def sPar3 (i j l : Nat) (m : M (List DV)) : M FL.Flow := mbind m fun xs ρ1 => match xs with
  | [x, y, z] => .ok .nx ⟨((ρ1.sl.set i (some x)).set j (some y)).set l (some z), ρ1.ob⟩
  | _ => .bad
theorem is_par3 {i j l : Nat} (hm : ImA cl m w) : ImS cl (sPar3 i j l m) (wPar3 i j l w) := by
  intro E ρ h
  unfold sPar3 at h
  rw [wpS_bind] at h
  refine hm _ _ _ (wpM_mono h fun xs ρ1 h1 => ?_)
  match xs, h1 with
  | [x, y, z], h1 => exact h1
  | [], h1 => exact h1.elim
  | [_], h1 => exact h1.elim
  | [_, _], h1 => exact h1.elim
  | _ :: _ :: _ :: _ :: _, h1 => exact h1.elim
def parK3 (i j l : Nat) (xs : List DV) (ρ1 : S) : R FL.Flow := match xs with
  | [x, y, z] => .ok .nx ⟨((ρ1.sl.set i (some x)).set j (some y)).set l (some z), ρ1.ob⟩
  | _ => .bad
theorem sPar3_eq {i j l : Nat} : sPar3 i j l m = mbind m fun xs ρ1 => parK3 i j l xs ρ1 := rfl
end
end FL
end

section
set_option Elab.async false
set_option linter.all false
set_option maxRecDepth 100000
set_option maxHeartbeats 1000000
set_option autoImplicit false
/-! ## xs.index(y) of a list -/
namespace DL
open PySem PySem.Spec PyProof.Rows L2
variable [Tab0]
def dIdx : DV → List DV → S → QD → Prop := fun x xs ρ Q => ∃ (ds : List PyData) (y : DV) (d z : PyData) (j : Nat), xs = [y] ∧ datOf ρ x = some (.list ds) ∧ datOf ρ y = some d ∧ Eqs (.list ds) ∧ Eqs d ∧ ds[j]? = some z ∧ PyData.eqv z d = true ∧
  (∀ (m : Nat) (z' : PyData), m < j → ds[m]? = some z' → PyData.eqv z' d = false) ∧ Q (.d (.int (j : Nat))) ρ
section
variable {T : Sta} {apos cpos : Pos} {o e : Expr} {wo : WE} {w : WA} {K : PySem.W.Frag}
theorem mtd_idx : MtD K (rIndexD K) dIdx := by
  rintro x xs ρ Q ⟨ds, y, d, z, j, rfl, hx, hy, e1, e2, hz, hq, hno, q⟩ σ F G H as v vs ok rx rxs C k
  cases rxs with
  | cons ry rt =>
    cases rt
    have px := rep_dp (Same.refl H) (.list ds) v (datOf_rep ok rx hx) e1.1
    have py := rep_dp (Same.refl H) d _ (datOf_rep ok ry hy) e2.1
    have hv : ∃ a, v = .ref a := by
      have r := datOf_rep ok rx hx
      cases r
      exact ⟨_, rfl⟩
    obtain ⟨a, rfl⟩ := hv
    exact ⟨a, _, d, ds, j, z, rfl, rfl, px, py, e1.2, e2.2, hz, hq, hno, k.same ok q (.int _)⟩
theorem pd_index (ho : PD T o wo) (ha : PDA T [e] w)
    (hbase : ∀ env, attributeBase o ("index" : Str) env (eval o env) = eval o env := by intro _; rfl)
    (hfew : ∀ env, ((backTo cpos (starEach [e] env)).all (fun x => !x.1) && (backToKw cpos (keywordEach [] env)).all (fun x => x.1.isSome)
      && decide ([e].length + ([] : List Keyword).length + (if ([] : List Keyword).isEmpty then 0 else 1) < 30)) = true := by intro _; rfl)
    (hline : (apos.endLine == cpos.line) = true := by rfl) (hs : ∀ env, starEach [e] env = (false, eval e env) :: starEach [] env := by intro _; rfl) :
    PD T (.Call (.Attribute o "index" apos) [e] [] cpos) (wBM "list" dIdx wo w) := by
  obtain ⟨to, ho, d1⟩ := ho
  obtain ⟨ta, ha, da⟩ := ha
  refine ⟨fun W => tBM T.K "list" (rIndexD T.K) (to W) (ta W), fun W X g tk => ?_, fun ρ Q X h W σ F G H as ok acc C k => ?_⟩
  · rw [← g.K]
    exact pe_bm PySem.F.plainAttrs_list PySem.F.slot_list_index PySem.F.type_list_index (mt_indexD (by have := g.room.un; omega)) (ho W X g tk) (ha W X g tk) (hbase _) (hfew _) hline (hs _) rfl
  · refine d1 _ _ _ h W σ F G H as ok acc _ fun x ρ1 v G1 H1 as1 h1 ok1 n1 r1 => ⟨tyD_ok ok1 r1 h1.1, ?_⟩
    refine da _ _ _ h1.2 W σ F G1 H1 as1 ok1 (acc.next n1) _ fun xs ρ2 vs G2 H2 as2 h2 ok2 n2 r2 => ?_
    exact mtd_idx x xs ρ2 Q h2 σ F G2 H2 as2 v vs ok2 (r1.mono n2) r2 C (k.next (n1.trans n2))
end
end DL
namespace FL
open PySem PySem.Spec PyProof.Rows L2 DL
variable [Tab0]
def rIdx (x : DV) (xs : List DV) (ρ : S) : Option (DV × S) := match datOf ρ x, xs with
  | some (.list ds), [y] => match datOf ρ y with
    | some d => if eqs (.list ds) && eqs d then (ds.findIdx? fun z => PyData.eqv z d).map fun j => (.d (.int (j : Nat)), ρ) else none
    | none => none
  | _, _ => none
theorem eqs_Eqs {d : PyData} (h : eqs d = true) : Eqs d := by
  unfold eqs at h
  rw [Bool.and_eq_true, Bool.not_eq_true'] at h
  exact h
theorem imm_idx : ImM rIdx dIdx := fun x xs ρ z Q e q => by
  unfold rIdx at e
  split at e
  · rename_i ds y h1
    split at e
    · rename_i d h2
      split at e
      · rename_i h3
        rw [Bool.and_eq_true] at h3
        obtain ⟨j, hj, rfl⟩ := Option.map_eq_some_iff.mp e
        rw [List.findIdx?_eq_some_iff_getElem] at hj
        obtain ⟨hlt, hp, hno⟩ := hj
        refine ⟨ds, y, d, ds[j], j, rfl, h1, h2, eqs_Eqs h3.1, eqs_Eqs h3.2, List.getElem?_eq_getElem hlt, hp, fun m z' hm hz => ?_, q⟩
        obtain ⟨hl, rfl⟩ := List.getElem?_eq_some_iff.mp hz
        have := hno m hm
        simpa using this
      · cases e
    · cases e
  · cases e
end FL
end

section
set_option Elab.async false
set_option linter.all false
set_option maxRecDepth 100000
set_option maxHeartbeats 1000000
set_option autoImplicit false
/-! ## sets of ints of one's own: set(), s.add(k), k in s, k not in s; what is never read -/
namespace DL
open PySem PySem.Spec PyProof.Rows L2
variable [Tab0]
section
variable {X : Cx}
def rSet0N : List V → Hp → VK → Prop := fun xs H Q => xs = [] ∧ ∀ p, H p = none → Q (.ref p) (upd H p (.set (fun _ => false) 0))
theorem cr_set0N : CallR X (.type "set") rSet0N := by
  intro pins s σ H xs us Q I r h
  obtain ⟨rfl, q⟩ := h
  cases r
  refine setR_new fun new => ?_
  exact ⟨.ref _, upd H s.heap.objs.size (.set (fun _ => false) 0), I.laid (t' := s.toks) (fun b u e => Heap.get?_push_of_some _ e) (Nat.le_refl _) new.setOf, rfl, q _ (I.hok.fresh (Nat.le_refl _))⟩
def rSAddN : V → List V → Hp → VK → Prop := fun x xs H Q => ∃ (a : Addr) (k : Int) (S : Int → Bool) (n : Nat), x = V.ref a ∧ xs = [V.int k] ∧ H a = some (.set S n) ∧ n + 1 < scanBound ∧
  Q .non (upd H a (.set (fun j => S j || decide (j = k)) (if S k = true then n else n + 1)))
theorem mt_saddN : MtR X "set.add" rSAddN := by
  intro pins s σ H x xs v us Q I rx rxs h
  obtain ⟨a, k, S, n, rfl, rfl, ha, room, q⟩ := h
  cases rx
  cases rxs with
  | cons ry rt =>
    cases rt
    obtain ⟨tk, rfl⟩ := ry
    have R : s.heap.SetOf (intKind X.prog X.w) a S n := I.hok a _ ha
    refine call_set_add (intKind_is _ _ _ _) rfl R room fun h' sb new => ?_
    have he : ∃ u, h'.get? a = some u := by
      have ⟨o, _, _, _, ho, _⟩ := new
      exact ⟨o, ho⟩
    exact ⟨.non, upd H a (.set (fun j => S j || decide (j = k)) (if S k = true then n else n + 1)), I.write (e := a) (t' := s.toks + 1) (by rw [ha]; trivial) (.inl rfl) (fun b u hb hu => (sb.2 b hb).trans hu) he new, rfl, q⟩
def rSInN (neg : Bool) : R2 := fun x y H Q => ∃ k a S n, x = V.int k ∧ y = V.ref a ∧ H a = some (.set S n) ∧ Q (.bl (if neg then !S k else S k)) H
theorem or_sinN : OpR X (compareOp .In) (rSInN false) := by
  intro pins s σ H x y v u Q I rx ry h
  obtain ⟨k, a, S, n, rfl, rfl, ha, q⟩ := h
  obtain ⟨tk, rfl⟩ := rx
  cases ry
  exact wpAny_inSet_of (intKind_is X.prog X.w _ _) rfl (I.hok a _ ha) ⟨.bl (S k), H, I.tok _, rfl, q⟩
theorem or_snotinN : OpR X (compareOp .NotIn) (rSInN true) := by
  intro pins s σ H x y v u Q I rx ry h
  obtain ⟨k, a, S, n, rfl, rfl, ha, q⟩ := h
  obtain ⟨tk, rfl⟩ := rx
  cases ry
  exact wpAny_notInSet_of (intKind_is X.prog X.w _ _) rfl (I.hok a _ ha) ⟨.bl (!S k), H, I.tok _, rfl, q⟩
end
def addI (xs : List Int) (i : Int) : List Int := if i ∈ xs then xs else xs ++ [i]
theorem addI_nd {xs : List Int} {i : Int} (h : xs.Nodup) : (addI xs i).Nodup := by
  unfold addI
  split
  · exact h
  · rename_i hi
    exact List.nodup_append.mpr ⟨h, by simp, fun a ha b hb e => by simp at hb; subst hb; subst e; exact hi ha⟩
theorem addI_set (xs : List Int) (i : Int) : (HO.set (fun j => decide (j ∈ xs) || decide (j = i)) (if decide (i ∈ xs) = true then xs.length else xs.length + 1)) = .set (fun k => decide (k ∈ addI xs i)) (addI xs i).length := by
  unfold addI
  by_cases h : i ∈ xs
  · have e : (fun j => decide (j ∈ xs) || decide (j = i)) = fun k => decide (k ∈ xs) := by
      funext j
      by_cases hj : j = i
      · subst hj; simp [h]
      · simp [hj]
    rw [if_pos h, if_pos (by simpa using h), e]
  · have e : (fun j => decide (j ∈ xs) || decide (j = i)) = fun k => decide (k ∈ xs ++ [i]) := by
      funext j
      simp
    rw [if_neg h, if_neg (by simpa using h), e, List.length_append]
    rfl
def dSet0 : List DV → S → QD → Prop := fun xs ρ Q => xs = [] ∧ Q (.o ρ.ob.length) ⟨ρ.sl, ρ.ob ++ [.st []]⟩
def dSAdd : DV → List DV → S → QD → Prop := fun x ys ρ Q => match x, ys with
  | .o k, [.d (.int i)] => match obK ρ k with
    | .st xs => xs.length + 1 < scanBound ∧ Q (.d .none) ⟨ρ.sl, ρ.ob.set k (.st (addI xs i))⟩
    | _ => False
  | _, _ => False
def dSIn (neg : Bool) : DV → DV → S → QD → Prop := fun x y ρ Q => match x, y with
  | .d (.int i), .o k => match obK ρ k with
    | .st xs => Q (.d (.bool (if neg then !decide (i ∈ xs) else decide (i ∈ xs)))) ρ
    | _ => False
  | _, _ => False
def wBad : WE := fun _ _ _ => False
def wBadS : WS := fun _ _ => False
section
variable {T : Sta} {pos p apos cpos : Pos} {o e : Expr} {st : Stmt} {wo we : WE} {w : WA} {K : PySem.W.Frag}
theorem pd_bad : PD T e wBad := ⟨fun _ _ _ _ => False, fun W X g tk => ⟨fun _ _ _ _ _ _ h => h.elim⟩, fun _ _ _ h => h.elim⟩
theorem pd_set0 (hg : T.sc.names.lookup ("set" : Str) = some .globalImplicit) (hm : T.mg "set" = none) : PD T (.Call (.Name "set" p) [] [] pos) (wCa dSet0 wNil) :=
  ⟨fun W => tCB rSet0N tNil, fun W X g tk => pe_callTy0 cr_set0N (by show X.env.scope.names.lookup _ = _; rw [g.sc]; exact hg) (by rw [g.mg]; exact hm) boot_set, fun ρ Q X h W σ F G H as ok acc C k => by
    obtain ⟨_, q⟩ := h
    refine ⟨rfl, fun p hp => mineX (x := .st []) k ok hp ⟨?_, List.nodup_nil⟩ q⟩
    rw [upd_same]
    rfl⟩
theorem mtd_sadd : MtD K rSAddN dSAdd := by
  intro x ys ρ Q h σ F G H as v vs ok rx ry C k
  match x, ys, h, rx, ry with
  | .o n, [.d (.int i)], h, rx, .cons (v := u) r .nil =>
    cases repI r
    unfold dSAdd at h
    cases e : obK ρ n with
    | st xs =>
      simp only [e] at h
      obtain ⟨a, rfl, ha, hk, hv, nd⟩ := repO ok rx e (by intro z; cases z)
      refine ⟨a, i, _, _, rfl, rfl, hv, h.1, ?_⟩
      rw [addI_set]
      exact k _ _ _ G _ as h.2 (ok.wr (y := .st (addI xs i)) ha hk (by intro z; cases z) ⟨upd_same, addI_nd nd⟩) (Nxt.refl _ _) .non
    | lst _ => simp only [e] at h
    | dk _ => simp only [e] at h
    | dt _ => simp only [e] at h
    | gone => simp only [e] at h
theorem pd_sadd (ho : PD T o wo) (ha : PDA T [e] w)
    (hbase : ∀ env, attributeBase o ("add" : Str) env (eval o env) = eval o env := by intro _; rfl)
    (hfew : ∀ env, ((backTo cpos (starEach [e] env)).all (fun x => !x.1) && (backToKw cpos (keywordEach [] env)).all (fun x => x.1.isSome)
      && decide ([e].length + ([] : List Keyword).length + (if ([] : List Keyword).isEmpty then 0 else 1) < 30)) = true := by intro _; rfl)
    (hline : (apos.endLine == cpos.line) = true := by rfl) (hs : ∀ env, starEach [e] env = (false, eval e env) :: starEach [] env := by intro _; rfl) :
    PD T (.Call (.Attribute o "add" apos) [e] [] cpos) (wBM "set" dSAdd wo w) :=
  pd_bm PySem.F.plainAttrs_set PySem.F.slot_set_add PySem.F.type_set_add (fun X _ => mt_saddN) mtd_sadd ho ha hbase hfew hline hs (fun _ => rfl)
theorem opd_sIn {neg : Bool} : OpD K (rSInN neg) (dSIn neg) := by
  intro x y ρ Q h σ F G H as v u ok rx ry C k
  match x, y, h, rx, ry with
  | .d (.int i), .o n, h, rx, ry =>
    cases repI rx
    unfold dSIn at h
    cases e : obK ρ n with
    | st xs =>
      simp only [e] at h
      obtain ⟨a, rfl, ha, hk, hv, nd⟩ := repO ok ry e (by intro z; cases z)
      exact ⟨i, a, _, _, rfl, rfl, hv, k.same ok h (.bl _)⟩
    | lst _ => simp only [e] at h
    | dk _ => simp only [e] at h
    | dt _ => simp only [e] at h
    | gone => simp only [e] at h
theorem cd_sIn : CmpD T .In (dSIn false) := ⟨_, fun X e _ hu => or_sinN, opd_sIn⟩
theorem cd_sNotIn : CmpD T .NotIn (dSIn true) := ⟨_, fun X e _ hu => or_snotinN, opd_sIn⟩
end
end DL
namespace FL
open PySem PySem.Spec PyProof.Rows L2 DL
variable [Tab0]
section
variable {cl : Str → Addr} {ma mb mc : M DV} {wa wb wc : WE} {m : M (List DV)} {w : WA}
theorem im_bad : ImE cl mbad wBad := fun _ _ _ h => h
def rSet0L : List DV → S → Option (DV × S)
  | [], ρ => some (.o ρ.ob.length, ⟨ρ.sl, ρ.ob ++ [.st []]⟩)
  | _, _ => none
def oSet0 := cOp rSet0L
theorem ic_set0 : ImC cl oSet0 dSet0 := ic_op fun x ρ z Q e q => by
  unfold rSet0L at e
  split at e
  · cases e
    exact ⟨rfl, q⟩
  · cases e
def rSAddL : DV → List DV → S → Option (DV × S)
  | .o k, [.d (.int i)], ρ => match obK ρ k with
    | .st xs => if xs.length + 1 < scanBound then some (.d .none, ⟨ρ.sl, ρ.ob.set k (.st (addI xs i))⟩) else none
    | _ => none
  | _, _, _ => none
theorem imm_sadd : ImM rSAddL dSAdd := fun x xs ρ z Q e q => by
  unfold rSAddL at e
  unfold dSAdd
  split at e
  · try dsimp only
    split at e
    · rename_i e1
      try rw [e1]
      split at e
      · rename_i hl
        cases e
        exact ⟨hl, q⟩
      · cases e
    · cases e
  · cases e
def rSInL (neg : Bool) (x y : DV) (ρ : S) : Option (DV × S) := match x, y with
  | .d (.int i), .o k => match obK ρ k with
    | .st xs => some (.d (.bool (if neg then !decide (i ∈ xs) else decide (i ∈ xs))), ρ)
    | _ => none
  | _, _ => none
def oSIn := oOp (rSInL false)
def oSNotIn := oOp (rSInL true)
theorem ir_sIn {neg : Bool} : ImR cl (oOp (rSInL neg)) (dSIn neg) := ir_op fun x y ρ z Q e q => by
  unfold rSInL at e
  unfold dSIn
  split at e
  · try dsimp only
    split at e
    · rename_i e1
      try rw [e1]
      cases e
      exact q
    · cases e
  · cases e
end
end FL
end

section
set_option Elab.async false
set_option linter.all false
set_option maxRecDepth 100000
set_option maxHeartbeats 1000000
set_option autoImplicit false
/-! ## dict(xs), xs a list of pairs whose keys are tuples of ints and texts -/
namespace DL
open PySem PySem.Spec PyProof.Rows L2
section
variable {prog : Program} {w : World} {A : Around} {E : Value → Shared → Prop}
/-- a dict with keys at addresses, without what is true of the keys -/
def RawD (P : Program) (w : World) (h : Heap) (S : Addr) (xs : List (List Key × Addr × Value)) : Prop :=
  ∃ o es ep, h.get? S = some o ∧ o.ExactDict ∧ o.data = .dict es ep ∧ es.toList = xs.map (entryOfKey (tupleKind (mixKind P w))) ∧ (xs.map (·.1)).Nodup
theorem RawD.of {h : Heap} {S : Addr} {xs : List (List Key × Addr × Value)} (d : h.DictOfH (tupleKind (mixKind prog w)) S xs) : RawD prog w h S xs := by
  obtain ⟨o, es, ep, a, b, c, e, _, n⟩ := d
  exact ⟨o, es, ep, a, b, c, e, n⟩
theorem RawD.kept {h h' : Heap} {S : Addr} {xs : List (List Key × Addr × Value)} (d : RawD prog w h S xs) (k : ∀ o, h.get? S = some o → h'.get? S = some o) : RawD prog w h' S xs := by
  obtain ⟨o, es, ep, a, b, c, e, n⟩ := d
  exact ⟨o, es, ep, k _ a, b, c, e, n⟩
theorem RawD.to {h h0 : Heap} {S : Addr} {xs : List (List Key × Addr × Value)} (d : RawD prog w h S xs) (hk : ∀ x ∈ xs, (tupleKind (mixKind prog w)).is h0 x.1 x.2.1) (k : ∀ b o, h0.get? b = some o → h.get? b = some o) : h.DictOfH (tupleKind (mixKind prog w)) S xs := by
  obtain ⟨o, es, ep, a, b, c, e, n⟩ := d
  refine ⟨o, es, ep, a, b, c, e, fun x hx => ?_, n⟩
  obtain ⟨o', its, m, h1, r⟩ := hk x hx
  exact ⟨o', its, m, k _ _ h1, r⟩
theorem key_kept {h h0 : Heap} {b : Addr} {k : List Key} (hk : (tupleKind (mixKind prog w)).is h0 k b) (kp : ∀ b o, h0.get? b = some o → h.get? b = some o) : (tupleKind (mixKind prog w)).is h k b := by
  obtain ⟨o', its, m, h1, r⟩ := hk
  exact ⟨o', its, m, kp _ _ h1, r⟩
def mergedH (acc rest : List (List Key × Addr × Value)) : List (List Key × Addr × Value) := rest.foldl (fun a q => storedH a q.1 q.2.1 q.2.2) acc
theorem storedH_len (xs : List (List Key × Addr × Value)) (k : List Key) (a : Addr) (v : Value) : (storedH xs k a v).length ≤ xs.length + 1 := by
  unfold storedH
  split
  · rw [List.length_map]; omega
  · rw [List.length_append]; exact Nat.le_refl _
theorem storedH_keys {h0 : Heap} {xs : List (List Key × Addr × Value)} {k : List Key} {a : Addr} {v : Value} (hk : ∀ x ∈ xs, (tupleKind (mixKind prog w)).is h0 x.1 x.2.1) (hx : (tupleKind (mixKind prog w)).is h0 k a) : ∀ x ∈ storedH xs k a v, (tupleKind (mixKind prog w)).is h0 x.1 x.2.1 := by
  unfold storedH
  split
  · intro x hm
    obtain ⟨y, hy, e⟩ := List.mem_map.mp hm
    subst e
    unfold putAt
    split
    · exact hk y hy
    · exact hk y hy
  · intro x hm
    rcases List.mem_append.mp hm with hm | hm
    · exact hk x hm
    · cases List.mem_singleton.mp hm
      exact hx
/-- the walk over the pairs -/
theorem upd_loopH {R : Result → Shared → Prop} {h0 : Heap} {S I l : Addr} {items : Array Value} {res : Value} (hh : A.handled = none) (hu : A.units + 4 < cLine) (hlI : l ≠ I) (hSI : S ≠ I) (hSl : S ≠ l) (hS0 : h0.get? S = none) (hI0 : h0.get? I = none) (hl0 : ∃ o, h0.get? l = some o) :
    ∀ (rest : List (List Key × Addr × Value)) (i : Nat) (acc : List (List Key × Addr × Value)) (ix : Int) (t : Tok) (s : Shared), items.size = i + rest.length → acc.length + rest.length ≤ sizeLine →
      (∀ (j : Nat) (q : List Key × Addr × Value), rest[j]? = some q → ∃ (b : Addr), items[i + j]? = some (.ref b) ∧ IsTup h0 b #[.ref q.2.1, q.2.2] ∧ (tupleKind (mixKind prog w)).is h0 q.1 q.2.1) →
      s.heap.IsListIter I l i → s.heap.IsList l items → RawD prog w s.heap S acc → (∀ x ∈ acc, (tupleKind (mixKind prog w)).is h0 x.1 x.2.1) → (∀ b o, h0.get? b = some o → s.heap.get? b = some o) →
      (∀ h' tk, RawD prog w h' S (mergedH acc rest) → (∀ b o, h0.get? b = some o → h'.get? b = some o) → R (.ok (.ret res)) { s with heap := h', toks := tk }) →
      codeAny (model prog w) A (.builtin "dict.update.loop" ⟨[.ref S, .ref I, .int ix t, res], []⟩) R s
  | [], i, acc, ix, t, s, hsz, hln, ht, hit, hl, hm, hka, kp, hR => by
    refine codeAny_builtin ud_entry ?_
    rw [Around.under_plainId ud_plain _]
    show wpAny _ A.in1 (pyNext (.ref I) >>= _) _ _ s
    refine wpAny_bind (wpAny_pyNext_list_end (A := A.in1) hh hit hl (by first | exact Array.getElem?_eq_none (Nat.le_of_eq hsz) | (simp at hsz; simp; omega)) fun h' he => ?_)
    show wpAny _ A.in1 (Builtin.Dict.addKeywords S [] >>= _) _ _ _
    refine wpAny_bind (wpAny_pure (wpAny_pure ?_))
    have ne : ∀ b o, h0.get? b = some o → b ≠ I := fun b o e z => by rw [z, hI0] at e; cases e
    exact hR h' s.toks (hm.kept fun o e => he S o hSI e) fun b o e => he b o (ne b o e) (kp b o e)
  | q :: rest, i, acc, ix, t, s, hsz, hln, ht, hit, hl, hm, hka, kp, hR => by
    obtain ⟨b, hb, htup, hk⟩ := ht 0 q rfl
    have neI : ∀ b o, h0.get? b = some o → b ≠ I := fun b o e z => by rw [z, hI0] at e; cases e
    have neS : ∀ b o, h0.get? b = some o → b ≠ S := fun b o e z => by rw [z, hS0] at e; cases e
    rw [List.length_cons] at hsz hln
    refine codeAny_builtin ud_entry ?_
    rw [Around.under_plainId ud_plain _]
    show wpAny _ A.in1 (pyNext (.ref I) >>= _) _ _ s
    refine wpAny_bind (wpAny_pyNext_list_item (x := .ref b) hit hl (by simpa using hb) fun h1 hit1 hs1 => ?_)
    have kp1 : ∀ b o, h0.get? b = some o → h1.get? b = some o := fun c o e => hs1.extBut c o (neI c o e) (kp c o e)
    have ht1 : IsTup h1 b #[.ref q.2.1, q.2.2] := htup.keeps kp1
    have hl1 : h1.IsList l items := hl.extBut hs1.extBut hlI
    have hm1 : RawD prog w h1 S acc := hm.kept fun o e => hs1.extBut S o hSI e
    obtain ⟨o, ho, hc, n, hd⟩ := id ht1
    show wpAny _ A.in1 (holding [Value.ref b] _ >>= _) _ _ _
    refine wpAny_bind (wpAny_holding ?_)
    refine wpAny_bind (wpAny_tryCatch ?_)
    unfold Builtin.Dict.pairItems
    refine wpAny_bind (wpAny_typeOf (T := "tuple") ⟨o, ho, hc⟩ ?_)
    rw [if_pos (by first | decide | rfl | simp)]
    refine wpAny_bind (wpAny_seqItems ho hd (wpAny_pure ?_))
    show wpAny _ A.in1 (holding [.ref q.2.1, q.2.2] (dictSet S (.ref q.2.1) q.2.2)) _ _ _
    refine wpAny_holding (wpAny_dictSet_heap (knd := tupleKind (mixKind prog w)) (k := q.1) (tupleKind_room_in1 (by omega)) (key_kept hk kp1) (hm1.to hka kp1) (fun h2 hm2 hs2 => ?_) (by omega))
    have kp2 : ∀ b o, h0.get? b = some o → h2.get? b = some o := fun c o e => hs2.extBut c o (neS c o e) (kp1 c o e)
    refine wpAny_pure ⟨plainId_quiet ud_plain _, upd_loopH (items := items) hh hu hlI hSI hSl hS0 hI0 hl0 rest (i + 1) (storedH acc q.1 q.2.1 q.2.2) (ix + 1) 0 _ (show items.size = i + 1 + rest.length by omega) ?_ (fun j q' e => ?_) ?_ ?_ (RawD.of hm2) (storedH_keys hka hk) kp2 fun h' tk hd' k => ?_⟩
    · have z := storedH_len acc q.1 q.2.1 q.2.2
      omega
    · obtain ⟨b', hb', htup', hk'⟩ := ht (j + 1) q' (by simpa using e)
      refine ⟨b', ?_, htup', hk'⟩
      rw [show i + 1 + j = i + (j + 1) by omega]
      exact hb'
    · exact hit1.at fun o' e => hs2.extBut I o' (Ne.symm hSI) e
    · exact hl1.extBut hs2.extBut (Ne.symm hSl)
    · exact hR h' tk hd' k
theorem call_dict_pairsH {s : Shared} {l : Addr} {ol : Obj} {items : Array Value} {n : Nat} {prs : List (List Key × Addr × Value)} {Q : Value → Shared → Prop} (hh : A.handled = none) (hu : A.units + 60 < cLine) (hl : s.heap.get? l = some ol) (hc : ol.cls = .type "list") (hd : ol.dict = none)
    (hdat : ol.data = .seq items n) (hsz : items.size = prs.length) (hln : prs.length ≤ sizeLine)
    (ht : ∀ (j : Nat) (q : List Key × Addr × Value), prs[j]? = some q → ∃ (b : Addr), items[j]? = some (.ref b) ∧ IsTup s.heap b #[.ref q.2.1, q.2.2] ∧ (tupleKind (mixKind prog w)).is s.heap q.1 q.2.1)
    (h : ∀ h' tk, RawD prog w h' s.heap.objs.size (mergedH [] prs) → (∀ b o, s.heap.get? b = some o → h'.get? b = some o) → Q (.ref s.heap.objs.size) { s with heap := h', toks := tk }) :
    wpAny (model prog w) A (call (.type "dict") [.ref l]) Q E s := by
  refine callType_codes (Q₁ := fun obj s₁ => obj = .ref s.heap.objs.size ∧ s₁ = { s with heap := s.heap.push { cls := .type "dict", data := .dict #[] } }) PySem.F.kt_called_dict (PySem.F.kt_typeCall_dict_1 _) PySem.F.entry_dict_init (kt_code_dict_new _ ⟨rfl, rfl⟩) ?_
  rintro obj s₁ ⟨rfl, rfl⟩
  have hnew : (s.heap.push { cls := .type "dict", data := .dict #[] }).DictOfH (tupleKind (mixKind prog w)) s.heap.objs.size [] := Heap.DictOfH.new s.heap
  have hty : Shared.TypeIs { s with heap := s.heap.push { cls := .type "dict", data := .dict #[] } } (.ref s.heap.objs.size) "dict" := ⟨_, Heap.get?_push_size _ rfl, rfl⟩
  have k0 : ∀ b o, s.heap.get? b = some o → (s.heap.push { cls := .type "dict", data := .dict #[] }).get? b = some o := fun b o e => Heap.get?_push_of_some _ e
  refine ⟨hty, PySem.F.args_dict_init_2 _ _, ?_⟩
  unfold Builtin.«dict.__init__»
  refine wpAny_bind ?_
  unfold Builtin.Dict.selfAndRest
  refine wpAny_bind (wpAny_notOrdered_dict hty ?_)
  show wpAny _ _ (pure (s.heap.objs.size, [Value.ref l])) _ _ _
  refine wpAny_pure ?_
  show wpAny _ _ (Builtin.Dict.updateFrom "dict.__init__" s.heap.objs.size (.ref l) [] .none) _ _ _
  unfold Builtin.Dict.updateFrom
  refine wpAny_bind (wpAny_typeOf (T := "list") ⟨ol, k0 _ _ hl, hc⟩ ?_)
  rw [if_pos (by first | decide | rfl | simp)]
  refine wpAny_bind (miss_list (k0 _ _ hl) hc hdat hd hh fun h1 tk1 hk1 => ?_)
  rw [if_pos (show (none : Option Value).isNone = true from rfl)]
  refine wpAny_bind (wpAny_rule ?_)
  have hl1 : h1.IsList l items := ⟨ol, hk1 _ _ (k0 _ _ hl), hc, n, hdat⟩
  have hS1 : s.heap.objs.size < h1.objs.size := by
    have e : (s.heap.push { cls := .type "dict", data := .dict #[] }).get? s.heap.objs.size = some { cls := .type "dict", data := .dict #[] } := Heap.get?_push_size _ rfl
    exact Heap.lt_size (hk1 _ _ e)
  refine wpAny_bind (wpAny_pyIter_list hl1 ?_)
  have k2 : ∀ b o, h1.get? b = some o → (h1.push { cls := .type "list_iterator", data := .fields #[.ref l, .int 0 0] }).get? b = some o := fun b o e => Heap.get?_push_of_some _ e
  have hlt : l < s.heap.objs.size := Heap.lt_size hl
  have none_of : ∀ {a : Addr}, s.heap.objs.size ≤ a → s.heap.get? a = none := fun {a} ha => by
    cases e : s.heap.get? a with
    | none => rfl
    | some o => exact absurd (Heap.lt_size e) (Nat.not_lt.mpr ha)
  have key := upd_loopH (prog := prog) (w := w) (A := A.in1) (h0 := s.heap) (R := wants (fun r s₂ => r = .none ∧ Q (.ref s.heap.objs.size) s₂) E) (S := s.heap.objs.size) (I := h1.objs.size) (l := l) (items := items) (res := Value.none) hh (by show A.units + 1 + 4 < cLine; omega)
    (Nat.ne_of_lt (Nat.lt_trans hlt hS1)) (Nat.ne_of_lt hS1) (Nat.ne_of_gt hlt) (none_of (Nat.le_refl _)) (none_of (Nat.le_of_lt hS1)) ⟨_, hl⟩ prs 0 [] 0 0
    { s with heap := h1.push { cls := .type "list_iterator", data := .fields #[.ref l, .int 0 0] }, toks := tk1 } (by rw [hsz, Nat.zero_add]) (by rw [List.length_nil, Nat.zero_add]; exact hln)
    (fun j q e => by
      obtain ⟨b, e1, e2, e3⟩ := ht j q e
      exact ⟨b, by rw [Nat.zero_add]; exact e1, e2, e3⟩)
    ⟨_, Heap.get?_push_size _ rfl, rfl, rfl⟩ (hl1.at fun o e => k2 _ _ e) (((RawD.of hnew).kept fun o e => hk1 _ _ e).kept fun o e => k2 _ _ e) (fun x hx => by cases hx) (fun b o e => k2 _ _ (hk1 _ _ (k0 _ _ e)))
    (fun h' tk hd' k => ⟨rfl, h h' tk hd' k⟩)
  first
    | exact wpAny_pure ⟨plainId_quiet ud_plain _, key⟩
    | exact wpAny_bind (wpAny_pure (wpAny_pure ⟨plainId_quiet ud_plain _, key⟩))
end
section
variable {X : Cx}
def mergeT (kvs more : List (List Key × V)) : List (List Key × V) := more.foldl (fun acc kv => putK acc kv.1 kv.2) kvs
theorem length_mergeT : ∀ (more kvs : List (List Key × V)), (mergeT kvs more).length ≤ kvs.length + more.length
  | [], kvs => by show kvs.length ≤ kvs.length + 0; omega
  | p :: r, kvs => by
    have h1 := length_mergeT r (putK kvs p.1 p.2)
    have h2 := length_putK kvs p.1 p.2
    show (mergeT (putK kvs p.1 p.2) r).length ≤ _
    rw [List.length_cons]; omega
theorem KT.merge {H : Hp} : ∀ {more : List (List Key × V)} {rs : List (List Key × Addr × Value)} {kvs : List (List Key × V)} {vs : List (List Key × Addr × Value)}, KT H more rs → KT H kvs vs → KT H (mergeT kvs more) (mergedH vs rs) := by
  intro more rs kvs vs r
  induction r generalizing kvs vs with
  | nil => intro q; exact q
  | @cons p q ps qs h t ih =>
    intro r0
    obtain ⟨h1, h2, h3⟩ := h
    have e : mergedH vs (q :: qs) = mergedH (storedH vs p.1 q.2.1 q.2.2) qs := by
      show mergedH (storedH vs q.1 q.2.1 q.2.2) qs = _
      rw [h1]
    show KT H (mergeT (putK kvs p.1 p.2) ps) _
    rw [e]
    exact ih (KT.put r0 p.1 h2 h3)
theorem pairs_ofT {pins : List (Addr × Obj)} {σ : St} {H : Hp} {s : Shared} (I : Inv X pins σ H s) : ∀ {ps : List Addr} {kvs : List (List Key × V)}, Paired (fun p kv => ∃ b, SqT X.K H p [V.ref b, kv.2] ∧ H b = some (.tup (kv.1.map kV))) ps kvs →
    ∃ prs : List (List Key × Addr × Value), KT H kvs prs ∧ prs.length = ps.length ∧ ∀ (j : Nat) (q : List Key × Addr × Value), prs[j]? = some q → ∃ (b : Addr), ps[j]? = some b ∧ IsTup s.heap b #[.ref q.2.1, q.2.2] ∧ (tupleKind (mixKind X.prog X.w)).is s.heap q.1 q.2.1
  | _, _, .nil => ⟨[], .nil, rfl, fun j q e => by simp at e⟩
  | _, _, .cons (a := p) (b := kv) ⟨b, h, hb⟩ t => by
    obtain ⟨prs, r, hl, hp⟩ := pairs_ofT I t
    obtain ⟨its, rv, ht, _⟩ := I.tuple h
    obtain ⟨u, y, ei, ru, ry⟩ := vals2 rv
    subst ei
    cases ru
    refine ⟨(kv.1, b, y) :: prs, .cons ⟨rfl, hb, ry⟩ r, by rw [List.length_cons, List.length_cons, hl], fun j q e => ?_⟩
    cases j with
    | zero =>
      have e' : (kv.1, b, y) = q := Option.some.inj e
      subst e'
      exact ⟨p, rfl, ht, key_of I.hok hb⟩
    | succ j =>
      obtain ⟨b, e1, e2, e3⟩ := hp j q (by simpa using e)
      exact ⟨b, by simpa using e1, e2, e3⟩
def rDictT (K : PySem.W.Frag) : List V → Hp → VK → Prop := fun xs H Q => ∃ (a : Addr) (ps : List Addr) (kvs : List (List Key × V)), xs = [.ref a] ∧ SqL K H a (ps.map V.ref) ∧ Paired (fun p kv => ∃ b, SqT K H p [V.ref b, kv.2] ∧ H b = some (.tup (kv.1.map kV))) ps kvs ∧
    ∀ p, H p = none → Q (.ref p) (upd H p (.dT (mergeT [] kvs)))
/-- dict(xs) of a list of pairs whose keys are tuples -/
theorem call_dictT (hcalm : X.calm = true) (hu : X.A.units + 64 < cLine) : CallR X (.type "dict") (rDictT X.K) := by
  intro pins s σ H xs us Q I r q
  obtain ⟨a, ps, kvs, ex, hq, hp, q⟩ := q
  subst ex
  obtain ⟨u, eu, rx⟩ := vals1 r
  subst eu
  cases rx
  obtain ⟨its, rv, pl, hz⟩ := I.list hq
  have ei := refs_at rv
  subst ei
  rw [List.length_map] at hz
  obtain ⟨prs, rel, hl, hpr⟩ := pairs_ofT I hp
  obtain ⟨o, n, ho, hc, hd, hdat⟩ := pl
  refine call_dict_pairsH (prs := prs) (I.ok.hd hcalm) (by omega) ho hc hd hdat (by simp [hl]) (by rw [hl]; exact hz) (fun j q' e => ?_) fun h' tk hd' k => ?_
  · obtain ⟨b, e1, e2, e3⟩ := hpr j q' e
    exact ⟨b, by simp [e1], e2, e3⟩
  · have hm : (s.heap.objs.size == sysModules) = false := beq_eq_false_iff_ne.mpr (Nat.ne_of_gt I.big)
    have hlen : (mergeT [] kvs).length ≤ sizeLine := by
      refine Nat.le_trans (length_mergeT kvs []) ?_
      rw [List.length_nil, Nat.zero_add, Paired.length rel, hl]
      exact hz
    have hn : H s.heap.objs.size = none := I.hok.fresh (Nat.le_refl _)
    obtain ⟨oo, es, ep, h1, h2, h3, h4, h5⟩ := hd'
    have km : KT (upd H s.heap.objs.size (.dT (mergeT [] kvs))) (mergeT [] kvs) (mergedH [] prs) := (KT.merge rel .nil).keeps fun c ys ec => by
      rw [upd_ne (ne_of_none ec hn)]
      exact ec
    exact ⟨.ref s.heap.objs.size, upd H s.heap.objs.size (.dT (mergeT [] kvs)), I.laid (t' := tk) k (Nat.le_refl _) (show ObjOk X.prog X.w _ _ _ (.dT (mergeT [] kvs)) from ⟨hlen, hm, _, km, oo, es, ep, h1, h2, h3, h4, h5⟩), rfl, q _ hn⟩
end
end DL
end

section
set_option Elab.async false
set_option linter.all false
set_option maxRecDepth 100000
set_option maxHeartbeats 1000000
set_option autoImplicit false
namespace DL
open PySem PySem.Spec PyProof.Rows L2
variable [Tab0]
def pairT : PyData → Option (List Key × PyData)
  | .tuple [k, v] => (tkey k).map fun kl => (kl, v)
  | _ => none
def pairsT : List PyData → Option (List (List Key × PyData))
  | [] => some []
  | p :: r => match pairT p, pairsT r with
    | some x, some xs => some (x :: xs)
    | _, _ => none
def mergeD (ks : List (List Key × DV)) (more : List (List Key × PyData)) : List (List Key × DV) := more.foldl (fun acc kv => putD acc kv.1 (.d kv.2)) ks
theorem pairT_rep {K : PySem.W.Frag} {G : Hp} {v : V} {d : PyData} {x : List Key × PyData} (r : Rep K G v d) (h : pairT d = some x) : ∃ a b u, v = V.ref a ∧ SqT K G a [V.ref b, u] ∧ G b = some (.tup (x.1.map kV)) ∧ Rep K G u x.2 := by
  unfold pairT at h
  split at h
  · rename_i k w
    cases e : tkey k with
    | none => rw [e] at h; cases h
    | some kl =>
      rw [e] at h
      cases h
      cases r with
      | tup hg q =>
        cases q with
        | cons r1 q =>
          cases q with
          | cons r2 q =>
            cases q
            obtain ⟨b, eb, hb⟩ := tup_key (as := []) (show RepV K G [] _ (.d k) from r1) e
            subst eb
            exact ⟨_, b, _, rfl, SqT.of hg, hb, r2⟩
  · cases h
theorem pairs_rep {K : PySem.W.Frag} {G : Hp} : ∀ {xs : List V} {ds : List PyData} {ps : List (List Key × PyData)}, Reps K G xs ds → pairsT ds = some ps →
    ∃ (al : List Addr) (kvs : List (List Key × V)), xs = al.map V.ref ∧ Paired (fun p kv => ∃ b, SqT K G p [V.ref b, kv.2] ∧ G b = some (.tup (kv.1.map kV))) al kvs ∧ kvs.map (·.1) = ps.map (·.1) ∧ Reps K G (kvs.map (·.2)) (ps.map (·.2))
  | _, _, _, .nil, h => by
    cases h
    exact ⟨[], [], rfl, .nil, rfl, .nil⟩
  | _, _, _, .cons (d := d) (ds := ds) r1 r2, h => by
    unfold pairsT at h
    split at h
    · rename_i x ys h1 h2
      cases h
      obtain ⟨a, b, u, rfl, i1, i2, i3⟩ := pairT_rep r1 h1
      obtain ⟨al, kvs, rfl, j1, j2, j3⟩ := pairs_rep r2 h2
      exact ⟨a :: al, (x.1, u) :: kvs, rfl, .cons ⟨b, i1, i2⟩ j1, by rw [List.map_cons, List.map_cons, j2], .cons i3 j3⟩
    · cases h
theorem merge_rep {K : PySem.W.Frag} {G : Hp} {as : List Addr} : ∀ {kvs : List (List Key × V)} {ps : List (List Key × PyData)} {ws : List (List Key × V)} {ks : List (List Key × DV)}, kvs.map (·.1) = ps.map (·.1) → Reps K G (kvs.map (·.2)) (ps.map (·.2)) →
    ws.map (·.1) = ks.map (·.1) → RepVs K G as (ws.map (·.2)) (ks.map (·.2)) → (mergeT ws kvs).map (·.1) = (mergeD ks ps).map (·.1) ∧ RepVs K G as ((mergeT ws kvs).map (·.2)) ((mergeD ks ps).map (·.2))
  | [], [], _, _, _, _, e, r => ⟨e, r⟩
  | p :: kvs, q :: ps, ws, ks, e, r, e1, r1 => by
    have hpq : p.1 = q.1 := (List.cons.inj e).1
    cases r with
    | cons ra rb =>
      obtain ⟨h1, h2⟩ := put_rep (as := as) p.1 (show RepV K G as p.2 (.d q.2) from ra) e1 r1
      rw [hpq] at h1 h2
      have := merge_rep (List.cons.inj e).2 rb h1 h2
      show (mergeT (putK ws p.1 p.2) kvs).map (·.1) = (mergeD (putD ks q.1 (.d q.2)) ps).map (·.1) ∧ RepVs K G as ((mergeT (putK ws p.1 p.2) kvs).map (·.2)) ((mergeD (putD ks q.1 (.d q.2)) ps).map (·.2))
      rw [hpq]
      exact this
  | [], _ :: _, _, _, e, _, _, _ => by cases e
  | _ :: _, [], _, _, e, _, _, _ => by cases e
def dDictT : List DV → S → QD → Prop := fun xs ρ Q => match xs with
  | [x] => ∃ ds ps, lstOf ρ x = some ds ∧ pairsT ds = some ps ∧ Q (.o ρ.ob.length) ⟨ρ.sl, ρ.ob ++ [.dt (mergeD [] ps)]⟩
  | _ => False
section
variable {T : Sta} {pos p : Pos} {e : Expr} {w : WA}
theorem pd_dictT (hg : T.sc.names.lookup ("dict" : Str) = some .globalImplicit) (hm : T.mg "dict" = none) (ha : PDA T [e] w) (he : ∀ env, starEach [e] env = (false, eval e env) :: starEach [] env := by intro _; rfl) : PD T (.Call (.Name "dict" p) [e] [] pos) (wCa dDictT w) :=
  pd_callTy (r := rDictT T.K) (id := "dict") (fun X k _ _ c u _ => by rw [← k]; exact call_dictT c u) (fun x ρ Q h σ F G H as v ok r C k => by
    match x, h, r with
    | [x], ⟨ds, ps, e, ep, q⟩, .cons (v := v) r .nil =>
      obtain ⟨a, xs, rfl, hs, rr⟩ := lstOf_rep ok r e
      obtain ⟨al, kvs, e1, e2, e3, e4⟩ := pairs_rep rr ep
      subst e1
      refine ⟨a, al, kvs, rfl, hs, Paired.mapP e2 fun _ _ ⟨b, z1, z2⟩ => ⟨b, same_sqT ok.mem.gh z1, ok.mem.gh _ _ z2⟩, fun p hp => ?_⟩
      obtain ⟨m1, m2⟩ := merge_rep (as := as ++ [p]) (ws := []) (ks := []) e3 e4 rfl .nil
      exact mineX (x := .dt (mergeD [] ps)) k ok hp ⟨mergeT [] kvs, upd_same, m1, m2⟩ q) hg hm (by decide +kernel) ha (he := he) (hpl := fun _ => rfl)
end
end DL
namespace FL
open PySem PySem.Spec PyProof.Rows L2 DL
variable [Tab0]
section
variable {cl : Str → Addr}
def rDictL : List DV → S → Option (DV × S)
  | [x], ρ => match lstOf ρ x with
    | some ds => match pairsT ds with
      | some ps => some (.o ρ.ob.length, ⟨ρ.sl, ρ.ob ++ [.dt (mergeD [] ps)]⟩)
      | none => none
    | none => none
  | _, _ => none
def oDictT := cOp rDictL
theorem ic_dictT : ImC cl oDictT dDictT := ic_op fun x ρ z Q e q => by
  unfold rDictL at e
  split at e
  · split at e
    · rename_i ds h1
      split at e
      · rename_i ps h2
        cases e
        exact ⟨ds, ps, h1, h2, q⟩
      · cases e
    · cases e
  · cases e
end
end FL
end

section
set_option Elab.async false
set_option linter.all false
set_option maxRecDepth 100000
set_option maxHeartbeats 1000000
set_option autoImplicit false
namespace DL
open PySem PySem.Spec PyProof.Rows L2
variable [Tab0]
section
variable {T : Sta} {pos : Pos} {tg iter tg1 iter1 elt : Expr} {ifs : List Expr} {we : WE} {wt : WT}
theorem pds_setLcO {y : Str} {py spos : Pos} {scope : Scope} {own : List (Str × Nat)} {wi : WI} {wg : WG} {js : List Nat} (i : Nat) (hi : PDI T tg iter wi) (ok : BlkOk T.N T.sc scope own) (hg : PDG (blkT T scope) tg wg js) (ht : PDTs (blkT T scope) ifs wt) (he : PD (blkT T scope) elt we)
    (hsw : ∀ env : Env, env.scope = T.sc → swapsWith (.ListComp elt [⟨tg, iter, ifs, 0⟩] scope pos) (some (.Name y py)) spos.line env = pure true)
    (hN : T.N[i]? = some y := by rfl) (hy : T.sc.names.lookup y = some .local := by rfl) (hj : ∀ j ∈ js, j ∈ own.map (·.2) := by decide) (hs : ∀ env x, foldedSetIterable iter env x = pure x := by intro _ _; rfl) : PDS T (.Assign [.Name y py] (.ListComp elt [⟨tg, iter, ifs, 0⟩] scope pos) spos) (wAsg (wLcF wi wg wt we (own.map (·.2))) (wgName i)) := by
  obtain ⟨ti, hti, di⟩ := hi
  obtain ⟨g, hg, dg⟩ := hg
  obtain ⟨tt, ht, dt⟩ := ht
  obtain ⟨te, he, de⟩ := he
  refine ⟨fun W => tAsg (tLc (ti W) g tt (te W0) (own.map (·.2))) (gName i), fun W X gd tk => ps_setLc gd.calm (by rw [gd.N]; exact gd.nd) (by rw [gd.N]; exact hN) (by rw [gd.sc]; exact hy) (hsw _ gd.sc) (hti W X gd tk) (by rw [gd.N, gd.sc]; exact ok) (fun s H C cl fp => hg _ (gd.blk s H scope cl C fp))
    (fun s H C cl fp => ht _ (gd.blk s H scope cl C fp) takes0) (fun s H C cl fp => he W0 _ (gd.blk s H scope cl C fp) takes0) (hs _), fun ρ E h W σ F G H as ok acc D l => ?_⟩
  have d := de_lcF (K := T.K) (te := te W0) di dg dt (fun ρ Q h W σ F G H as ok acc C k => de ρ Q X0 h W0 σ F G H as ok acc0 C k) hj h
  exact d W σ F G H as ok (acc.at σ) _ fun dv ρ' v G' H' as' q o n r => l.nx _ _ G' H' as' q (o.set i r) n
end
end DL
namespace DL
open PySem PySem.Spec PyProof.Rows L2
variable [Tab0]
/-! ### a known list times an int -/
theorem rmul_known (a : Int) (t : Tok) (l : Addr) (items : Array Value) (n : Nat) (sl : Array (Option Value)) :
    Meets (Builtin.«int.__rmul__» ⟨[.int a t, .ref l], []⟩) (fun _ R s => s.heap.get? l = some ⟨.type "list", none, .seq items n, sl⟩ ∧ R (.ok (.ret Value.notImplemented)) s) := by
  refine .of_wp fun prog w A R s h => ?_
  obtain ⟨hp, g, d, tk, os⟩ := s
  obtain ⟨hl, h⟩ := h
  wp_walk
  exact ⟨_, rfl, h⟩
theorem mul_known (l : Addr) (items : Array Value) (n : Nat) (sl : Array (Option Value)) (x : Int) (u : Tok) (hc0 : ¬(!Builtin.List.listFitsIndex x) = true) (hc1 : ¬items.size * x.toNat > (2 ^ 63 - 1) / 8) (hc2 : ¬Builtin.List.listTooLong (items.size * x.toNat) = true) :
    Meets (Builtin.«list.__mul__» ⟨[.ref l, .int x u], []⟩) (fun _ R s => s.heap.get? l = some ⟨.type "list", none, .seq items n, sl⟩ ∧ R (.ok (.ret (Value.ref s.heap.objs.size))) { s with heap := s.heap.push { cls := Value.type "list", data := Data.seq (List.foldl (fun x1 x2 => x1 ++ x2) #[] (List.replicate (if items.isEmpty = true then 0 else x.toNat) items)) }, toks := s.toks }) := by
  refine .of_wp fun prog w A R s h => ?_
  obtain ⟨hp, g, d, tk, os⟩ := s
  obtain ⟨hl, h⟩ := h
  have hsz := PySem.AutoListH.joined_fits hc2
  wp_walk
  refine wpAny_ite_false (decide_eq_false (Nat.not_lt.mpr hsz)) ?_
  wp_walk
  exact ⟨_, rfl, h⟩
def rRepS (K : PySem.W.Frag) : R2 := fun x y H Q => ∃ l k xs, x = .ref l ∧ y = .int k ∧ SqL K H l xs ∧ 0 ≤ k ∧ k < 2 ^ 63 ∧ xs.length * k.toNat ≤ sizeLine ∧
  ∀ p, H p = none → Q (.ref p) (upd H p (.lst (List.replicate k.toNat xs).flatten))
theorem op_repS {X : Cx} : OpR X (binaryOp .Mult) (rRepS X.K) := by
  intro pins s σ H x y v u Q I rx ry h
  obtain ⟨l, k, xs, rfl, rfl, hH, h1, h2, hz, q⟩ := h
  cases rx
  obtain ⟨t, rfl⟩ := ry
  obtain ⟨its, r, ⟨⟨oc, od, oda, osl⟩, n, e, c1, c2, c3⟩, hs⟩ := I.list hH
  dsimp only at c1 c2 c3
  subst c1 c2 c3
  have hl := r.length
  have hlen : its.toArray.size * k.toNat ≤ sizeLine := by rw [List.size_toArray, ← hl]; exact hz
  have hcap : ¬ its.toArray.size * k.toNat > (2 ^ 63 - 1) / 8 := fun z => absurd (Nat.le_trans (Nat.le_of_lt z) hlen) (by decide)
  have hfit : ¬ (!Builtin.List.listFitsIndex k) = true := by
    rw [fitsIndex_both (by omega) h2]
    decide
  have hlong : ¬ Builtin.List.listTooLong (its.toArray.size * k.toNat) = true := by
    rw [notLongL hlen]
    decide
  have hnew : List.foldl (fun x1 x2 => x1 ++ x2) #[] (List.replicate (if its.toArray.isEmpty = true then 0 else k.toNat) its.toArray) = (List.replicate k.toNat its).flatten.toArray := by
    have f0 : ∀ m : Nat, List.foldl (fun x1 x2 => x1 ++ x2) #[] (List.replicate m its.toArray) = (List.replicate m its).flatten.toArray := fun m => by
      simpa using foldl_rep its m []
    rw [f0]
    cases its with
    | nil => simp
    | cons a r' => rw [if_neg (by simp)]
  refine wpAny_binaryOp_repeat_ref (T := "list") (U := "int") (by decide) ⟨_, e, rfl⟩ (fun s' => typeIs_int s' k t) noFill_list_mul F.fills_int_mul F.slot_int_rmul repeat_list F.slot_int_index.lookup
    (call_meets F.slot_int_rmul (typeIs_int s k t) F.entry_int_rmul (F.args_int_rmul_2 _ _) (rmul_known k t l its.toArray n osl)
      ⟨e, rfl, ⟨_, e, rfl⟩, call_meets F.slot_list_mul ⟨_, e, rfl⟩ F.entry_list_mul (F.args_list_mul_2 _ _) (mul_known l its.toArray n osl k t hfit hcap hlong) ⟨e, ?_⟩⟩)
  rw [hnew]
  exact ⟨.ref _, _, I.lnew (t' := s.toks) (r.rep k.toNat) (by rw [PyProof.Rows.lm_len_rep_flat, Nat.mul_comm]; exact hz), rfl, q _ I.fresh⟩
end DL
namespace DL
open PySem PySem.Spec PyProof.Rows L2
variable [Tab0]
def dRepS : DV → DV → S → QD → Prop := fun x y ρ Q => match x, y with
  | .d (.list ds), .d (.int k) => 0 ≤ k ∧ k < 2 ^ 63 ∧ ds.length * k.toNat ≤ sizeLine ∧ Q (.o ρ.ob.length) ⟨ρ.sl, ρ.ob ++ [.lst ((repD k.toNat ds).map .d)]⟩
  | _, _ => False
theorem bd_repS {T : Sta} : BinD T .Mult dRepS := ⟨rRepS T.K, fun X k _ _ => by rw [← k]; exact op_repS, (fun x y ρ Q h σ F G H as v u ok rx ry C k => by
    match x, y, h, rx, ry with
    | .d (.list ds), .d (.int n), ⟨h2, h3, h4, q⟩, rx, ry =>
      cases repI ry
      obtain ⟨a, xs, rfl, hs, r⟩ := repL rx
      exact ⟨a, n, xs, rfl, rfl, ok.mem.gh.seq hs, h2, h3, by rw [r.length]; exact h4, fun p hp => mineL k ok hp (RepVs.of (reps_rep r _)) q⟩)⟩
theorem bd_mulB {T : Sta} : BinD T .Mult (orR dRepS dMulA) := bd_or bd_repS bd_mulA
end DL
namespace FL
open PySem PySem.Spec PyProof.Rows L2 DL
variable [Tab0]
def rRepSl (x y : DV) (ρ : S) : Option (DV × S) := match x, y with
  | .d (.list ds), .d (.int k) => if 0 ≤ k ∧ k < 2 ^ 63 ∧ ds.length * k.toNat ≤ sizeLine then some (.o ρ.ob.length, ⟨ρ.sl, ρ.ob ++ [.lst ((repD k.toNat ds).map .d)]⟩) else none
  | _, _ => none
def oRepS := oOp rRepSl
theorem ir_repS {cl : Str → Addr} : ImR cl oRepS dRepS := ir_op fun x y ρ z Q e q => by
  unfold rRepSl at e
  unfold dRepS
  split at e
  · try dsimp only
    split at e
    · rename_i hl
      cases e
      exact ⟨hl.1, hl.2.1, hl.2.2, q⟩
    · cases e
  · cases e
def oMulB := oAlt oRepS oMulA
theorem ir_mulB {cl : Str → Addr} : ImR cl oMulB (orR dRepS dMulA) := ir_alt ir_repS ir_mulA
end FL
end

section

end

section
set_option Elab.async false
set_option linter.all false
set_option maxRecDepth 100000
set_option maxHeartbeats 1000000
set_option autoImplicit false
namespace MP
open PySem PySem.Spec PyProof.Rows L2 DL FL
def b_is_whole : M FL.Flow := (sRet (mAnd (mUn (oIsi "int") (mVar 0)) (mUn oNot (mUn (oIsi "bool") (mVar 0)))))
def m_is_whole (a0 : PyData) : RV PyData := runP 1 (b_is_whole) [a0]
def b_is_from : M FL.Flow := (sRet (mAnd (mCall (cur1 MP.m_is_whole) (mCons (mVar 0) mNil)) (mOp oGe (mVar 0) (mVar 1))))
def m_is_from (a0 : PyData) (a1 : PyData) : RV PyData := runP 2 (b_is_from) [a0, a1]
def b_is_below : M FL.Flow := (sRet (mAnd (mCall (cur1 MP.m_is_whole) (mCons (mVar 0) mNil)) (mChain oLe oLtA (mC (.int 0)) (mVar 0) (mVar 1))))
def m_is_below (a0 : PyData) (a1 : PyData) : RV PyData := runP 2 (b_is_below) [a0, a1]
def b_is_pair : M FL.Flow := (sRet (mAnd (mUn (oIsi "tuple") (mVar 0)) (mOp oEqA (mCa oLen (mCons (mVar 0) mNil)) (mC (.int 2)))))
def m_is_pair (a0 : PyData) : RV PyData := runP 1 (b_is_pair) [a0]
def b_is_ascending : M FL.Flow := (sRet (mCa oAll (mCons (mFT (mLcF (iZip (mCons (mVar 0) (mCons (mFT (mSl (mVar 0) (mPart (mC (.int 1))) mNoP)) mNil))) (gSeq 2 (gCons (gName 1) (gCons (gName 2) gNil))) mYes (mOp oLtA (mVar 1) (mVar 2)) [1, 2])) mNil)))
def m_is_ascending (a0 : PyData) : RV PyData := runP 3 (b_is_ascending) [a0]
def b_are_rings : M FL.Flow := (sSeq (sIf (mOrT (mNotT (mB (mUn (oIsi "tuple") (mVar 0)))) (mNotT (mB (mChain oLe oLe (mC (.int 1)) (mCa oLen (mCons (mVar 0) mNil)) (mC (.int 40)))))) (sRet (mC (.bool false))) sNext)
  (sRet (mCa oAll (mCons (mFT (mLcF (iA (mVar 0)) (gName 1) mYes (mCall (cur2 MP.m_is_from) (mCons (mVar 1) (mCons (mC (.int 1)) mNil))) [1])) mNil))))
def m_are_rings (a0 : PyData) : RV PyData := runP 2 (b_are_rings) [a0]
def b_is_place_on : M FL.Flow := (sRet (mAnd (mCall (cur1 MP.m_is_pair) (mCons (mVar 1) mNil)) (mAnd (mCall (cur2 MP.m_is_below) (mCons (mOp oIx (mVar 1) (mC (.int 0))) (mCons (mCa oLen (mCons (mVar 0) mNil)) mNil))) (mCall (cur2 MP.m_is_below) (mCons (mOp oIx (mVar 1) (mC (.int 1))) (mCons (mOp oIx (mVar 0) (mOp oIx (mVar 1) (mC (.int 0)))) mNil))))))
def m_is_place_on (a0 : PyData) (a1 : PyData) : RV PyData := runP 2 (b_is_place_on) [a0, a1]
def b_p_is_touch : M FL.Flow := (sSeq (sIf (mOrT (mNotT (mB (mCall (cur1 MP.m_is_pair) (mCons (mVar 1) mNil)))) (mOrT (mNotT (mB (mCall (cur2 MP.m_is_place_on) (mCons (mVar 0) (mCons (mOp oIx (mVar 1) (mC (.int 0))) mNil))))) (mNotT (mB (mCall (cur2 MP.m_is_place_on) (mCons (mVar 0) (mCons (mOp oIx (mVar 1) (mC (.int 1))) mNil))))))) (sRet (mC (.bool false))) sNext)
  (sRet (mOp oLtA (mOp oIx (mVar 1) (mC (.int 0))) (mOp oIx (mVar 1) (mC (.int 1))))))
def m_p_is_touch (a0 : PyData) (a1 : PyData) : RV PyData := runP 2 (b_p_is_touch) [a0, a1]
def b_is_floor : M FL.Flow := (sSeq (sIf (mOrT (mNotT (mB (mCall (cur1 MP.m_is_pair) (mCons (mVar 0) mNil)))) (mOrT (mNotT (mB (mCall (cur1 MP.m_are_rings) (mCons (mOp oIx (mVar 0) (mC (.int 0))) mNil)))) (mNotT (mB (mUn (oIsi "tuple") (mOp oIx (mVar 0) (mC (.int 1)))))))) (sRet (mC (.bool false))) sNext)
  (sSeq (sAsg (mVar 0) (gSeq 2 (gCons (gName 1) (gCons (gName 2) gNil))))
  (sSeq (sIf (mNotT (mB (mCa oAll (mCons (mFT (mLcF (iA (mVar 2)) (gName 4) mYes (mCall (cur2 MP.m_p_is_touch) (mCons (mVar 1) (mCons (mVar 4) mNil))) [4])) mNil)))) (sRet (mC (.bool false))) sNext)
  (sSeq (sAsgFT (mLc2F (iA (mVar 2)) (gName 4) (iA (mVar 4)) (gName 5) (mVar 5) [4, 5] [5]) 3)
  (sRet (mAnd (mCall (cur1 MP.m_is_ascending) (mCons (mVar 2) mNil)) (mOp oEqA (mUn oLenSet (mVar 3)) (mCa oLen (mCons (mVar 3) mNil)))))))))
def m_is_floor (a0 : PyData) : RV PyData := runP 6 (b_is_floor) [a0]
def b_need_floor : M FL.Flow := (sIf (mNotT (mB (mCall (cur1 MP.m_is_floor) (mCons (mVar 0) mNil)))) (sRaise "BadFloor" "thing" (mCons (mVar 0) mNil)) sNext)
def m_need_floor (a0 : PyData) : RV PyData := runP 1 (b_need_floor) [a0]
def b_is_place : M FL.Flow := (sSeq (sExp (mCall (cur1 MP.m_need_floor) (mCons (mVar 0) mNil)))
  (sRet (mCall (cur2 MP.m_is_place_on) (mCons (mOp oIx (mVar 0) (mC (.int 0))) (mCons (mVar 1) mNil)))))
def m_is_place (a0 : PyData) (a1 : PyData) : RV PyData := runP 2 (b_is_place) [a0, a1]
def b_need_place : M FL.Flow := (sIf (mNotT (mB (mCall (cur2 MP.m_is_place) (mCons (mVar 0) (mCons (mVar 1) mNil))))) (sRaise "BadPlace" "thing" (mCons (mVar 1) mNil)) sNext)
def m_need_place (a0 : PyData) (a1 : PyData) : RV PyData := runP 2 (b_need_place) [a0, a1]
def b_partners : M FL.Flow := (sSeq (sAsg mNewT (gName 1))
  (sSeq (sFor (iA (mOp oIx (mVar 0) (mC (.int 1)))) (gSeq 2 (gCons (gName 2) (gCons (gName 3) gNil))) (sSeq (mPutK (mVar 1) (mVar 2) (mVar 3))
  (mPutK (mVar 1) (mVar 3) (mVar 2))))
  (sRet (mFrz (mVar 1)))))
def m_partners (a0 : PyData) : RV PyData := runP 4 (b_partners) [a0]
def b_places : M FL.Flow := (sSeq (sExp (mCall (cur1 MP.m_need_floor) (mCons (mVar 0) mNil)))
  (sRet (mCa oTuple (mCons (mFT (mLc2F (iEnu (mCons (mOp oIx (mVar 0) (mC (.int 0))) mNil)) (gSeq 2 (gCons (gName 1) (gCons (gName 2) gNil))) (iR1 (mCons (mVar 2) mNil)) (gName 3) (mTup (mCons (mVar 1) (mCons (mVar 3) mNil))) [1, 2, 3] [3])) mNil))))
def m_places (a0 : PyData) : RV PyData := runP 4 (b_places) [a0]
def b_seat : M FL.Flow := (sSeq (sExp (mCall (cur2 MP.m_need_place) (mCons (mVar 0) (mCons (mVar 1) mNil))))
  (sSeq (sAsg (mVar 1) (gSeq 2 (gCons (gName 2) (gCons (gName 3) gNil))))
  (sRet (mOp oAddA (mCa oSumA (mCons (mFT (mSl (mOp oIx (mVar 0) (mC (.int 0))) mNoP (mPart (mVar 2)))) mNil)) (mVar 3)))))
def m_seat (a0 : PyData) (a1 : PyData) : RV PyData := runP 4 (b_seat) [a0, a1]
def b_behind : M FL.Flow := (sSeq (sExp (mCall (cur2 MP.m_need_place) (mCons (mVar 0) (mCons (mVar 1) mNil))))
  (sSeq (sIf (mNotT (mB (mCall (cur1 MP.m_is_whole) (mCons (mVar 2) mNil)))) (sRaise "BadNumber" "thing" (mCons (mVar 2) mNil)) sNext)
  (sSeq (sAsg (mVar 1) (gSeq 2 (gCons (gName 3) (gCons (gName 4) gNil))))
  (sRet (mTup (mCons (mVar 3) (mCons (mOp oMod (mOp oAddA (mVar 4) (mVar 2)) (mOp oIx (mOp oIx (mVar 0) (mC (.int 0))) (mVar 3))) mNil)))))))
def m_behind (a0 : PyData) (a1 : PyData) (a2 : PyData) : RV PyData := runP 5 (b_behind) [a0, a1, a2]
def b_partner : M FL.Flow := (sSeq (sExp (mCall (cur2 MP.m_need_place) (mCons (mVar 0) (mCons (mVar 1) mNil))))
  (sRet (mGet1 (mCall (cur1 MP.m_partners) (mCons (mVar 0) mNil)) (mVar 1))))
def m_partner (a0 : PyData) (a1 : PyData) : RV PyData := runP 2 (b_partner) [a0, a1]
def b_is_tagged : M FL.Flow := (sRet (mAnd (mUn (oIsi "tuple") (mVar 0)) (mAnd (mOp oEqA (mCa oLen (mCons (mVar 0) mNil)) (mVar 2)) (mOp oEqA (mOp oIx (mVar 0) (mC (.int 0))) (mVar 1)))))
def m_is_tagged (a0 : PyData) (a1 : PyData) (a2 : PyData) : RV PyData := runP 3 (b_is_tagged) [a0, a1, a2]
def b_is_order : M FL.Flow := (sSeq (sIf (mOrT (mNotT (mB (mUn (oIsi "tuple") (mVar 0)))) (mOrT (mB (mOp oNeA (mCa oLen (mCons (mVar 0) mNil)) (mVar 1))) (mNotT (mB (mCa oAll (mCons (mFT (mLcF (iA (mVar 0)) (gName 2) mYes (mCall (cur2 MP.m_is_below) (mCons (mVar 2) (mCons (mVar 1) mNil))) [2])) mNil)))))) (sRet (mC (.bool false))) sNext)
  (sRet (mOp oEqA (mFT (mCa oSorted (mCons (mVar 0) mNil))) (mFT (mUn oLrg (mVar 1))))))
def m_is_order (a0 : PyData) (a1 : PyData) : RV PyData := runP 3 (b_is_order) [a0, a1]
def b_are_below : M FL.Flow := (sRet (mAnd (mUn (oIsi "tuple") (mVar 0)) (mAnd (mCa oAll (mCons (mFT (mLcF (iA (mVar 0)) (gName 2) mYes (mCall (cur2 MP.m_is_below) (mCons (mVar 2) (mCons (mVar 1) mNil))) [2])) mNil)) (mCall (cur1 MP.m_is_ascending) (mCons (mVar 0) mNil)))))
def m_are_below (a0 : PyData) (a1 : PyData) : RV PyData := runP 3 (b_are_below) [a0, a1]
def b_seats : M FL.Flow := (sRet (mFT (mDcP (.dt []) (iEnu (mCons (mCall (cur1 MP.m_places) (mCons (mVar 0) mNil)) mNil)) (gSeq 2 (gCons (gName 1) (gCons (gName 2) gNil))) mYes (mVar 2) (mVar 1) [1, 2])))
def m_seats (a0 : PyData) : RV PyData := runP 3 (b_seats) [a0]
def b_step_map : M FL.Flow := (sSeq (sAsg (mFT (mLst mNil)) (gName 1))
  (sSeq (sFor (iA (mOp oIx (mVar 0) (mC (.int 0)))) (gName 2) (sSeq (sAsg (mCa oLen (mCons (mVar 1) mNil)) (gName 3))
  (sAsg (mFT (mOp oAddA (mFT (mOp oAddA (mVar 1) (mFT (mOp oLrg2 (mOp oAddA (mVar 3) (mC (.int 1))) (mOp oAddA (mVar 3) (mVar 2)))))) (mFT (mLst (mCons (mVar 3) mNil))))) (gName 1))))
  (sRet (mVar 1))))
def m_step_map (a0 : PyData) : RV PyData := runP 4 (b_step_map) [a0]
def b_touch_seats : M FL.Flow := (sSeq (sAsg (mCall (cur1 MP.m_seats) (mCons (mVar 0) mNil)) (gName 1))
  (sRet (mFT (mLcF (iA (mOp oIx (mVar 0) (mC (.int 1)))) (gSeq 2 (gCons (gName 2) (gCons (gName 3) gNil))) mYes (mTup (mCons (mOp oDG (mVar 1) (mVar 2)) (mCons (mOp oDG (mVar 1) (mVar 3)) mNil))) [2, 3]))))
def m_touch_seats (a0 : PyData) : RV PyData := runP 4 (b_touch_seats) [a0]
def b_p_skip_map : M FL.Flow := (sSeq (sAsg (mCall (cur1 MP.m_seats) (mCons (mVar 0) mNil)) (gName 3))
  (sRet mbad))
def m_p_skip_map (a0 : PyData) (a1 : PyData) (a2 : PyData) : RV PyData := runP 7 (b_p_skip_map) [a0, a1, a2]
def b_moves : M FL.Flow := (sRet (mTup (mCons (mCall (cur1 MP.m_step_map) (mCons (mVar 0) mNil)) (mCons (mCall (cur1 MP.m_touch_seats) (mCons (mVar 0) mNil)) (mCons (mFT (mLcF (iA (mVar 1)) (gSeq 2 (gCons (gName 2) (gCons (gName 3) gNil))) mYes (mCall (cur3 MP.m_p_skip_map) (mCons (mVar 0) (mCons (mVar 2) (mCons (mVar 3) mNil)))) [2, 3])) mNil)))))
def m_moves (a0 : PyData) (a1 : PyData) : RV PyData := runP 4 (b_moves) [a0, a1]
def b_composed : M FL.Flow := (sRet (mFT (mLcF (iA (mVar 0)) (gName 2) mYes (mOp oIx (mVar 1) (mVar 2)) [2])))
def m_composed (a0 : PyData) (a1 : PyData) : RV PyData := runP 3 (b_composed) [a0, a1]
def b_beat_map : M FL.Flow := (sSeq (sAsg (mVar 0) (gSeq 3 (gCons (gName 2) (gCons (gName 3) (gCons (gName 4) gNil)))))
  (sSeq (sAsg (mUn oLrg (mCa oLen (mCons (mVar 2) mNil))) (gName 5))
  (sSeq (sFor (iA (mVar 1)) (gName 6) (sSeq (sAsg (mOp oIx (mVar 3) (mVar 6)) (gSeq 2 (gCons (gName 7) (gCons (gName 8) gNil))))
  (sSeq (sAsg (mVar 8) (gIx (noX (mVar 5)) (noX (mVar 7))))
  (sAsg (mVar 7) (gIx (noX (mVar 5)) (noX (mVar 8)))))))
  (sRet (mCall (cur2 MP.m_composed) (mCons (mVar 2) (mCons (mFrz (mVar 5)) mNil)))))))
def m_beat_map (a0 : PyData) (a1 : PyData) : RV PyData := runP 9 (b_beat_map) [a0, a1]
def b_cycle_from : M FL.Flow := (sSeq (sAsg (mLst (mCons (mVar 1) mNil)) (gName 2))
  (sSeq (whGo (mB (mOp oNeA (mOp oIx (mVar 0) (mOp oIx (mVar 2) (mUn oNeg (mC (.int 1))))) (mVar 1))) (sExp (mBM "list" rApp (mVar 2) (mCons (mOp oIx (mVar 0) (mOp oIx (mVar 2) (mUn oNeg (mC (.int 1))))) mNil))) 100000)
  (sRet (mFrz (mVar 2)))))
def m_cycle_from (a0 : PyData) (a1 : PyData) : RV PyData := runP 3 (b_cycle_from) [a0, a1]
def b_cycles : M FL.Flow := (sSeq (sAsg (mCa oSet0 mNil) (gName 1))
  (sSeq (sAsg (mLst mNil) (gName 2))
  (sSeq (sFor (iR1 (mCons (mCa oLen (mCons (mVar 0) mNil)) mNil)) (gName 3) (sIf (mB (mOp oSNotIn (mVar 3) (mVar 1))) (sSeq (sAsg (mCall (cur2 MP.m_cycle_from) (mCons (mVar 0) (mCons (mVar 3) mNil))) (gName 4))
  (sSeq (sExp (mBM "list" rApp (mVar 2) (mCons (mVar 4) mNil)))
  (sFor (iA (mVar 4)) (gName 5) (sExp (mBM "set" rSAddL (mVar 1) (mCons (mVar 5) mNil)))))) sNext))
  (sRet (mFrz (mVar 2))))))
def m_cycles (a0 : PyData) : RV PyData := runP 6 (b_cycles) [a0]
def b_repeated : M FL.Flow := (sSeq (sAsg (mOp oMulA (mFT (mLst (mCons (mC (.int 0)) mNil))) (mCa oLen (mCons (mVar 0) mNil))) (gName 2))
  (sSeq (sFor (iA (mCall (cur1 MP.m_cycles) (mCons (mVar 0) mNil))) (gName 3) (sFor (iEnu (mCons (mVar 3) mNil)) (gSeq 2 (gCons (gName 4) (gCons (gName 5) gNil))) (sAsg (mOp oIx (mVar 3) (mOp oMod (mOp oAddA (mVar 4) (mVar 1)) (mCa oLen (mCons (mVar 3) mNil)))) (gIx (noX (mVar 2)) (noX (mVar 5))))))
  (sRet (mFrz (mVar 2)))))
def m_repeated (a0 : PyData) (a1 : PyData) : RV PyData := runP 6 (b_repeated) [a0, a1]
def b_map_of (r_map_of : PyData → PyData → RV PyData) (r_map_of_step : PyData → PyData → RV PyData) : M FL.Flow := (sSeq (sAsg (mFT (mUn oLrg (mCa oLen (mCons (mOp oIx (mVar 0) (mC (.int 0))) mNil)))) (gName 2))
  (sSeq (sFor (iA (mVar 1)) (gName 3) (sAsg (mCall (cur2 MP.m_composed) (mCons (mVar 2) (mCons (mCall (cur2 r_map_of_step) (mCons (mVar 0) (mCons (mVar 3) mNil))) mNil))) (gName 2)))
  (sRet (mVar 2))))
def b_map_of_step (r_map_of : PyData → PyData → RV PyData) (r_map_of_step : PyData → PyData → RV PyData) : M FL.Flow := (sSeq (sIf (mB (mOp oEqA (mOp oIx (mVar 1) (mC (.int 0))) (mC (.str "beat")))) (sRet (mCall (cur2 MP.m_beat_map) (mCons (mVar 0) (mCons (mOp oIx (mVar 1) (mC (.int 1))) mNil)))) sNext)
  (sSeq (sIf (mB (mOp oEqA (mOp oIx (mVar 1) (mC (.int 0))) (mC (.str "skip")))) (sRet (mOp oIx (mOp oIx (mVar 0) (mC (.int 2))) (mOp oIx (mVar 1) (mC (.int 1))))) sNext)
  (sRet (mCall (cur2 MP.m_repeated) (mCons (mCall (cur2 r_map_of) (mCons (mVar 0) (mCons (mOp oIx (mVar 1) (mC (.int 2))) mNil))) (mCons (mOp oIx (mVar 1) (mC (.int 1))) mNil))))))
mutual
def m_map_of : Nat → PyData → PyData → RV PyData
  | 0, _, _ => .bad
  | fu + 1, a0, a1 => runP 4 (b_map_of (m_map_of fu) (m_map_of_step fu)) [a0, a1]
def m_map_of_step : Nat → PyData → PyData → RV PyData
  | 0, _, _ => .bad
  | fu + 1, a0, a1 => runP 2 (b_map_of_step (m_map_of fu) (m_map_of_step fu)) [a0, a1]
end
def b_led_by : M FL.Flow := (sSeq (sAsg (mOp oMulA (mFT (mLst (mCons (mC (.int 0)) mNil))) (mCa oLen (mCons (mVar 1) mNil))) (gName 2))
  (sSeq (sFor (iZip (mCons (mVar 0) (mCons (mVar 1) mNil))) (gSeq 2 (gCons (gName 3) (gCons (gName 4) gNil))) (sAsg (mVar 3) (gIx (noX (mVar 2)) (noX (mVar 4)))))
  (sRet (mCa oTuple (mCons (mVar 2) mNil)))))
def m_led_by (a0 : PyData) (a1 : PyData) : RV PyData := runP 5 (b_led_by) [a0, a1]
def b_is_arrangement : M FL.Flow := (sSeq (sExp (mCall (cur1 MP.m_need_floor) (mCons (mVar 0) mNil)))
  (sRet (mCall (cur2 MP.m_is_order) (mCons (mVar 1) (mCons (mCa oSumA (mCons (mOp oIx (mVar 0) (mC (.int 0))) mNil)) mNil)))))
def m_is_arrangement (a0 : PyData) (a1 : PyData) : RV PyData := runP 2 (b_is_arrangement) [a0, a1]
def b_need_arrangement : M FL.Flow := (sIf (mNotT (mB (mCall (cur2 MP.m_is_arrangement) (mCons (mVar 0) (mCons (mVar 1) mNil))))) (sRaise "BadArrangement" "thing" (mCons (mVar 1) mNil)) sNext)
def m_need_arrangement (a0 : PyData) (a1 : PyData) : RV PyData := runP 2 (b_need_arrangement) [a0, a1]
def b_are_steps (r_are_steps : PyData → PyData → PyData → RV PyData) (r_p_is_step : PyData → PyData → PyData → RV PyData) : M FL.Flow := (sRet (mAnd (mUn (oIsi "tuple") (mVar 2)) (mCa oAll (mCons (mFT (mLcF (iA (mVar 2)) (gName 3) mYes (mCall (cur3 r_p_is_step) (mCons (mVar 0) (mCons (mVar 1) (mCons (mVar 3) mNil)))) [3])) mNil))))
def b_p_is_step (r_are_steps : PyData → PyData → PyData → RV PyData) (r_p_is_step : PyData → PyData → PyData → RV PyData) : M FL.Flow := (sSeq (sIf (mB (mCall (cur3 MP.m_is_tagged) (mCons (mVar 2) (mCons (mC (.str "beat")) (mCons (mC (.int 2)) mNil))))) (sRet (mCall (cur2 MP.m_are_below) (mCons (mOp oIx (mVar 2) (mC (.int 1))) (mCons (mVar 0) mNil)))) sNext)
  (sSeq (sIf (mB (mCall (cur3 MP.m_is_tagged) (mCons (mVar 2) (mCons (mC (.str "skip")) (mCons (mC (.int 2)) mNil))))) (sRet (mCall (cur2 MP.m_is_below) (mCons (mOp oIx (mVar 2) (mC (.int 1))) (mCons (mVar 1) mNil)))) sNext)
  (sRet (mAnd (mCall (cur3 MP.m_is_tagged) (mCons (mVar 2) (mCons (mC (.str "times")) (mCons (mC (.int 3)) mNil)))) (mAnd (mCall (cur2 MP.m_is_from) (mCons (mOp oIx (mVar 2) (mC (.int 1))) (mCons (mC (.int 0)) mNil))) (mCall (cur3 r_are_steps) (mCons (mVar 0) (mCons (mVar 1) (mCons (mOp oIx (mVar 2) (mC (.int 2))) mNil)))))))))
mutual
def m_are_steps : Nat → PyData → PyData → PyData → RV PyData
  | 0, _, _, _ => .bad
  | fu + 1, a0, a1, a2 => runP 4 (b_are_steps (m_are_steps fu) (m_p_is_step fu)) [a0, a1, a2]
def m_p_is_step : Nat → PyData → PyData → PyData → RV PyData
  | 0, _, _, _ => .bad
  | fu + 1, a0, a1, a2 => runP 3 (b_p_is_step (m_are_steps fu) (m_p_is_step fu)) [a0, a1, a2]
end
def b_is_plan : M FL.Flow := (sSeq (sExp (mCall (cur1 MP.m_need_floor) (mCons (mVar 0) mNil)))
  (sRet (mCall (cur3 (MP.m_are_steps 40)) (mCons (mCa oLen (mCons (mOp oIx (mVar 0) (mC (.int 1))) mNil)) (mCons (mC (.int 0)) (mCons (mVar 1) mNil))))))
def m_is_plan (a0 : PyData) (a1 : PyData) : RV PyData := runP 2 (b_is_plan) [a0, a1]
def b_need_plan : M FL.Flow := (sIf (mNotT (mB (mCall (cur2 MP.m_is_plan) (mCons (mVar 0) (mCons (mVar 1) mNil))))) (sRaise "BadPlan" "thing" (mCons (mVar 1) mNil)) sNext)
def m_need_plan (a0 : PyData) (a1 : PyData) : RV PyData := runP 2 (b_need_plan) [a0, a1]
def b_home : M FL.Flow := (sSeq (sExp (mCall (cur1 MP.m_need_floor) (mCons (mVar 0) mNil)))
  (sRet (mUn oTrg (mCa oSumA (mCons (mOp oIx (mVar 0) (mC (.int 0))) mNil)))))
def m_home (a0 : PyData) : RV PyData := runP 1 (b_home) [a0]
def b_p_beats (r_p_beats : PyData → RV PyData) (r_p_beats_of_step : PyData → RV PyData) : M FL.Flow := (sRet (mCa oSumA (mCons (mFT (mLcF (iA (mVar 0)) (gName 1) mYes (mCall (cur1 r_p_beats_of_step) (mCons (mVar 1) mNil)) [1])) mNil)))
def b_p_beats_of_step (r_p_beats : PyData → RV PyData) (r_p_beats_of_step : PyData → RV PyData) : M FL.Flow := (sRet (mIfE (mB (mOp oEqA (mOp oIx (mVar 0) (mC (.int 0))) (mC (.str "beat")))) (mC (.int 1)) (mOp oMulA (mOp oIx (mVar 0) (mC (.int 1))) (mCall (cur1 r_p_beats) (mCons (mOp oIx (mVar 0) (mC (.int 2))) mNil)))))
mutual
def m_p_beats : Nat → PyData → RV PyData
  | 0, _ => .bad
  | fu + 1, a0 => runP 2 (b_p_beats (m_p_beats fu) (m_p_beats_of_step fu)) [a0]
def m_p_beats_of_step : Nat → PyData → RV PyData
  | 0, _ => .bad
  | fu + 1, a0 => runP 1 (b_p_beats_of_step (m_p_beats fu) (m_p_beats_of_step fu)) [a0]
end
def b_plan_map : M FL.Flow := (sSeq (sExp (mCall (cur2 MP.m_need_plan) (mCons (mVar 0) (mCons (mVar 1) mNil))))
  (sRet (mCa oTuple (mCons (mCall (cur2 (MP.m_map_of 40)) (mCons (mCall (cur2 MP.m_moves) (mCons (mVar 0) mNil)) (mCons (mVar 1) mNil))) mNil))))
def m_plan_map (a0 : PyData) (a1 : PyData) : RV PyData := runP 2 (b_plan_map) [a0, a1]
def b_after : M FL.Flow := (sSeq (sExp (mCall (cur2 MP.m_need_arrangement) (mCons (mVar 0) (mCons (mVar 1) mNil))))
  (sRet (mCall (cur2 MP.m_led_by) (mCons (mVar 1) (mCons (mCall (cur2 MP.m_plan_map) (mCons (mVar 0) (mCons (mVar 2) mNil))) mNil)))))
def m_after (a0 : PyData) (a1 : PyData) (a2 : PyData) : RV PyData := runP 3 (b_after) [a0, a1, a2]
def b_before : M FL.Flow := (sSeq (sExp (mCall (cur2 MP.m_need_arrangement) (mCons (mVar 0) (mCons (mVar 1) mNil))))
  (sRet (mCa oTuple (mCons (mFT (mLcF (iA (mCall (cur2 MP.m_plan_map) (mCons (mVar 0) (mCons (mVar 2) mNil)))) (gName 3) mYes (mOp oIx (mVar 1) (mVar 3)) [3])) mNil))))
def m_before (a0 : PyData) (a1 : PyData) (a2 : PyData) : RV PyData := runP 4 (b_before) [a0, a1, a2]
def b_p_calls (r_p_calls : PyData → RV PyData) : M FL.Flow := (sSeq (sAsg (mLst mNil) (gName 1))
  (sSeq (sFor (iA (mVar 0)) (gName 2) (sIf (mB (mOp oEqA (mOp oIx (mVar 2) (mC (.int 0))) (mC (.str "beat")))) (sExp (mBM "list" rApp (mVar 1) (mCons (mOp oIx (mVar 2) (mC (.int 1))) mNil))) (sIf (mB (mOp oGt (mCall (cur1 (MP.m_p_beats_of_step 40)) (mCons (mVar 2) mNil)) (mC (.int 0)))) (sTrim (sExp (mBM "list" rExtA (mVar 1) (mCons (mOp oMulB (mCall (cur1 r_p_calls) (mCons (mOp oIx (mVar 2) (mC (.int 2))) mNil)) (mOp oIx (mVar 2) (mC (.int 1)))) mNil)))) sNext)))
  (sRet (mFrz (mVar 1)))))
def m_p_calls : Nat → PyData → RV PyData
  | 0, _ => .bad
  | fu + 1, a0 => runP 3 (b_p_calls (m_p_calls fu)) [a0]
def b_unrolled : M FL.Flow := (sSeq (sExp (mCall (cur2 MP.m_need_plan) (mCons (mVar 0) (mCons (mVar 1) mNil))))
  (sSeq (sIf (mB (mOp oGt (mCall (cur1 (MP.m_p_beats 40)) (mCons (mVar 1) mNil)) (mC (.int 2000)))) (sRaise "TooMany" "most" (mCons (mC (.int 2000)) mNil)) sNext)
  (sRet (mCa oTuple (mCons (mCall (cur1 (MP.m_p_calls 40)) (mCons (mVar 1) mNil)) mNil)))))
def m_unrolled (a0 : PyData) (a1 : PyData) : RV PyData := runP 2 (b_unrolled) [a0, a1]
def b_beats_of : M FL.Flow := (sSeq (sExp (mCall (cur2 MP.m_need_plan) (mCons (mVar 0) (mCons (mVar 1) mNil))))
  (sRet (mCall (cur1 (MP.m_p_beats 40)) (mCons (mVar 1) mNil))))
def m_beats_of (a0 : PyData) (a1 : PyData) : RV PyData := runP 2 (b_beats_of) [a0, a1]
def b_p_changes (r_p_changes : PyData → RV PyData) : M FL.Flow := (sRet (mCa oSumA (mCons (mFT (mLcF (iA (mVar 0)) (gName 1) mYes (mIfE (mB (mOp oEqA (mOp oIx (mVar 1) (mC (.int 0))) (mC (.str "beat")))) (mCa oLen (mCons (mOp oIx (mVar 1) (mC (.int 1))) mNil)) (mOp oMulA (mOp oIx (mVar 1) (mC (.int 1))) (mCall (cur1 r_p_changes) (mCons (mOp oIx (mVar 1) (mC (.int 2))) mNil)))) [1])) mNil)))
def m_p_changes : Nat → PyData → RV PyData
  | 0, _ => .bad
  | fu + 1, a0 => runP 2 (b_p_changes (m_p_changes fu)) [a0]
def b_changes_of : M FL.Flow := (sSeq (sExp (mCall (cur2 MP.m_need_plan) (mCons (mVar 0) (mCons (mVar 1) mNil))))
  (sRet (mCall (cur1 (MP.m_p_changes 40)) (mCons (mVar 1) mNil))))
def m_changes_of (a0 : PyData) (a1 : PyData) : RV PyData := runP 2 (b_changes_of) [a0, a1]
def b_p_seat_behind (r_p_seat_behind : PyData → PyData → PyData → PyData → RV PyData) : M FL.Flow := (sSeq (sFor (iA (mVar 1)) (gName 4) (sSeq (sIf (mB (mOp oEqA (mVar 3) (mC (.int 0)))) (sRet (mVar 2)) sNext)
  (sSeq (sAsg (mCall (cur1 (MP.m_p_beats_of_step 40)) (mCons (mVar 4) mNil)) (gName 5))
  (sSeq (sIf (mB (mOp oGt (mVar 5) (mVar 3))) (sSeq (sAsg (mOp oIx (mVar 4) (mC (.int 2))) (gName 6))
  (sSeq (sAsg (mOp oIx (mCall (cur2 MP.m_repeated) (mCons (mCall (cur2 (MP.m_map_of 40)) (mCons (mVar 0) (mCons (mVar 6) mNil))) (mCons (mOp oDivW (mVar 3) (mCall (cur1 (MP.m_p_beats 40)) (mCons (mVar 6) mNil))) mNil))) (mVar 2)) (gName 2))
  (sRet (mCall (cur4 r_p_seat_behind) (mCons (mVar 0) (mCons (mVar 6) (mCons (mVar 2) (mCons (mOp oMod (mVar 3) (mCall (cur1 (MP.m_p_beats 40)) (mCons (mVar 6) mNil))) mNil)))))))) sNext)
  (sSeq (sAsg (mOp oIx (mCall (cur2 (MP.m_map_of_step 40)) (mCons (mVar 0) (mCons (mVar 4) mNil))) (mVar 2)) (gName 2))
  (sAsg (mOp oSubc (mVar 3) (mVar 5)) (gName 3)))))))
  (sRet (mVar 2)))
def m_p_seat_behind : Nat → PyData → PyData → PyData → PyData → RV PyData
  | 0, _, _, _, _ => .bad
  | fu + 1, a0, a1, a2, a3 => runP 7 (b_p_seat_behind (m_p_seat_behind fu)) [a0, a1, a2, a3]
def b_stands_at : M FL.Flow := (sSeq (sExp (mCall (cur2 MP.m_need_plan) (mCons (mVar 0) (mCons (mVar 1) mNil))))
  (sSeq (sExp (mCall (cur2 MP.m_need_place) (mCons (mVar 0) (mCons (mVar 2) mNil))))
  (sSeq (sIf (mNotT (mB (mCall (cur2 MP.m_is_below) (mCons (mVar 3) (mCons (mOp oAddA (mCall (cur1 (MP.m_p_beats 40)) (mCons (mVar 1) mNil)) (mC (.int 1))) mNil))))) (sRaise "BadNumber" "thing" (mCons (mVar 3) mNil)) sNext)
  (sRet (mOp oIx (mCall (cur1 MP.m_places) (mCons (mVar 0) mNil)) (mCall (cur4 (MP.m_p_seat_behind 40)) (mCons (mCall (cur2 MP.m_moves) (mCons (mVar 0) mNil)) (mCons (mVar 1) (mCons (mCall (cur2 MP.m_seat) (mCons (mVar 0) (mCons (mVar 2) mNil))) (mCons (mVar 3) mNil))))))))))
def m_stands_at (a0 : PyData) (a1 : PyData) (a2 : PyData) (a3 : PyData) : RV PyData := runP 4 (b_stands_at) [a0, a1, a2, a3]
def b_floor_of : M FL.Flow := (sRet (mTup (mCons (mVar 0) (mCons (mCa oTuple (mCons (mFT (mCa oSorted (mCons (mFT (mLcF (iA (mVar 1)) (gSeq 2 (gCons (gName 2) (gCons (gName 3) gNil))) mYes (mTup (mCons (mCa oMin (mCons (mVar 2) (mCons (mVar 3) mNil))) (mCons (mCa oMax (mCons (mVar 2) (mCons (mVar 3) mNil))) mNil))) [2, 3])) mNil))) mNil)) mNil))))
def m_floor_of (a0 : PyData) (a1 : PyData) : RV PyData := runP 4 (b_floor_of) [a0, a1]
def b_order : M FL.Flow := (sSeq (sAsg (mC (.int 1)) (gName 1))
  (sSeq (sFor (iA (mCall (cur1 MP.m_cycles) (mCons (mVar 0) mNil))) (gName 2) (sAsg (mCa oLcm (mCons (mVar 1) (mCons (mCa oLen (mCons (mVar 2) mNil)) mNil))) (gName 1)))
  (sRet (mVar 1))))
def m_order (a0 : PyData) : RV PyData := runP 3 (b_order) [a0]
def b_touch_backward : M FL.Flow := (sSeq (sAsg (mFT (mCa oSorted (mCons (mFT (mLcF (iA (mVar 1)) (gSeq 2 (gCons (gName 4) (gCons (gName 5) gNil))) mYes (mTup (mCons (mVar 4) (mCons (mOp oMod (mOp oSub (mC (.int 1)) (mVar 5)) (mOp oIx (mVar 0) (mVar 4))) mNil))) [4, 5])) mNil))) (gSeq 2 (gCons (gName 2) (gCons (gName 3) gNil))))
  (sRet (mTup (mCons (mVar 2) (mCons (mVar 3) mNil)))))
def m_touch_backward (a0 : PyData) (a1 : PyData) : RV PyData := runP 6 (b_touch_backward) [a0, a1]
def b_backward : M FL.Flow := (sSeq (sExp (mCall (cur1 MP.m_need_floor) (mCons (mVar 0) mNil)))
  (sSeq (sAsg (mVar 0) (gSeq 2 (gCons (gName 1) (gCons (gName 2) gNil))))
  (sRet (mCall (cur2 MP.m_floor_of) (mCons (mVar 1) (mCons (mFT (mLcF (iA (mVar 2)) (gName 3) mYes (mCall (cur2 MP.m_touch_backward) (mCons (mVar 1) (mCons (mVar 3) mNil))) [3])) mNil))))))
def m_backward (a0 : PyData) : RV PyData := runP 4 (b_backward) [a0]
def b_p_turned (r_p_turned : PyData → PyData → RV PyData) (r_p_step_turned : PyData → PyData → RV PyData) : M FL.Flow := (sRet (mCa oTuple (mCons (mFT (mLcF (iA (mFT (mUn oRevA (mVar 1)))) (gName 2) mYes (mCall (cur2 r_p_step_turned) (mCons (mVar 0) (mCons (mVar 2) mNil))) [2])) mNil)))
def b_p_step_turned (r_p_turned : PyData → PyData → RV PyData) (r_p_step_turned : PyData → PyData → RV PyData) : M FL.Flow := (sSeq (sIf (mB (mOp oEqA (mOp oIx (mVar 1) (mC (.int 0))) (mC (.str "beat")))) (sRet (mTup (mCons (mC (.str "beat")) (mCons (mCa oTuple (mCons (mFT (mCa oSorted (mCons (mFT (mLcF (iA (mOp oIx (mVar 1) (mC (.int 1)))) (gName 2) mYes (mOp oIx (mVar 0) (mVar 2)) [2])) mNil))) mNil)) mNil)))) sNext)
  (sRet (mTup (mCons (mC (.str "times")) (mCons (mOp oIx (mVar 1) (mC (.int 1))) (mCons (mCall (cur2 r_p_turned) (mCons (mVar 0) (mCons (mOp oIx (mVar 1) (mC (.int 2))) mNil))) mNil))))))
mutual
def m_p_turned : Nat → PyData → PyData → RV PyData
  | 0, _, _ => .bad
  | fu + 1, a0, a1 => runP 3 (b_p_turned (m_p_turned fu) (m_p_step_turned fu)) [a0, a1]
def m_p_step_turned : Nat → PyData → PyData → RV PyData
  | 0, _, _ => .bad
  | fu + 1, a0, a1 => runP 3 (b_p_step_turned (m_p_turned fu) (m_p_step_turned fu)) [a0, a1]
end
def b_plan_back : M FL.Flow := (sSeq (sExp (mCall (cur2 MP.m_need_plan) (mCons (mVar 0) (mCons (mVar 1) mNil))))
  (sSeq (sAsg (mOp oIx (mCall (cur1 MP.m_backward) (mCons (mVar 0) mNil)) (mC (.int 1))) (gName 2))
  (sSeq (sAsgFT (mLcF (iA (mOp oIx (mVar 0) (mC (.int 1)))) (gName 4) mYes (mBM "list" rIdx (mVar 2) (mCons (mCall (cur2 MP.m_touch_backward) (mCons (mOp oIx (mVar 0) (mC (.int 0))) (mCons (mVar 4) mNil))) mNil)) [4]) 3)
  (sRet (mCall (cur2 (MP.m_p_turned 40)) (mCons (mVar 3) (mCons (mVar 1) mNil)))))))
def m_plan_back (a0 : PyData) (a1 : PyData) : RV PyData := runP 5 (b_plan_back) [a0, a1]
def b_order_of : M FL.Flow := (sRet (mCall (cur1 MP.m_order) (mCons (mCall (cur2 MP.m_plan_map) (mCons (mVar 0) (mCons (mVar 1) mNil))) mNil)))
def m_order_of (a0 : PyData) (a1 : PyData) : RV PyData := runP 2 (b_order_of) [a0, a1]
def b_need_places : M FL.Flow := (sSeq (sExp (mCall (cur2 MP.m_need_place) (mCons (mVar 0) (mCons (mVar 1) mNil))))
  (sExp (mCall (cur2 MP.m_need_place) (mCons (mVar 0) (mCons (mVar 2) mNil)))))
def m_need_places (a0 : PyData) (a1 : PyData) (a2 : PyData) : RV PyData := runP 3 (b_need_places) [a0, a1, a2]
def b_p_pairs_of : M FL.Flow := (sSeq (sAsg (mCall (cur2 MP.m_plan_map) (mCons (mVar 0) (mCons (mVar 1) mNil))) (gName 3))
  (sSeq (sAsg (mCall (cur1 MP.m_seats) (mCons (mVar 0) mNil)) (gName 4))
  (sSeq (sAsg (mLst mNil) (gName 5))
  (sSeq (sFor (iA (mVar 2)) (gSeq 2 (gCons (gName 6) (gCons (gName 7) gNil))) (sSeq (sAsg (mCall (cur2 MP.m_cycle_from) (mCons (mVar 3) (mCons (mOp oDG (mVar 4) (mVar 6)) mNil))) (gName 8))
  (sExp (mBM "list" rApp (mVar 5) (mCons (mIfE (mB (mOp oInS (mOp oDG (mVar 4) (mVar 7)) (mVar 8))) (mTup (mCons (mBM "list" rIdx (mVar 8) (mCons (mOp oDG (mVar 4) (mVar 7)) mNil)) (mCons (mCa oLen (mCons (mVar 8) mNil)) mNil))) (mC .none)) mNil)))))
  (sRet (mFrz (mVar 5)))))))
def m_p_pairs_of (a0 : PyData) (a1 : PyData) (a2 : PyData) : RV PyData := runP 9 (b_p_pairs_of) [a0, a1, a2]
def b_times_at : M FL.Flow := (sSeq (sExp (mCall (cur2 MP.m_need_plan) (mCons (mVar 0) (mCons (mVar 1) mNil))))
  (sSeq (sExp (mCall (cur3 MP.m_need_places) (mCons (mVar 0) (mCons (mVar 2) (mCons (mVar 3) mNil)))))
  (sRet (mOp oIx (mCall (cur3 MP.m_p_pairs_of) (mCons (mVar 0) (mCons (mVar 1) (mCons (mTup (mCons (mTup (mCons (mVar 2) (mCons (mVar 3) mNil))) mNil)) mNil)))) (mC (.int 0))))))
def m_times_at (a0 : PyData) (a1 : PyData) (a2 : PyData) (a3 : PyData) : RV PyData := runP 4 (b_times_at) [a0, a1, a2, a3]
end MP
end

section
set_option Elab.async false
set_option linter.all false
set_option maxRecDepth 100000
set_option maxHeartbeats 1000000
set_option autoImplicit false
namespace ML
open PySem PySem.Spec PyProof.Rows L2 DL FL
def b_law_deck_8ff7 (c0 c1 : Int) : M FL.Flow := (sSeq (sAsg (mC (.int c0)) (gName 1))
  (sSeq (sFor (iA (mFT (mSl (mVar 0) mNoP (mPart (mC (.int 63)))))) (gName 2) (sAsg (mOp oMod (mCa oInt (mCons (mOp oAddA (mOp oAddA (mOp oMulA (mVar 1) (mC (.int 39373))) (mOp oMod (mCa oInt (mCons (mVar 2) mNil)) (mC (.int 2147483549)))) (mC (.int c1))) mNil)) (mC (.int 2147483563))) (gName 1)))
  (sRet (mDisp ["cells", "mixed", "draws"] (mCons (mUn oRevA (mFT (mCa oList (mCons (mFT (mSl (mVar 0) mNoP (mPart (mC (.int 63))))) mNil)))) (mCons (mVar 1) (mCons (mC (.int 0)) mNil)))))))
def m_law_deck_8ff7 (c0 c1 : Int) (a0 : PyData) : RV Dk := runK 3 (b_law_deck_8ff7 c0 c1) [a0]
def b_law_draw_600f (c1 c2 : Int) : M FL.Flow := (sSeq (mPutK (mVar 0) (mC (.str "draws")) (mOp oAddA (mOp oDG (mVar 0) (mC (.str "draws"))) (mC (.int 1))))
  (sSeq (sAsg (mOp oAddA (mOp oDG (mVar 0) (mC (.str "mixed"))) (mOp oMulA (mC (.int 60373)) (mOp oDG (mVar 0) (mC (.str "draws"))))) (gName 2))
  (sSeq (sIf (mB (mOp oNeA (mOp oDG (mVar 0) (mC (.str "cells"))) (mFT (mLst mNil)))) (sSeq (sAsg (mBM0 "list" rPop' (mOp oDG (mVar 0) (mC (.str "cells")))) (gName 3))
  (sSeq (sIf (mB (mOp oGe (mVar 3) (mOp oPow (mC (.int 10)) (mC (.int 18))))) (sSeq (sExp (mBM "list" rApp (mOp oDG (mVar 0) (mC (.str "cells"))) (mCons (mOp oDivW (mVar 3) (mCa oMax (mCons (mC (.int 2)) (mCons (mVar 1) mNil)))) mNil)))
  (sRet (mOp oMod (mCa oInt (mCons (mVar 3) mNil)) (mVar 1)))) sNext)
  (sAsg (mOp oAddA (mVar 2) (mOp oMod (mCa oInt (mCons (mVar 3) mNil)) (mC (.int 2147483549)))) (gName 2)))) sNext)
  (sSeq (sAsg (mOp oMod (mCa oInt (mCons (mOp oAddA (mOp oMulA (mVar 2) (mC (.int 69621))) (mC (.int c1))) mNil)) (mC (.int 2147483579))) (gName 2))
  (sSeq (sAsg (mOp oMod (mCa oInt (mCons (mOp oAddA (mOp oAddA (mOp oMulA (mVar 2) (mVar 2)) (mOp oMulA (mC (.int 50021)) (mOp oDG (mVar 0) (mC (.str "draws"))))) (mC (.int c2))) mNil)) (mC (.int 2147483629))) (gName 2))
  (sSeq (sAsg (mOp oMod (mCa oInt (mCons (mOp oMulA (mVar 2) (mC (.int 40014))) mNil)) (mC (.int 2147483399))) (gName 2))
  (sRet (mOp oMod (mCa oInt (mCons (mOp oDivW (mVar 2) (mC (.int 64))) mNil)) (mVar 1)))))))))
def m_law_draw_600f (c1 c2 : Int) (k : Dk) (a0 : PyData) : RV (PyData × Dk) := runD 4 (b_law_draw_600f c1 c2) k [a0]
def b_law_pick_0769 (dr : Dk → PyData → RV (PyData × Dk)) : M FL.Flow := (sRet (mOp oIx (mVar 1) (mCallD (curD1 dr) (mCons (mVar 0) (mCons (mCa oLen (mCons (mVar 1) mNil)) mNil)))))
def m_law_pick_0769 (dr : Dk → PyData → RV (PyData × Dk)) (k : Dk) (a0 : PyData) : RV (PyData × Dk) := runD 2 (b_law_pick_0769 dr) k [a0]
def b_law_order_0df0 (dr : Dk → PyData → RV (PyData × Dk)) : M FL.Flow := (sSeq (sPar 2 3 (mCons (mUn oLrg (mVar 1)) (mCons (mLst mNil) mNil)))
  (sSeq (sFor (iR1 (mCons (mVar 1) mNil)) (gName 4) (sExp (mBM "list" rApp (mVar 3) (mCons (mBM "list" rPopAt' (mVar 2) (mCons (mCallD (curD1 dr) (mCons (mVar 0) (mCons (mCa oLen (mCons (mVar 2) mNil)) mNil))) mNil)) mNil))))
  (sRet (mCa oTuple (mCons (mVar 3) mNil)))))
def m_law_order_0df0 (dr : Dk → PyData → RV (PyData × Dk)) (k : Dk) (a0 : PyData) : RV (PyData × Dk) := runD 5 (b_law_order_0df0 dr) k [a0]
def b_law_spots_91d2 : M FL.Flow := (sSeq (sAsg (mLst mNil) (gName 1))
  (sSeq (sFor (iEnu (mCons (mVar 0) mNil)) (gSeq 2 (gCons (gName 2) (gCons (gName 3) gNil))) (sTrim (sExp (mBM "list" rExtA (mVar 1) (mCons (mLcF (iR1 (mCons (mVar 3) mNil)) (gName 4) mYes (mTup (mCons (mVar 2) (mCons (mVar 4) mNil))) [4]) mNil)))))
  (sRet (mFrz (mVar 1)))))
def m_law_spots_91d2 (a0 : PyData) : RV PyData := runP 5 (b_law_spots_91d2) [a0]
def b_law_rings_72bf (dr : Dk → PyData → RV (PyData × Dk)) : M FL.Flow := (sSeq (sPar 2 3 (mCons (mLst mNil) (mCons (mVar 1) mNil)))
  (sSeq (sFor (iR1 (mCons (mCallD (curD1 (ML.m_law_pick_0769 dr)) (mCons (mVar 0) (mCons (mTup (mCons (mC (.int 2)) (mCons (mC (.int 3)) (mCons (mC (.int 2)) (mCons (mC (.int 1)) (mCons (mC (.int 3)) (mCons (mC (.int 4)) (mCons (mC (.int 2)) (mCons (mC (.int 5)) mNil))))))))) mNil))) mNil)) (gName 4) (sSeq (sAsg (mCallD (curD1 (ML.m_law_pick_0769 dr)) (mCons (mVar 0) (mCons (mTup (mCons (mC (.int 2)) (mCons (mC (.int 3)) (mCons (mC (.int 4)) (mCons (mC (.int 1)) (mCons (mC (.int 3)) (mCons (mC (.int 5)) (mCons (mC (.int 2)) (mCons (mC (.int 6)) mNil))))))))) mNil))) (gName 5))
  (sIf (mB (mOp oLe (mVar 5) (mVar 3))) (sSeq (sExp (mBM "list" rApp (mVar 2) (mCons (mVar 5) mNil)))
  (sAsg (mOp oSub (mVar 3) (mVar 5)) (gName 3))) sNext)))
  (sRet (mIfE (mB (mOp oNeA (mVar 2) (mFT (mLst mNil)))) (mCa oTuple (mCons (mVar 2) mNil)) (mTup (mCons (mC (.int 1)) mNil))))))
def m_law_rings_72bf (dr : Dk → PyData → RV (PyData × Dk)) (k : Dk) (a0 : PyData) : RV (PyData × Dk) := runD 6 (b_law_rings_72bf dr) k [a0]
def b_law_floor_532c (dr : Dk → PyData → RV (PyData × Dk)) : M FL.Flow := (sSeq (sPar 2 3 (mCons (mCallD (curD1 (ML.m_law_rings_72bf dr)) (mCons (mVar 0) (mCons (mVar 1) mNil))) (mCons (mLst mNil) mNil)))
  (sSeq (sAsg (mCall (cur1 ML.m_law_spots_91d2) (mCons (mVar 2) mNil)) (gName 4))
  (sSeq (sPar 5 6 (mCons (mCallD (curD1 (ML.m_law_order_0df0 dr)) (mCons (mVar 0) (mCons (mCa oLen (mCons (mVar 4) mNil)) mNil))) (mCons (mCallD (curD1 dr) (mCons (mVar 0) (mCons (mC (.int 5)) mNil))) mNil)))
  (sSeq (sFor (iR1 (mCons (mIfE (mB (mOp oGt (mVar 6) (mC (.int 0)))) (mCallD (curD1 dr) (mCons (mVar 0) (mCons (mOp oAddA (mCa oMin (mCons (mC (.int 20)) (mCons (mOp oDivW (mCa oLen (mCons (mVar 4) mNil)) (mC (.int 2))) mNil))) (mC (.int 1))) mNil))) (mCa oMin (mCons (mC (.int 20)) (mCons (mOp oDivW (mCa oLen (mCons (mVar 4) mNil)) (mC (.int 2))) mNil)))) mNil)) (gName 7) (sSeq (sAsg (mFT (mCa oSorted (mCons (mFT (mLst (mCons (mOp oIx (mVar 4) (mOp oIx (mVar 5) (mOp oMulA (mC (.int 2)) (mVar 7)))) (mCons (mOp oIx (mVar 4) (mOp oIx (mVar 5) (mOp oAddA (mOp oMulA (mC (.int 2)) (mVar 7)) (mC (.int 1))))) mNil)))) mNil))) (gSeq 2 (gCons (gName 8) (gCons (gName 9) gNil))))
  (sExp (mBM "list" rApp (mVar 3) (mCons (mTup (mCons (mVar 8) (mCons (mVar 9) mNil))) mNil)))))
  (sRet (mTup (mCons (mVar 2) (mCons (mCa oTuple (mCons (mFT (mCa oSorted (mCons (mVar 3) mNil))) mNil)) mNil))))))))
def m_law_floor_532c (dr : Dk → PyData → RV (PyData × Dk)) (k : Dk) (a0 : PyData) : RV (PyData × Dk) := runD 10 (b_law_floor_532c dr) k [a0]
def b_law_wide_floor_42ef (dr : Dk → PyData → RV (PyData × Dk)) : M FL.Flow := (sSeq (sPar 1 2 (mCons (mLst mNil) (mCons (mC (.int 40)) mNil)))
  (sSeq (sFor (iR1 (mCons (mOp oAddA (mC (.int 1)) (mCallD (curD1 dr) (mCons (mVar 0) (mCons (mC (.int 12)) mNil)))) mNil)) (gName 3) (sSeq (sAsg (mOp oAddA (mC (.int 1)) (mCallD (curD1 dr) (mCons (mVar 0) (mCons (mCallD (curD1 (ML.m_law_pick_0769 dr)) (mCons (mVar 0) (mCons (mTup (mCons (mC (.int 3)) (mCons (mC (.int 8)) (mCons (mC (.int 20)) mNil)))) mNil))) mNil)))) (gName 4))
  (sIf (mB (mOp oLe (mVar 4) (mVar 2))) (sSeq (sExp (mBM "list" rApp (mVar 1) (mCons (mVar 4) mNil)))
  (sAsg (mOp oSub (mVar 2) (mVar 4)) (gName 2))) sNext)))
  (sSeq (sIf (mB (mOp oEqA (mVar 1) (mFT (mLst mNil)))) (sAsg (mLst (mCons (mC (.int 7)) mNil)) (gName 1)) sNext)
  (sSeq (sAsg (mCall (cur1 ML.m_law_spots_91d2) (mCons (mFrz (mVar 1)) mNil)) (gName 5))
  (sSeq (sPar 6 7 (mCons (mCallD (curD1 (ML.m_law_order_0df0 dr)) (mCons (mVar 0) (mCons (mCa oLen (mCons (mVar 5) mNil)) mNil))) (mCons (mLst mNil) mNil)))
  (sSeq (sFor (iR1 (mCons (mCallD (curD1 dr) (mCons (mVar 0) (mCons (mOp oAddA (mCa oMin (mCons (mC (.int 20)) (mCons (mOp oDivW (mCa oLen (mCons (mVar 5) mNil)) (mC (.int 2))) mNil))) (mC (.int 1))) mNil))) mNil)) (gName 3) (sExp (mBM "list" rApp (mVar 7) (mCons (mCa oTuple (mCons (mFT (mCa oSorted (mCons (mFT (mLst (mCons (mOp oIx (mVar 5) (mOp oIx (mVar 6) (mOp oMulA (mC (.int 2)) (mVar 3)))) (mCons (mOp oIx (mVar 5) (mOp oIx (mVar 6) (mOp oAddA (mOp oMulA (mC (.int 2)) (mVar 3)) (mC (.int 1))))) mNil)))) mNil))) mNil)) mNil))))
  (sRet (mTup (mCons (mCa oTuple (mCons (mVar 1) mNil)) (mCons (mCa oTuple (mCons (mFT (mCa oSorted (mCons (mVar 7) mNil))) mNil)) mNil))))))))))
def m_law_wide_floor_42ef (dr : Dk → PyData → RV (PyData × Dk)) (k : Dk) : RV (PyData × Dk) := runD 8 (b_law_wide_floor_42ef dr) k []
def b_law_behind_1f8d : M FL.Flow := (sRet (mTup (mCons (mOp oIx (mVar 1) (mC (.int 0))) (mCons (mOp oMod (mCa oInt (mCons (mOp oAddA (mOp oIx (mVar 1) (mC (.int 1))) (mVar 2)) mNil)) (mOp oIx (mOp oIx (mVar 0) (mC (.int 0))) (mOp oIx (mVar 1) (mC (.int 0))))) mNil))))
def m_law_behind_1f8d (a0 : PyData) (a1 : PyData) (a2 : PyData) : RV PyData := runP 3 (b_law_behind_1f8d) [a0, a1, a2]
def b_law_partners_35b8 : M FL.Flow := (sSeq (sAsg mNewT (gName 1))
  (sSeq (sFor (iA (mOp oIx (mVar 0) (mC (.int 1)))) (gSeq 2 (gCons (gName 2) (gCons (gName 3) gNil))) (sSeq (mPutK (mVar 1) (mVar 2) (mVar 3))
  (mPutK (mVar 1) (mVar 3) (mVar 2))))
  (sRet (mFrz (mVar 1)))))
def m_law_partners_35b8 (a0 : PyData) : RV PyData := runP 4 (b_law_partners_35b8) [a0]
def b_law_is_place_right_92ff (dr : Dk → PyData → RV (PyData × Dk)) : M FL.Flow := (sSeq (sAsg (mOp oIx (mOp oIx (mVar 1) (mC (.int 0))) (mOp oIx (mVar 2) (mC (.int 0)))) (gName 5))
  (sSeq (sIf (mB (mOp oNeA (mCa oRepr (mCons (mTup (mCons (mCall (cur2 MP.m_seat) (mCons (mVar 1) (mCons (mVar 2) mNil))) (mCons (mCallK [1, 0] (cur2 MP.m_seat) (mCons (mVar 2) (mCons (mVar 1) mNil))) (mCons (mCall (cur2 MP.m_is_place) (mCons (mVar 1) (mCons (mVar 2) mNil))) mNil)))) mNil)) (mCa oRepr (mCons (mTup (mCons (mVar 3) (mCons (mVar 3) (mCons (mC (.bool true)) mNil)))) mNil)))) (sRet (mC (.bool false))) sNext)
  (sSeq (sAsg (mGet2 (mVar 4) (mVar 2) (mC .none)) (gName 6))
  (sSeq (sIf (mB (mOp oNeA (mCa oRepr (mCons (mTup (mCons (mCall (cur2 MP.m_partner) (mCons (mVar 1) (mCons (mVar 2) mNil))) (mCons (mCallK [1, 0] (cur2 MP.m_partner) (mCons (mVar 2) (mCons (mVar 1) mNil))) mNil))) mNil)) (mCa oRepr (mCons (mTup (mCons (mVar 6) (mCons (mVar 6) mNil))) mNil)))) (sRet (mC (.bool false))) sNext)
  (sSeq (sIf (mAndT (mB (mOp oIsNot (mVar 6) (mC .none))) (mB (mOp oNeA (mCa oRepr (mCons (mCall (cur2 MP.m_partner) (mCons (mVar 1) (mCons (mVar 6) mNil))) mNil)) (mCa oRepr (mCons (mVar 2) mNil))))) (sRet (mC (.bool false))) sNext)
  (sSeq (sAsg (mVar 2) (gName 7))
  (sSeq (sFor (iR1 (mCons (mC (.int 4)) mNil)) (gName 8) (sSeq (sIf (mB (mOp oNeA (mCa oRepr (mCons (mTup (mCons (mCall (cur3 MP.m_behind) (mCons (mVar 1) (mCons (mVar 2) (mCons (mVar 8) mNil)))) (mCons (mCall (cur3 MP.m_behind) (mCons (mVar 1) (mCons (mVar 7) (mCons (mUn oNeg (mVar 8)) mNil)))) mNil))) mNil)) (mCa oRepr (mCons (mTup (mCons (mVar 7) (mCons (mVar 2) mNil))) mNil)))) (sRet (mC (.bool false))) sNext)
  (sAsg (mIfE (mB (mOp oLtA (mOp oAddA (mOp oIx (mVar 7) (mC (.int 1))) (mC (.int 1))) (mVar 5))) (mTup (mCons (mOp oIx (mVar 7) (mC (.int 0))) (mCons (mOp oAddA (mOp oIx (mVar 7) (mC (.int 1))) (mC (.int 1))) mNil))) (mTup (mCons (mOp oIx (mVar 7) (mC (.int 0))) (mCons (mC (.int 0)) mNil)))) (gName 7))))
  (sSeq (sAsg (mOp oAddA (mCallD (curD1 (ML.m_law_pick_0769 dr)) (mCons (mVar 0) (mCons (mFT (mLst (mCons (mOp oMulA (mOp oPow (mC (.int 10)) (mC (.int 50))) (mOp oPow (mC (.int 10)) (mC (.int 49)))) (mCons (mOp oPow (mC (.int 10)) (mC (.int 18))) (mCons (mOp oPow (mC (.int 10)) (mC (.int 5))) (mCons (mC (.int 60)) mNil)))))) mNil))) (mCallD (curD1 dr) (mCons (mVar 0) (mCons (mOp oPow (mC (.int 10)) (mC (.int 9))) mNil)))) (gName 9))
  (sSeq (sAsg (mCallD (curD1 (ML.m_law_pick_0769 dr)) (mCons (mVar 0) (mCons (mFT (mLst (mCons (mVar 9) (mCons (mUn oNeg (mVar 9)) (mCons (mOp oSub (mCallD (curD1 dr) (mCons (mVar 0) (mCons (mC (.int 200)) mNil))) (mC (.int 100))) (mCons (mVar 5) (mCons (mUn oNeg (mVar 5)) (mCons (mC (.int 0)) mNil)))))))) mNil))) (gName 8))
  (sSeq (sPar 10 11 (mCons (mCall (cur3 ML.m_law_behind_1f8d) (mCons (mVar 1) (mCons (mVar 2) (mCons (mVar 8) mNil)))) (mCons (mOp oSub (mCallD (curD1 dr) (mCons (mVar 0) (mCons (mC (.int 99)) mNil))) (mC (.int 49))) mNil)))
  (sSeq (sIf (mB (mOp oNeA (mCa oRepr (mCons (mTup (mCons (mCall (cur3 MP.m_behind) (mCons (mVar 1) (mCons (mVar 2) (mCons (mVar 8) mNil)))) (mCons (mCallK [2, 1, 0] (cur3 MP.m_behind) (mCons (mVar 8) (mCons (mVar 2) (mCons (mVar 1) mNil)))) mNil))) mNil)) (mCa oRepr (mCons (mTup (mCons (mVar 10) (mCons (mVar 10) mNil))) mNil)))) (sRet (mC (.bool false))) sNext)
  (sRet (mOp oEqA (mCa oRepr (mCons (mCall (cur3 MP.m_behind) (mCons (mVar 1) (mCons (mVar 10) (mCons (mVar 11) mNil)))) mNil)) (mCa oRepr (mCons (mCall (cur3 MP.m_behind) (mCons (mVar 1) (mCons (mVar 2) (mCons (mCa oInt (mCons (mOp oMod (mOp oAddA (mVar 8) (mVar 11)) (mVar 5)) mNil)) mNil)))) mNil)))))))))))))))
def m_law_is_place_right_92ff (dr : Dk → PyData → RV (PyData × Dk)) (k : Dk) (a0 : PyData) (a1 : PyData) (a2 : PyData) (a3 : PyData) : RV (PyData × Dk) := runD 12 (b_law_is_place_right_92ff dr) k [a0, a1, a2, a3]
def b_law_length_fdd5 (r_law_length : PyData → RV PyData) : M FL.Flow := (sRet (mCa oSumA (mCons (mFT (mLcF (iA (mVar 0)) (gName 1) mYes (mIfE (mB (mOp oEqA (mOp oIx (mVar 1) (mC (.int 0))) (mC (.str "beat")))) (mC (.int 1)) (mOp oMulA (mOp oIx (mVar 1) (mC (.int 1))) (mCall (cur1 r_law_length) (mCons (mOp oIx (mVar 1) (mC (.int 2))) mNil)))) [1])) mNil)))
def m_law_length_fdd5 : Nat → PyData → RV PyData
  | 0, _ => .bad
  | fu + 1, a0 => runP 2 (b_law_length_fdd5 (m_law_length_fdd5 fu)) [a0]
def b_law_call_bab5 (dr : Dk → PyData → RV (PyData × Dk)) : M FL.Flow := (sRet (mCa oTuple (mCons (mFT (mLcF (iR1 (mCons (mCa oLen (mCons (mOp oIx (mVar 1) (mC (.int 1))) mNil)) mNil)) (gName 2) (mB (mOp oEqA (mCallD (curD1 dr) (mCons (mVar 0) (mCons (mC (.int 2)) mNil))) (mC (.int 0)))) (mVar 2) [2])) mNil)))
def m_law_call_bab5 (dr : Dk → PyData → RV (PyData × Dk)) (k : Dk) (a0 : PyData) : RV (PyData × Dk) := runD 3 (b_law_call_bab5 dr) k [a0]
def b_law_plan_5a32 (dr : Dk → PyData → RV (PyData × Dk)) (r_law_plan : Dk → PyData → PyData → PyData → RV (PyData × Dk)) : M FL.Flow := (sSeq (sAsg (mLst mNil) (gName 4))
  (sSeq (sFor (iR1 (mCons (mCallD (curD1 dr) (mCons (mVar 0) (mCons (mC (.int 4)) mNil))) mNil)) (gName 5) (sIf (mAndT (mB (mOp oGt (mVar 2) (mC (.int 0)))) (mB (mOp oEqA (mCallD (curD1 dr) (mCons (mVar 0) (mCons (mC (.int 3)) mNil))) (mC (.int 0))))) (sSeq (sAsg (mCallD (curD1 (ML.m_law_pick_0769 dr)) (mCons (mVar 0) (mCons (mTup (mCons (mC (.int 0)) (mCons (mC (.int 1)) (mCons (mC (.int 2)) (mCons (mC (.int 3)) (mCons (mC (.int 5)) (mCons (mC (.int 2)) mNil))))))) mNil))) (gName 6))
  (sSeq (sIf (mAndT (mB (mVar 3)) (mB (mOp oEqA (mCallD (curD1 dr) (mCons (mVar 0) (mCons (mC (.int 3)) mNil))) (mC (.int 0))))) (sAsg (mOp oAddA (mCallD (curD1 (ML.m_law_pick_0769 dr)) (mCons (mVar 0) (mCons (mTup (mCons (mC (.int 7)) (mCons (mC (.int 60)) (mCons (mOp oPow (mC (.int 10)) (mC (.int 6))) mNil)))) mNil))) (mCallD (curD1 dr) (mCons (mVar 0) (mCons (mOp oPow (mC (.int 10)) (mC (.int 6))) mNil)))) (gName 6)) sNext)
  (sExp (mBM "list" rApp (mVar 4) (mCons (mTup (mCons (mC (.str "times")) (mCons (mVar 6) (mCons (mCallD (curD3 r_law_plan) (mCons (mVar 0) (mCons (mVar 1) (mCons (mOp oSub (mVar 2) (mC (.int 1))) (mCons (mVar 3) mNil))))) mNil)))) mNil))))) (sExp (mBM "list" rApp (mVar 4) (mCons (mTup (mCons (mC (.str "beat")) (mCons (mCallD (curD1 (ML.m_law_call_bab5 dr)) (mCons (mVar 0) (mCons (mVar 1) mNil))) mNil))) mNil)))))
  (sRet (mCa oTuple (mCons (mVar 4) mNil)))))
def m_law_plan_5a32 (dr : Dk → PyData → RV (PyData × Dk)) : Nat → Dk → PyData → PyData → PyData → RV (PyData × Dk)
  | 0, _, _, _, _ => .bad
  | fu + 1, k, a0, a1, a2 => runD 7 (b_law_plan_5a32 dr (m_law_plan_5a32 dr fu)) k [a0, a1, a2]
def b_law_calls_af1f (r_law_calls : PyData → RV PyData) : M FL.Flow := (sSeq (sAsg (mLst mNil) (gName 1))
  (sSeq (sFor (iA (mVar 0)) (gName 2) (sIf (mB (mOp oEqA (mOp oIx (mVar 2) (mC (.int 0))) (mC (.str "beat")))) (sExp (mBM "list" rApp (mVar 1) (mCons (mOp oIx (mVar 2) (mC (.int 1))) mNil))) (sTrim (sExp (mBM "list" rExtA (mVar 1) (mCons (mOp oMulB (mCall (cur1 r_law_calls) (mCons (mOp oIx (mVar 2) (mC (.int 2))) mNil)) (mOp oIx (mVar 2) (mC (.int 1)))) mNil))))))
  (sRet (mFrz (mVar 1)))))
def m_law_calls_af1f : Nat → PyData → RV PyData
  | 0, _ => .bad
  | fu + 1, a0 => runP 3 (b_law_calls_af1f (m_law_calls_af1f fu)) [a0]
def b_law_are_beats_right_3153 (dr : Dk → PyData → RV (PyData × Dk)) : M FL.Flow := (sSeq (sPar 3 4 (mCons (mCall (cur1 MP.m_places) (mCons (mVar 1) mNil)) (mCons (mCallD (curD1 (ML.m_law_call_bab5 dr)) (mCons (mVar 0) (mCons (mVar 1) mNil))) mNil)))
  (sSeq (sAsg (mCall (cur3 MP.m_after) (mCons (mVar 1) (mCons (mVar 2) (mCons (mTup (mCons (mTup (mCons (mC (.str "beat")) (mCons (mTup mNil) mNil))) mNil)) mNil)))) (gName 5))
  (sSeq (sAsg (mCall (cur3 MP.m_after) (mCons (mVar 1) (mCons (mVar 2) (mCons (mTup (mCons (mTup (mCons (mC (.str "beat")) (mCons (mVar 4) mNil))) mNil)) mNil)))) (gName 6))
  (sSeq (sFor (iEnu (mCons (mVar 3) mNil)) (gSeq 2 (gCons (gName 7) (gCons (gName 8) gNil))) (sSeq (sAsg (mTup (mCons (mCall (cur3 MP.m_behind) (mCons (mVar 1) (mCons (mVar 8) (mCons (mC (.int 1)) mNil)))) (mCons (mCall (cur2 MP.m_partner) (mCons (mVar 1) (mCons (mCall (cur3 MP.m_behind) (mCons (mVar 1) (mCons (mVar 8) (mCons (mC (.int 1)) mNil)))) mNil))) mNil))) (gSeq 2 (gCons (gName 9) (gCons (gName 10) gNil))))
  (sSeq (sIf (mB (mOp oNeA (mOp oIx (mVar 5) (mBM "list" rIdx (mVar 3) (mCons (mVar 9) mNil))) (mOp oIx (mVar 2) (mVar 7)))) (sRet (mC (.bool false))) sNext)
  (sSeq (sAsg (mAnd (mOp oIsNot (mVar 10) (mC .none)) (mOp oNeA (mFT (mLcF (iA (mVar 4)) (gName 14) (mB (mOp oInS (mVar 9) (mOp oIx (mOp oIx (mVar 1) (mC (.int 1))) (mVar 14)))) (mVar 14) [14])) (mFT (mLst mNil)))) (gName 11))
  (sIf (mB (mOp oNeA (mOp oIx (mVar 6) (mBM "list" rIdx (mVar 3) (mCons (mIfE (mB (mVar 11)) (mVar 10) (mVar 9)) mNil))) (mOp oIx (mVar 2) (mVar 7)))) (sRet (mC (.bool false))) sNext)))))
  (sSeq (sPar 12 13 (mCons (mCallD (curD1 dr) (mCons (mVar 0) (mCons (mC (.int 5)) mNil))) (mCons (mCallD (curD3 (ML.m_law_plan_5a32 dr 40)) (mCons (mVar 0) (mCons (mVar 1) (mCons (mC (.int 1)) (mCons (mC (.bool false)) mNil))))) mNil)))
  (sRet (mOp oEqA (mCa oRepr (mCons (mCall (cur2 MP.m_plan_map) (mCons (mVar 1) (mCons (mTup (mCons (mTup (mCons (mC (.str "times")) (mCons (mVar 12) (mCons (mVar 13) mNil)))) mNil)) mNil))) mNil)) (mCa oRepr (mCons (mCall (cur2 MP.m_plan_map) (mCons (mVar 1) (mCons (mOp oMulA (mVar 13) (mVar 12)) mNil))) mNil)))))))))
def m_law_are_beats_right_3153 (dr : Dk → PyData → RV (PyData × Dk)) (k : Dk) (a0 : PyData) (a1 : PyData) : RV (PyData × Dk) := runD 15 (b_law_are_beats_right_3153 dr) k [a0, a1]
def b_law_changes_3050 (r_law_changes : PyData → RV PyData) : M FL.Flow := (sRet (mCa oSumA (mCons (mFT (mLcF (iA (mVar 0)) (gName 1) mYes (mIfE (mB (mOp oEqA (mOp oIx (mVar 1) (mC (.int 0))) (mC (.str "beat")))) (mCa oLen (mCons (mOp oIx (mVar 1) (mC (.int 1))) mNil)) (mOp oMulA (mOp oIx (mVar 1) (mC (.int 1))) (mCall (cur1 r_law_changes) (mCons (mOp oIx (mVar 1) (mC (.int 2))) mNil)))) [1])) mNil)))
def m_law_changes_3050 : Nat → PyData → RV PyData
  | 0, _ => .bad
  | fu + 1, a0 => runP 2 (b_law_changes_3050 (m_law_changes_3050 fu)) [a0]
def b_law_calls_cc0f (r_law_calls : PyData → RV PyData) : M FL.Flow := (sSeq (sAsg (mLst mNil) (gName 1))
  (sSeq (sFor (iA (mVar 0)) (gName 2) (sIf (mB (mOp oEqA (mOp oIx (mVar 2) (mC (.int 0))) (mC (.str "beat")))) (sExp (mBM "list" rApp (mVar 1) (mCons (mOp oIx (mVar 2) (mC (.int 1))) mNil))) (sIf (mB (mOp oGt (mOp oMulA (mOp oIx (mVar 2) (mC (.int 1))) (mCall (cur1 (ML.m_law_length_fdd5 40)) (mCons (mOp oIx (mVar 2) (mC (.int 2))) mNil))) (mC (.int 0)))) (sTrim (sExp (mBM "list" rExtA (mVar 1) (mCons (mOp oMulB (mCall (cur1 r_law_calls) (mCons (mOp oIx (mVar 2) (mC (.int 2))) mNil)) (mOp oIx (mVar 2) (mC (.int 1)))) mNil)))) sNext)))
  (sRet (mFrz (mVar 1)))))
def m_law_calls_cc0f : Nat → PyData → RV PyData
  | 0, _ => .bad
  | fu + 1, a0 => runP 3 (b_law_calls_cc0f (m_law_calls_cc0f fu)) [a0]
def b_law_near_1761 (dr : Dk → PyData → RV (PyData × Dk)) : M FL.Flow := (sSeq (sPar 2 3 (mCons (mCallD (curD1 (ML.m_law_pick_0769 dr)) (mCons (mVar 0) (mCons (mTup (mCons (mC (.int 1)) (mCons (mC (.int 2)) (mCons (mC (.int 4)) (mCons (mC (.int 5)) (mCons (mC (.int 8)) (mCons (mC (.int 10)) (mCons (mC (.int 20)) (mCons (mC (.int 40)) mNil))))))))) mNil))) (mCons (mCallD (curD1 (ML.m_law_call_bab5 dr)) (mCons (mVar 0) (mCons (mVar 1) mNil))) mNil)))
  (sSeq (sAsg (mTup (mCons (mTup (mCons (mC (.str "times")) (mCons (mOp oSub (mOp oDivW (mC (.int 2000)) (mVar 2)) (mC (.int 1))) (mCons (mTup (mCons (mTup (mCons (mC (.str "beat")) (mCons (mVar 3) mNil))) mNil)) mNil)))) (mCons (mTup (mCons (mC (.str "beat")) (mCons (mTup mNil) mNil))) mNil))) (gName 4))
  (sSeq (sAsg (mTup (mCons (mTup (mCons (mC (.str "times")) (mCons (mVar 2) (mCons (mVar 4) mNil)))) mNil)) (gName 5))
  (sSeq (sIf (mB (mOp oEqA (mCallD (curD1 dr) (mCons (mVar 0) (mCons (mC (.int 3)) mNil))) (mC (.int 0)))) (sRet (mOp oAddA (mVar 5) (mTup (mCons (mTup (mCons (mC (.str "beat")) (mCons (mVar 3) mNil))) mNil)))) sNext)
  (sRet (mIfE (mB (mOp oEqA (mCallD (curD1 dr) (mCons (mVar 0) (mCons (mC (.int 2)) mNil))) (mC (.int 0)))) (mVar 5) (mOp oAddA (mVar 5) (mTup (mCons (mTup (mCons (mC (.str "times")) (mCons (mC (.int 0)) (mCons (mVar 4) mNil)))) (mCons (mTup (mCons (mC (.str "times")) (mCons (mC (.int 1000)) (mCons (mTup mNil) mNil)))) mNil))))))))))
def m_law_near_1761 (dr : Dk → PyData → RV (PyData × Dk)) (k : Dk) (a0 : PyData) : RV (PyData × Dk) := runD 6 (b_law_near_1761 dr) k [a0]
def b_law_beat_e414 : M FL.Flow := (sSeq (sAsg (mCall (cur1 ML.m_law_spots_91d2) (mCons (mOp oIx (mVar 0) (mC (.int 0))) mNil)) (gName 2))
  (sSeq (sAsg (mFT (mCa oDictT (mCons (mFT (mLcF (iEnu (mCons (mVar 2) mNil)) (gSeq 2 (gCons (gName 11) (gCons (gName 9) gNil))) mYes (mTup (mCons (mVar 9) (mCons (mVar 11) mNil))) [11, 9])) mNil))) (gName 3))
  (sSeq (sAsg mNewT (gName 4))
  (sSeq (sFor (iA (mVar 1)) (gName 5) (sSeq (sAsg (mOp oIx (mOp oIx (mVar 0) (mC (.int 1))) (mVar 5)) (gSeq 2 (gCons (gName 6) (gCons (gName 7) gNil))))
  (sSeq (mPutK (mVar 4) (mVar 6) (mVar 7))
  (mPutK (mVar 4) (mVar 7) (mVar 6)))))
  (sSeq (sAsg (mLst mNil) (gName 8))
  (sSeq (sFor (iA (mVar 2)) (gName 9) (sSeq (sAsg (mCall (cur3 ML.m_law_behind_1f8d) (mCons (mVar 0) (mCons (mVar 9) (mCons (mC (.int 1)) mNil)))) (gName 10))
  (sExp (mBM "list" rApp (mVar 8) (mCons (mOp oDG (mVar 3) (mGet2 (mVar 4) (mVar 10) (mVar 10))) mNil)))))
  (sRet (mCa oTuple (mCons (mVar 8) mNil)))))))))
def m_law_beat_e414 (a0 : PyData) (a1 : PyData) : RV PyData := runP 12 (b_law_beat_e414) [a0, a1]
def b_law_then_91b8 : M FL.Flow := (sRet (mCa oTuple (mCons (mFT (mLcF (iA (mVar 0)) (gName 2) mYes (mOp oIx (mVar 1) (mVar 2)) [2])) mNil)))
def m_law_then_91b8 (a0 : PyData) (a1 : PyData) : RV PyData := runP 3 (b_law_then_91b8) [a0, a1]
def b_law_many_b009 : M FL.Flow := (sSeq (sPar 3 4 (mCons (mUn oTrg (mVar 2)) (mCons (mVar 0) mNil)))
  (sSeq (sFor (iR1 (mCons (mC (.int 140)) mNil)) (gName 5) (sSeq (sIf (mB (mOp oEqA (mVar 1) (mC (.int 0)))) sBrk sNext)
  (sSeq (sIf (mB (mOp oEqA (mOp oMod (mCa oInt (mCons (mVar 1) mNil)) (mC (.int 2))) (mC (.int 1)))) (sAsg (mCall (cur2 ML.m_law_then_91b8) (mCons (mVar 3) (mCons (mVar 4) mNil))) (gName 3)) sNext)
  (sPar 1 4 (mCons (mOp oDivW (mVar 1) (mC (.int 2))) (mCons (mCall (cur2 ML.m_law_then_91b8) (mCons (mVar 4) (mCons (mVar 4) mNil))) mNil))))))
  (sRet (mVar 3))))
def m_law_many_b009 (a0 : PyData) (a1 : PyData) (a2 : PyData) : RV PyData := runP 6 (b_law_many_b009) [a0, a1, a2]
def b_law_map_e0e2 (r_law_map : PyData → PyData → RV PyData) : M FL.Flow := (sSeq (sAsg (mCa oSumA (mCons (mOp oIx (mVar 0) (mC (.int 0))) mNil)) (gName 2))
  (sSeq (sAsg (mUn oTrg (mVar 2)) (gName 3))
  (sSeq (sFor (iA (mVar 1)) (gName 4) (sIf (mB (mOp oEqA (mOp oIx (mVar 4) (mC (.int 0))) (mC (.str "beat")))) (sAsg (mCall (cur2 ML.m_law_then_91b8) (mCons (mVar 3) (mCons (mCall (cur2 ML.m_law_beat_e414) (mCons (mVar 0) (mCons (mOp oIx (mVar 4) (mC (.int 1))) mNil))) mNil))) (gName 3)) (sAsg (mCall (cur2 ML.m_law_then_91b8) (mCons (mVar 3) (mCons (mCall (cur3 ML.m_law_many_b009) (mCons (mCall (cur2 r_law_map) (mCons (mVar 0) (mCons (mOp oIx (mVar 4) (mC (.int 2))) mNil))) (mCons (mOp oIx (mVar 4) (mC (.int 1))) (mCons (mVar 2) mNil)))) mNil))) (gName 3))))
  (sRet (mVar 3)))))
def m_law_map_e0e2 : Nat → PyData → PyData → RV PyData
  | 0, _, _ => .bad
  | fu + 1, a0, a1 => runP 5 (b_law_map_e0e2 (m_law_map_e0e2 fu)) [a0, a1]
def b_law_first_c7f1 (r_law_first : PyData → PyData → PyData → PyData → RV PyData) : M FL.Flow := (sSeq (sAsg (mUn oTrg (mVar 3)) (gName 4))
  (sSeq (sFor (iA (mVar 1)) (gName 5) (sSeq (sIf (mB (mOp oEqA (mVar 2) (mC (.int 0)))) (sRet (mVar 4)) sNext)
  (sIf (mB (mOp oEqA (mOp oIx (mVar 5) (mC (.int 0))) (mC (.str "beat")))) (sPar 4 2 (mCons (mCall (cur2 ML.m_law_then_91b8) (mCons (mVar 4) (mCons (mCall (cur2 ML.m_law_beat_e414) (mCons (mVar 0) (mCons (mOp oIx (mVar 5) (mC (.int 1))) mNil))) mNil))) (mCons (mOp oSub (mVar 2) (mC (.int 1))) mNil))) (sSeq (sAsg (mCall (cur1 (ML.m_law_length_fdd5 40)) (mCons (mOp oIx (mVar 5) (mC (.int 2))) mNil)) (gName 6))
  (sSeq (sAsg (mIfE (mB (mOp oEqA (mVar 6) (mC (.int 0)))) (mOp oIx (mVar 5) (mC (.int 1))) (mCa oMin (mCons (mOp oIx (mVar 5) (mC (.int 1))) (mCons (mOp oDivW (mVar 2) (mVar 6)) mNil)))) (gName 7))
  (sSeq (sAsg (mCall (cur2 ML.m_law_then_91b8) (mCons (mVar 4) (mCons (mCall (cur3 ML.m_law_many_b009) (mCons (mCall (cur2 (ML.m_law_map_e0e2 40)) (mCons (mVar 0) (mCons (mOp oIx (mVar 5) (mC (.int 2))) mNil))) (mCons (mVar 7) (mCons (mVar 3) mNil)))) mNil))) (gName 4))
  (sSeq (sAsg (mOp oSub (mVar 2) (mOp oMulA (mVar 7) (mVar 6))) (gName 2))
  (sIf (mAndT (mB (mOp oLtA (mVar 7) (mOp oIx (mVar 5) (mC (.int 1))))) (mB (mOp oGt (mVar 6) (mC (.int 0))))) (sRet (mCall (cur2 ML.m_law_then_91b8) (mCons (mVar 4) (mCons (mCall (cur4 r_law_first) (mCons (mVar 0) (mCons (mOp oIx (mVar 5) (mC (.int 2))) (mCons (mVar 2) (mCons (mVar 3) mNil))))) mNil)))) sNext))))))))
  (sRet (mVar 4))))
def m_law_first_c7f1 : Nat → PyData → PyData → PyData → PyData → RV PyData
  | 0, _, _, _, _ => .bad
  | fu + 1, a0, a1, a2, a3 => runP 8 (b_law_first_c7f1 (m_law_first_c7f1 fu)) [a0, a1, a2, a3]
def b_law_order_of_4397 : M FL.Flow := (sSeq (sPar 1 2 (mCons (mC (.int 1)) (mCons mNewT mNil)))
  (sSeq (sFor (iR1 (mCons (mCa oLen (mCons (mVar 0) mNil)) mNil)) (gName 3) (sSeq (sPar 4 5 (mCons (mC (.int 0)) (mCons (mVar 3) mNil)))
  (sSeq (sFor (iR1 (mCons (mCa oLen (mCons (mVar 0) mNil)) mNil)) (gName 6) (sSeq (sIf (mB (mOp oDIn (mVar 5) (mVar 2))) sBrk sNext)
  (sSeq (mPutK (mVar 2) (mVar 5) (mC (.bool true)))
  (sPar 5 4 (mCons (mOp oIx (mVar 0) (mVar 5)) (mCons (mOp oAddA (mVar 4) (mC (.int 1))) mNil))))))
  (sIf (mB (mOp oGt (mVar 4) (mC (.int 0)))) (sSeq (sPar 7 8 (mCons (mVar 1) (mCons (mVar 4) mNil)))
  (sSeq (sFor (iR1 (mCons (mC (.int 100)) mNil)) (gName 6) (sSeq (sIf (mB (mOp oEqA (mVar 8) (mC (.int 0)))) sBrk sNext)
  (sPar 7 8 (mCons (mVar 8) (mCons (mOp oMod (mCa oInt (mCons (mVar 7) mNil)) (mVar 8)) mNil)))))
  (sAsg (mOp oDivW (mOp oMulA (mVar 1) (mVar 4)) (mVar 7)) (gName 1)))) sNext))))
  (sRet (mVar 1))))
def m_law_order_of_4397 (a0 : PyData) : RV PyData := runP 9 (b_law_order_of_4397) [a0]
def b_law_is_led_right_a905 (dr : Dk → PyData → RV (PyData × Dk)) : M FL.Flow := (sSeq (sAsg (mTup (mCons (mCa oSumA (mCons (mOp oIx (mVar 1) (mC (.int 0))) mNil)) (mCons (mCall (cur2 (ML.m_law_map_e0e2 40)) (mCons (mVar 1) (mCons (mVar 2) mNil))) mNil))) (gSeq 2 (gCons (gName 3) (gCons (gName 4) gNil))))
  (sSeq (sIf (mB (mOp oNeA (mCa oRepr (mCons (mTup (mCons (mCall (cur2 MP.m_plan_map) (mCons (mVar 1) (mCons (mVar 2) mNil))) (mCons (mCall (cur2 MP.m_beats_of) (mCons (mVar 1) (mCons (mVar 2) mNil))) mNil))) mNil)) (mCa oRepr (mCons (mTup (mCons (mVar 4) (mCons (mCall (cur1 (ML.m_law_length_fdd5 40)) (mCons (mVar 2) mNil)) mNil))) mNil)))) (sRet (mC (.bool false))) sNext)
  (sSeq (sAsg (mCallD (curD1 (ML.m_law_order_0df0 dr)) (mCons (mVar 0) (mCons (mVar 3) mNil))) (gName 5))
  (sSeq (sAsg (mCa oTuple (mCons (mFT (mLcF (iR1 (mCons (mVar 3) mNil)) (gName 10) mYes (mOp oIx (mVar 5) (mBM "list" rIdx (mVar 4) (mCons (mVar 10) mNil))) [10])) mNil)) (gName 6))
  (sSeq (sIf (mB (mOp oNeA (mCa oRepr (mCons (mTup (mCons (mCall (cur3 MP.m_after) (mCons (mVar 1) (mCons (mVar 5) (mCons (mVar 2) mNil)))) (mCons (mCall (cur3 MP.m_before) (mCons (mVar 1) (mCons (mVar 6) (mCons (mVar 2) mNil)))) mNil))) mNil)) (mCa oRepr (mCons (mTup (mCons (mVar 6) (mCons (mVar 5) mNil))) mNil)))) (sRet (mC (.bool false))) sNext)
  (sSeq (sPar 7 8 (mCons (mCall (cur1 ML.m_law_order_of_4397) (mCons (mVar 4) mNil)) (mCons (mCallD (curD1 dr) (mCons (mVar 0) (mCons (mC (.int 9)) mNil))) mNil)))
  (sSeq (sIf (mB (mOp oNeA (mCa oRepr (mCons (mTup (mCons (mCall (cur2 MP.m_plan_map) (mCons (mVar 1) (mCons (mTup (mCons (mTup (mCons (mC (.str "times")) (mCons (mVar 7) (mCons (mVar 2) mNil)))) mNil)) mNil))) (mCons (mCall (cur2 MP.m_plan_map) (mCons (mVar 1) (mCons (mTup (mCons (mTup (mCons (mC (.str "times")) (mCons (mOp oAddA (mVar 7) (mC (.int 1))) (mCons (mVar 2) mNil)))) mNil)) mNil))) mNil))) mNil)) (mCa oRepr (mCons (mTup (mCons (mCall (cur1 MP.m_home) (mCons (mVar 1) mNil)) (mCons (mVar 4) mNil))) mNil)))) (sRet (mC (.bool false))) sNext)
  (sSeq (sAsg (mCall (cur2 MP.m_plan_map) (mCons (mVar 1) (mCons (mTup (mCons (mTup (mCons (mC (.str "times")) (mCons (mVar 8) (mCons (mVar 2) mNil)))) (mCons (mTup (mCons (mC (.str "times")) (mCons (mOp oPow (mC (.int 10)) (mC (.int 6))) (mCons (mVar 2) mNil)))) mNil))) mNil))) (gName 9))
  (sSeq (sIf (mB (mOp oNeA (mCa oRepr (mCons (mVar 9) mNil)) (mCa oRepr (mCons (mCall (cur2 MP.m_plan_map) (mCons (mVar 1) (mCons (mTup (mCons (mTup (mCons (mC (.str "times")) (mCons (mOp oAddA (mVar 8) (mOp oPow (mC (.int 10)) (mC (.int 6)))) (mCons (mVar 2) mNil)))) mNil)) mNil))) mNil)))) (sRet (mC (.bool false))) sNext)
  (sRet (mOp oEqA (mCa oRepr (mCons (mCall (cur2 MP.m_plan_map) (mCons (mVar 1) (mCons (mTup (mCons (mTup (mCons (mC (.str "times")) (mCons (mVar 8) (mCons (mTup (mCons (mTup (mCons (mC (.str "times")) (mCons (mC (.int 1001)) (mCons (mVar 2) mNil)))) mNil)) mNil)))) mNil)) mNil))) mNil)) (mCa oRepr (mCons (mCall (cur3 ML.m_law_many_b009) (mCons (mVar 4) (mCons (mOp oMulA (mVar 8) (mC (.int 1001))) (mCons (mVar 3) mNil)))) mNil)))))))))))))
def m_law_is_led_right_a905 (dr : Dk → PyData → RV (PyData × Dk)) (k : Dk) (a0 : PyData) (a1 : PyData) : RV (PyData × Dk) := runD 11 (b_law_is_led_right_a905 dr) k [a0, a1]
def b_law_do_stand_63e8 (dr : Dk → PyData → RV (PyData × Dk)) : M FL.Flow := (sSeq (sAsg (mTup (mCons (mCall (cur1 ML.m_law_spots_91d2) (mCons (mOp oIx (mVar 1) (mC (.int 0))) mNil)) (mCons (mCa oSumA (mCons (mOp oIx (mVar 1) (mC (.int 0))) mNil)) (mCons (mCall (cur1 (ML.m_law_length_fdd5 40)) (mCons (mVar 2) mNil)) mNil)))) (gSeq 3 (gCons (gName 3) (gCons (gName 4) (gCons (gName 5) gNil)))))
  (sSeq (sAsg (mCallD (curD1 (ML.m_law_pick_0769 dr)) (mCons (mVar 0) (mCons (mVar 3) mNil))) (gName 6))
  (sSeq (sAsg (mLst (mCons (mC (.int 0)) (mCons (mVar 5) (mCons (mOp oDivW (mVar 5) (mC (.int 2))) (mCons (mCa oMax (mCons (mC (.int 0)) (mCons (mOp oSub (mVar 5) (mC (.int 1))) mNil))) (mCons (mCa oMin (mCons (mVar 5) (mCons (mC (.int 1)) mNil))) (mCons (mCa oMin (mCons (mVar 5) (mCons (mCall (cur1 (ML.m_law_length_fdd5 40)) (mCons (mFT (mSl (mVar 2) mNoP (mPart (mC (.int 1))))) mNil)) mNil))) mNil))))))) (gName 7))
  (sSeq (sFor (iR1 (mCons (mC (.int 4)) mNil)) (gName 8) (sExp (mBM "list" rApp (mVar 7) (mCons (mOp oMod (mCa oInt (mCons (mOp oAddA (mOp oMulA (mOp oMulA (mCallD (curD1 dr) (mCons (mVar 0) (mCons (mOp oPow (mC (.int 10)) (mC (.int 9))) mNil))) (mOp oAddA (mOp oPow (mC (.int 10)) (mC (.int 9))) (mC (.int 7)))) (mOp oAddA (mOp oPow (mC (.int 10)) (mC (.int 18))) (mC (.int 9)))) (mCallD (curD1 dr) (mCons (mVar 0) (mCons (mOp oPow (mC (.int 10)) (mC (.int 9))) mNil)))) mNil)) (mOp oAddA (mVar 5) (mC (.int 1)))) mNil))))
  (sSeq (sFor (iA (mFrz (mVar 7))) (gName 9) (sSeq (sAsg (mOp oIx (mVar 3) (mOp oIx (mCall (cur4 (ML.m_law_first_c7f1 40)) (mCons (mVar 1) (mCons (mVar 2) (mCons (mVar 9) (mCons (mVar 4) mNil))))) (mBM "list" rIdx (mVar 3) (mCons (mVar 6) mNil)))) (gName 10))
  (sSeq (sIf (mB (mOp oNeA (mCa oRepr (mCons (mTup (mCons (mCall (cur4 MP.m_stands_at) (mCons (mVar 1) (mCons (mVar 2) (mCons (mVar 6) (mCons (mVar 9) mNil))))) (mCons (mCallK [3, 2, 1, 0] (cur4 MP.m_stands_at) (mCons (mVar 9) (mCons (mVar 6) (mCons (mVar 2) (mCons (mVar 1) mNil))))) mNil))) mNil)) (mCa oRepr (mCons (mTup (mCons (mVar 10) (mCons (mVar 10) mNil))) mNil)))) (sRet (mC (.bool false))) sNext)
  (sIf (mB (mOp oLtA (mVar 9) (mVar 5))) (sSeq (sAsg (mCall (cur3 MP.m_behind) (mCons (mVar 1) (mCons (mVar 10) (mCons (mC (.int 1)) mNil)))) (gName 11))
  (sIf (mB (mOp oNotInS (mCall (cur4 MP.m_stands_at) (mCons (mVar 1) (mCons (mVar 2) (mCons (mVar 6) (mCons (mOp oAddA (mVar 9) (mC (.int 1))) mNil))))) (mTup (mCons (mVar 11) (mCons (mCall (cur2 MP.m_partner) (mCons (mVar 1) (mCons (mVar 11) mNil))) mNil))))) (sRet (mC (.bool false))) sNext)) sNext))))
  (sSeq (sAsg (mCall (cur4 MP.m_stands_at) (mCons (mVar 1) (mCons (mVar 2) (mCons (mVar 6) (mCons (mVar 5) mNil))))) (gName 12))
  (sRet (mAnd (mOp oEqA (mCall (cur2 MP.m_seat) (mCons (mVar 1) (mCons (mVar 12) mNil))) (mOp oIx (mCall (cur2 MP.m_plan_map) (mCons (mVar 1) (mCons (mVar 2) mNil))) (mCall (cur2 MP.m_seat) (mCons (mVar 1) (mCons (mVar 6) mNil))))) (mOp oInS (mVar 12) (mCall (cur1 MP.m_places) (mCons (mVar 1) mNil)))))))))))
def m_law_do_stand_63e8 (dr : Dk → PyData → RV (PyData × Dk)) (k : Dk) (a0 : PyData) (a1 : PyData) : RV (PyData × Dk) := runD 13 (b_law_do_stand_63e8 dr) k [a0, a1]
def b_law_deck_812d (c0 c1 : Int) : M FL.Flow := (sSeq (sAsg (mC (.int c0)) (gName 1))
  (sSeq (sFor (iA (mFT (mSl (mVar 0) mNoP (mPart (mC (.int 63)))))) (gName 2) (sAsg (mOp oMod (mCa oInt (mCons (mOp oAddA (mOp oAddA (mOp oMulA (mVar 1) (mC (.int 48271))) (mOp oMod (mCa oInt (mCons (mVar 2) mNil)) (mC (.int 2147483629)))) (mC (.int c1))) mNil)) (mC (.int 2147483587))) (gName 1)))
  (sRet (mDisp ["cells", "mixed", "draws"] (mCons (mUn oRevA (mFT (mCa oList (mCons (mFT (mSl (mVar 0) mNoP (mPart (mC (.int 63))))) mNil)))) (mCons (mVar 1) (mCons (mC (.int 0)) mNil)))))))
def m_law_deck_812d (c0 c1 : Int) (a0 : PyData) : RV Dk := runK 3 (b_law_deck_812d c0 c1) [a0]
def b_law_draw_e9a0 (c1 c2 : Int) : M FL.Flow := (sSeq (mPutK (mVar 0) (mC (.str "draws")) (mOp oAddA (mOp oDG (mVar 0) (mC (.str "draws"))) (mC (.int 1))))
  (sSeq (sAsg (mOp oAddA (mOp oDG (mVar 0) (mC (.str "mixed"))) (mOp oMulA (mC (.int 61473)) (mOp oDG (mVar 0) (mC (.str "draws"))))) (gName 2))
  (sSeq (sIf (mB (mOp oNeA (mOp oDG (mVar 0) (mC (.str "cells"))) (mFT (mLst mNil)))) (sSeq (sAsg (mBM0 "list" rPop' (mOp oDG (mVar 0) (mC (.str "cells")))) (gName 3))
  (sSeq (sIf (mB (mOp oGe (mVar 3) (mOp oPow (mC (.int 10)) (mC (.int 18))))) (sSeq (sExp (mBM "list" rApp (mOp oDG (mVar 0) (mC (.str "cells"))) (mCons (mOp oDivW (mVar 3) (mCa oMax (mCons (mC (.int 2)) (mCons (mVar 1) mNil)))) mNil)))
  (sRet (mOp oMod (mCa oInt (mCons (mVar 3) mNil)) (mVar 1)))) sNext)
  (sAsg (mOp oAddA (mVar 2) (mOp oMod (mCa oInt (mCons (mVar 3) mNil)) (mC (.int 2147483629)))) (gName 2)))) sNext)
  (sSeq (sAsg (mOp oMod (mCa oInt (mCons (mOp oAddA (mOp oMulA (mVar 2) (mC (.int 39373))) (mC (.int c1))) mNil)) (mC (.int 2147483647))) (gName 2))
  (sSeq (sAsg (mOp oMod (mCa oInt (mCons (mOp oAddA (mOp oAddA (mOp oMulA (mVar 2) (mVar 2)) (mOp oMulA (mC (.int 52713)) (mOp oDG (mVar 0) (mC (.str "draws"))))) (mC (.int c2))) mNil)) (mC (.int 2147483587))) (gName 2))
  (sSeq (sAsg (mOp oMod (mCa oInt (mCons (mOp oMulA (mVar 2) (mC (.int 40692))) mNil)) (mC (.int 2147483563))) (gName 2))
  (sRet (mOp oMod (mCa oInt (mCons (mOp oDivW (mVar 2) (mC (.int 64))) mNil)) (mVar 1)))))))))
def m_law_draw_e9a0 (c1 c2 : Int) (k : Dk) (a0 : PyData) : RV (PyData × Dk) := runD 4 (b_law_draw_e9a0 c1 c2) k [a0]
def b_law_places_91d2 : M FL.Flow := (sSeq (sAsg (mLst mNil) (gName 1))
  (sSeq (sFor (iEnu (mCons (mVar 0) mNil)) (gSeq 2 (gCons (gName 2) (gCons (gName 3) gNil))) (sTrim (sExp (mBM "list" rExtA (mVar 1) (mCons (mLcF (iR1 (mCons (mVar 3) mNil)) (gName 4) mYes (mTup (mCons (mVar 2) (mCons (mVar 4) mNil))) [4]) mNil)))))
  (sRet (mFrz (mVar 1)))))
def m_law_places_91d2 (a0 : PyData) : RV PyData := runP 5 (b_law_places_91d2) [a0]
def b_law_rings_8203 (dr : Dk → PyData → RV (PyData × Dk)) : M FL.Flow := (sSeq (sAsg (mCallD (curD1 dr) (mCons (mVar 0) (mCons (mC (.int 12)) mNil))) (gName 1))
  (sSeq (sIf (mB (mOp oEqA (mVar 1) (mC (.int 0)))) (sRet (mTup (mCons (mOp oAddA (mC (.int 1)) (mCallD (curD1 dr) (mCons (mVar 0) (mCons (mC (.int 7)) mNil)))) mNil))) sNext)
  (sSeq (sIf (mB (mOp oEqA (mVar 1) (mC (.int 1)))) (sRet (mCa oTuple (mCons (mFT (mLcF (iR1 (mCons (mC (.int 4)) mNil)) (gName 2) mYes (mOp oAddA (mC (.int 1)) (mCallD (curD1 dr) (mCons (mVar 0) (mCons (mC (.int 4)) mNil)))) [2])) mNil))) sNext)
  (sSeq (sIf (mB (mOp oEqA (mVar 1) (mC (.int 2)))) (sRet (mTup (mCons (mOp oAddA (mC (.int 4)) (mCallD (curD1 dr) (mCons (mVar 0) (mCons (mC (.int 5)) mNil)))) (mCons (mOp oAddA (mC (.int 2)) (mCallD (curD1 dr) (mCons (mVar 0) (mCons (mC (.int 5)) mNil)))) mNil)))) sNext)
  (sRet (mCa oTuple (mCons (mFT (mLcF (iR1 (mCons (mOp oAddA (mC (.int 2)) (mCallD (curD1 dr) (mCons (mVar 0) (mCons (mC (.int 2)) mNil)))) mNil)) (gName 2) mYes (mOp oAddA (mC (.int 1)) (mCallD (curD1 dr) (mCons (mVar 0) (mCons (mCallD (curD1 (ML.m_law_pick_0769 dr)) (mCons (mVar 0) (mCons (mFT (mLst (mCons (mC (.int 5)) (mCons (mC (.int 4)) (mCons (mC (.int 3)) mNil))))) mNil))) mNil)))) [2])) mNil)))))))
def m_law_rings_8203 (dr : Dk → PyData → RV (PyData × Dk)) (k : Dk) : RV (PyData × Dk) := runD 3 (b_law_rings_8203 dr) k []
def b_law_floor_b575 (dr : Dk → PyData → RV (PyData × Dk)) : M FL.Flow := (sSeq (sAsg (mCallD (curD0 (ML.m_law_rings_8203 dr)) (mCons (mVar 0) mNil)) (gName 1))
  (sSeq (sPar 2 3 (mCons (mCall (cur1 ML.m_law_places_91d2) (mCons (mVar 1) mNil)) (mCons (mLst mNil) mNil)))
  (sSeq (sIf (mB (mOp oGt (mCallD (curD1 dr) (mCons (mVar 0) (mCons (mC (.int 3)) mNil))) (mC (.int 0)))) (sFor (iR2 (mCons (mC (.int 1)) (mCons (mCa oLen (mCons (mVar 1) mNil)) mNil))) (gName 4) (sSeq (sAsgFT (mLcF (iA (mFrz (mVar 2))) (gName 11) (mB (mOp oLtA (mOp oIx (mVar 11) (mC (.int 0))) (mVar 4))) (mVar 11) [11]) 5)
  (sSeq (sAsgFT (mLcF (iA (mFrz (mVar 2))) (gName 11) (mB (mOp oEqA (mOp oIx (mVar 11) (mC (.int 0))) (mVar 4))) (mVar 11) [11]) 6)
  (sIf (mAndT (mB (mOp oNeA (mVar 5) (mFT (mLst mNil)))) (mB (mOp oNeA (mVar 6) (mFT (mLst mNil))))) (sSeq (sAsg (mTup (mCons (mCallD (curD1 (ML.m_law_pick_0769 dr)) (mCons (mVar 0) (mCons (mVar 5) mNil))) (mCons (mCallD (curD1 (ML.m_law_pick_0769 dr)) (mCons (mVar 0) (mCons (mVar 6) mNil))) mNil))) (gName 7))
  (sSeq (sExp (mBM "list" rApp (mVar 3) (mCons (mVar 7) mNil)))
  (sAsg (mLcF (iA (mFrz (mVar 2))) (gName 11) (mB (mOp oNotInS (mVar 11) (mVar 7))) (mVar 11) [11]) (gName 2)))) sNext)))) sNext)
  (sSeq (sFor (iR1 (mCons (mCallD (curD1 dr) (mCons (mVar 0) (mCons (mC (.int 3)) mNil))) mNil)) (gName 8) (sIf (mB (mOp oGt (mCa oLen (mCons (mVar 2) mNil)) (mC (.int 1)))) (sSeq (sAsg (mBM "list" rPopAt' (mVar 2) (mCons (mCallD (curD1 dr) (mCons (mVar 0) (mCons (mCa oLen (mCons (mVar 2) mNil)) mNil))) mNil)) (gName 9))
  (sSeq (sAsg (mBM "list" rPopAt' (mVar 2) (mCons (mCallD (curD1 dr) (mCons (mVar 0) (mCons (mCa oLen (mCons (mVar 2) mNil)) mNil))) mNil)) (gName 10))
  (sExp (mBM "list" rApp (mVar 3) (mCons (mTup (mCons (mCa oMin (mCons (mVar 9) (mCons (mVar 10) mNil))) (mCons (mCa oMax (mCons (mVar 9) (mCons (mVar 10) mNil))) mNil))) mNil))))) sNext))
  (sRet (mTup (mCons (mVar 1) (mCons (mCa oTuple (mCons (mFT (mCa oSorted (mCons (mVar 3) mNil))) mNil)) mNil))))))))
def m_law_floor_b575 (dr : Dk → PyData → RV (PyData × Dk)) (k : Dk) : RV (PyData × Dk) := runD 12 (b_law_floor_b575 dr) k []
def b_law_seats_066f : M FL.Flow := (sRet (mFT (mCa oDictT (mCons (mFT (mLcF (iEnu (mCons (mCall (cur1 ML.m_law_places_91d2) (mCons (mOp oIx (mVar 0) (mC (.int 0))) mNil)) mNil)) (gSeq 2 (gCons (gName 1) (gCons (gName 2) gNil))) mYes (mTup (mCons (mVar 2) (mCons (mVar 1) mNil))) [1, 2])) mNil))))
def m_law_seats_066f (a0 : PyData) : RV PyData := runP 3 (b_law_seats_066f) [a0]
def b_law_on_8916 : M FL.Flow := (sRet (mTup (mCons (mOp oIx (mVar 1) (mC (.int 0))) (mCons (mOp oMod (mCa oInt (mCons (mOp oAddA (mOp oIx (mVar 1) (mC (.int 1))) (mVar 2)) mNil)) (mOp oIx (mVar 0) (mOp oIx (mVar 1) (mC (.int 0))))) mNil))))
def m_law_on_8916 (a0 : PyData) (a1 : PyData) (a2 : PyData) : RV PyData := runP 3 (b_law_on_8916) [a0, a1, a2]
def b_law_divisor_9f46 : M FL.Flow := (sSeq (sPar 0 1 (mCons (mCa oAbs (mCons (mVar 0) mNil)) (mCons (mCa oAbs (mCons (mVar 1) mNil)) mNil)))
  (sSeq (whGo (mB (mOp oNeA (mVar 1) (mC (.int 0)))) (sPar 0 1 (mCons (mVar 1) (mCons (mOp oMod (mCa oInt (mCons (mVar 0) mNil)) (mVar 1)) mNil))) 100000)
  (sRet (mVar 0))))
def m_law_divisor_9f46 (a0 : PyData) (a1 : PyData) : RV PyData := runP 2 (b_law_divisor_9f46) [a0, a1]
def b_law_plan_2d54 (dr : Dk → PyData → RV (PyData × Dk)) (r_law_plan : Dk → PyData → PyData → RV (PyData × Dk)) : M FL.Flow := (sSeq (sAsg (mLst mNil) (gName 3))
  (sSeq (sFor (iR1 (mCons (mCallD (curD1 dr) (mCons (mVar 0) (mCons (mC (.int 4)) mNil))) mNil)) (gName 4) (sIf (mOrT (mB (mOp oEqA (mVar 2) (mC (.int 0)))) (mB (mOp oGt (mCallD (curD1 dr) (mCons (mVar 0) (mCons (mC (.int 3)) mNil))) (mC (.int 0))))) (sExp (mBM "list" rApp (mVar 3) (mCons (mTup (mCons (mC (.str "beat")) (mCons (mCallD (curD1 (ML.m_law_call_bab5 dr)) (mCons (mVar 0) (mCons (mVar 1) mNil))) mNil))) mNil))) (sSeq (sAsg (mCallD (curD1 (ML.m_law_pick_0769 dr)) (mCons (mVar 0) (mCons (mFT (mLst (mCons (mC (.int 0)) (mCons (mC (.int 1)) (mCons (mC (.int 2)) (mCons (mC (.int 3)) (mCons (mC (.int 2)) (mCons (mC (.int 7)) (mCons (mCallD (curD1 dr) (mCons (mVar 0) (mCons (mC (.int 1000)) mNil))) mNil))))))))) mNil))) (gName 5))
  (sExp (mBM "list" rApp (mVar 3) (mCons (mTup (mCons (mC (.str "times")) (mCons (mVar 5) (mCons (mCallD (curD2 r_law_plan) (mCons (mVar 0) (mCons (mVar 1) (mCons (mOp oSub (mVar 2) (mC (.int 1))) mNil)))) mNil)))) mNil))))))
  (sRet (mCa oTuple (mCons (mVar 3) mNil)))))
def m_law_plan_2d54 (dr : Dk → PyData → RV (PyData × Dk)) : Nat → Dk → PyData → PyData → RV (PyData × Dk)
  | 0, _, _, _ => .bad
  | fu + 1, k, a0, a1 => runD 6 (b_law_plan_2d54 dr (m_law_plan_2d54 dr fu)) k [a0, a1]
def b_law_beat_a0d8 : M FL.Flow := (sSeq (sPar 2 3 (mCons (mCall (cur1 ML.m_law_seats_066f) (mCons (mVar 0) mNil)) (mCons mNewT mNil)))
  (sSeq (sFor (iA (mVar 1)) (gName 4) (sSeq (sAsg (mOp oIx (mOp oIx (mVar 0) (mC (.int 1))) (mVar 4)) (gSeq 2 (gCons (gName 5) (gCons (gName 6) gNil))))
  (sSeq (mPutK (mVar 3) (mVar 5) (mVar 6))
  (mPutK (mVar 3) (mVar 6) (mVar 5)))))
  (sSeq (sAsg (mLst mNil) (gName 7))
  (sSeq (sFor (iA (mCall (cur1 ML.m_law_places_91d2) (mCons (mOp oIx (mVar 0) (mC (.int 0))) mNil))) (gName 8) (sSeq (sAsg (mCall (cur3 ML.m_law_on_8916) (mCons (mOp oIx (mVar 0) (mC (.int 0))) (mCons (mVar 8) (mCons (mC (.int 1)) mNil)))) (gName 9))
  (sExp (mBM "list" rApp (mVar 7) (mCons (mOp oIx (mVar 2) (mGet2 (mVar 3) (mVar 9) (mVar 9))) mNil)))))
  (sRet (mFrz (mVar 7)))))))
def m_law_beat_a0d8 (a0 : PyData) (a1 : PyData) : RV PyData := runP 10 (b_law_beat_a0d8) [a0, a1]
def b_law_again_9460 : M FL.Flow := (sSeq (sAsg (mFT (mUn oLrg (mCa oLen (mCons (mVar 0) mNil)))) (gName 2))
  (sSeq (sFor (iR1 (mCons (mC (.int 400)) mNil)) (gName 3) (sSeq (sIf (mB (mOp oEqA (mVar 1) (mC (.int 0)))) sBrk sNext)
  (sSeq (sIf (mB (mOp oEqA (mOp oBand (mVar 1) (mC (.int 1))) (mC (.int 1)))) (sAsgFT (mLcF (iA (mVar 2)) (gName 4) mYes (mOp oIx (mVar 0) (mVar 4)) [4]) 2) sNext)
  (sAsg (mTup (mCons (mFT (mLcF (iA (mVar 0)) (gName 4) mYes (mOp oIx (mVar 0) (mVar 4)) [4])) (mCons (mOp oDivW (mVar 1) (mC (.int 2))) mNil))) (gSeq 2 (gCons (gName 0) (gCons (gName 1) gNil)))))))
  (sRet (mVar 2))))
def m_law_again_9460 (a0 : PyData) (a1 : PyData) : RV PyData := runP 5 (b_law_again_9460) [a0, a1]
def b_law_map_4b15 (r_law_map : PyData → PyData → RV PyData) : M FL.Flow := (sSeq (sAsg (mFT (mUn oLrg (mCa oSumA (mCons (mOp oIx (mVar 0) (mC (.int 0))) mNil)))) (gName 2))
  (sSeq (sFor (iA (mVar 1)) (gName 3) (sSeq (sAsg (mIfE (mB (mOp oEqA (mOp oIx (mVar 3) (mC (.int 0))) (mC (.str "beat")))) (mCall (cur2 ML.m_law_beat_a0d8) (mCons (mVar 0) (mCons (mOp oIx (mVar 3) (mC (.int 1))) mNil))) (mCall (cur2 ML.m_law_again_9460) (mCons (mCall (cur2 r_law_map) (mCons (mVar 0) (mCons (mOp oIx (mVar 3) (mC (.int 2))) mNil))) (mCons (mOp oIx (mVar 3) (mC (.int 1))) mNil)))) (gName 4))
  (sAsgFT (mLcF (iA (mVar 2)) (gName 5) mYes (mOp oIx (mVar 4) (mVar 5)) [5]) 2)))
  (sRet (mVar 2))))
def m_law_map_4b15 : Nat → PyData → PyData → RV PyData
  | 0, _, _ => .bad
  | fu + 1, a0, a1 => runP 6 (b_law_map_4b15 (m_law_map_4b15 fu)) [a0, a1]
def b_law_order_f35e : M FL.Flow := (sSeq (sPar 1 2 (mCons (mC (.int 1)) (mCons mNewT mNil)))
  (sSeq (sFor (iR1 (mCons (mCa oLen (mCons (mVar 0) mNil)) mNil)) (gName 3) (sSeq (sPar 4 5 (mCons (mC (.int 0)) (mCons (mVar 3) mNil)))
  (sSeq (sFor (iR1 (mCons (mCa oLen (mCons (mVar 0) mNil)) mNil)) (gName 6) (sSeq (sIf (mB (mOp oDIn (mVar 5) (mVar 2))) sBrk sNext)
  (sSeq (mPutK (mVar 2) (mVar 5) (mC (.bool true)))
  (sPar 4 5 (mCons (mOp oAddA (mVar 4) (mC (.int 1))) (mCons (mOp oIx (mVar 0) (mVar 5)) mNil))))))
  (sIf (mB (mOp oGt (mVar 4) (mC (.int 0)))) (sAsg (mOp oDivW (mOp oMulA (mVar 1) (mVar 4)) (mCall (cur2 ML.m_law_divisor_9f46) (mCons (mVar 1) (mCons (mVar 4) mNil)))) (gName 1)) sNext))))
  (sRet (mVar 1))))
def m_law_order_f35e (a0 : PyData) : RV PyData := runP 7 (b_law_order_f35e) [a0]
def b_law_times_1fa2 : M FL.Flow := (sSeq (sPar 3 4 (mCons (mLst (mCons (mVar 1) mNil)) (mCons (mOp oIx (mVar 0) (mVar 1)) mNil)))
  (sSeq (sFor (iR1 (mCons (mCa oLen (mCons (mVar 0) mNil)) mNil)) (gName 5) (sSeq (sIf (mB (mOp oEqA (mVar 4) (mVar 1))) sBrk sNext)
  (sSeq (sExp (mBM "list" rApp (mVar 3) (mCons (mVar 4) mNil)))
  (sAsg (mOp oIx (mVar 0) (mVar 4)) (gName 4)))))
  (sRet (mIfE (mB (mOp oInS (mVar 2) (mVar 3))) (mTup (mCons (mBM "list" rIdx (mVar 3) (mCons (mVar 2) mNil)) (mCons (mCa oLen (mCons (mVar 3) mNil)) mNil))) (mC .none)))))
def m_law_times_1fa2 (a0 : PyData) (a1 : PyData) (a2 : PyData) : RV PyData := runP 6 (b_law_times_1fa2) [a0, a1, a2]
def b_law_does_stand_edc0 : M FL.Flow := (sSeq (sAsg (mCall (cur1 ML.m_law_places_91d2) (mCons (mOp oIx (mVar 0) (mC (.int 0))) mNil)) (gName 5))
  (sSeq (sAsg (mTup (mCons (mTup (mCons (mC (.str "times")) (mCons (mVar 4) (mCons (mVar 1) mNil)))) mNil)) (gName 6))
  (sSeq (sAsg (mCall (cur3 MP.m_after) (mCons (mVar 0) (mCons (mCall (cur1 MP.m_home) (mCons (mVar 0) mNil)) (mCons (mVar 6) mNil)))) (gName 7))
  (sSeq (sAsg (mCall (cur4 MP.m_stands_at) (mCons (mVar 0) (mCons (mVar 6) (mCons (mVar 2) (mCons (mCall (cur2 MP.m_beats_of) (mCons (mVar 0) (mCons (mVar 6) mNil))) mNil))))) (gName 8))
  (sSeq (sAsg (mOp oEqA (mOp oIx (mVar 7) (mBM "list" rIdx (mVar 5) (mCons (mVar 3) mNil))) (mBM "list" rIdx (mVar 5) (mCons (mVar 2) mNil))) (gName 9))
  (sRet (mIfE (mB (mOp oEqA (mOp oEqA (mVar 8) (mVar 3)) (mVar 9))) (mVar 9) (mC .none))))))))
def m_law_does_stand_edc0 (a0 : PyData) (a1 : PyData) (a2 : PyData) (a3 : PyData) (a4 : PyData) : RV PyData := runP 10 (b_law_does_stand_edc0) [a0, a1, a2, a3, a4]
end ML
end

section
set_option Elab.async false
set_option linter.all false
set_option maxRecDepth 100000
set_option maxHeartbeats 1000000
set_option autoImplicit false
namespace K02
open PySem PySem.Spec PyProof.Rows L2 DL FL
def b_law (dr : Dk → PyData → RV (PyData × Dk)) : M FL.Flow := (sSeq (sAsg (mMkDk (curK1 (ML.m_law_deck_8ff7 10896209 57)) (mCons (mVar 0) mNil)) (gName 1))
  (sSeq (sFor (iR1 (mCons (mC (.int 3)) mNil)) (gName 2) (sSeq (sAsg (mIfE (mB (mOp oEqA (mCallD (curD1 dr) (mCons (mVar 1) (mCons (mC (.int 4)) mNil))) (mC (.int 0)))) (mCallD (curD0 (ML.m_law_wide_floor_42ef dr)) (mCons (mVar 1) mNil)) (mCallD (curD1 (ML.m_law_floor_532c dr)) (mCons (mVar 1) (mCons (mC (.int 12)) mNil)))) (gName 3))
  (sSeq (sAsg (mTup (mCons (mCall (cur1 ML.m_law_spots_91d2) (mCons (mOp oIx (mVar 3) (mC (.int 0))) mNil)) (mCons (mCall (cur1 ML.m_law_partners_35b8) (mCons (mVar 3) mNil)) mNil))) (gSeq 2 (gCons (gName 4) (gCons (gName 5) gNil))))
  (sSeq (sIf (mB (mOp oNeA (mCa oRepr (mCons (mTup (mCons (mCall (cur1 MP.m_places) (mCons (mVar 3) mNil)) (mCons (mCallK [0] (cur1 MP.m_places) (mCons (mVar 3) mNil)) mNil))) mNil)) (mCa oRepr (mCons (mOp oMulA (mTup (mCons (mCa oTuple (mCons (mVar 4) mNil)) mNil)) (mC (.int 2))) mNil)))) (sRet (mC (.bool false))) sNext)
  (sSeq (sAsg (mIfE (mB (mOp oLtA (mCa oLen (mCons (mVar 4) mNil)) (mC (.int 9)))) (mFT (mUn oLrg (mCa oLen (mCons (mVar 4) mNil)))) (mFT (mLcF (iR1 (mCons (mC (.int 8)) mNil)) (gName 8) mYes (mCallD (curD1 dr) (mCons (mVar 1) (mCons (mCa oLen (mCons (mVar 4) mNil)) mNil))) [8]))) (gName 6))
  (sSeq (sFor (iA (mVar 6)) (gName 7) (sIf (mNotT (mB (mCallD (curD4 (ML.m_law_is_place_right_92ff dr)) (mCons (mVar 1) (mCons (mVar 3) (mCons (mOp oIx (mVar 4) (mVar 7)) (mCons (mVar 7) (mCons (mVar 5) mNil)))))))) (sRet (mC (.bool false))) sNext))
  (sIf (mB (mOp oNeSd (mFT (mLcF (iA (mVar 4)) (gName 9) (mB (mOp oIsNot (mCall (cur2 MP.m_partner) (mCons (mVar 3) (mCons (mVar 9) mNil))) (mC .none))) (mVar 9) [9])) (mVar 5))) (sRet (mC (.bool false))) sNext)))))))
  (sRet (mC (.bool true)))))
def m_law (dr : Dk → PyData → RV (PyData × Dk)) (a0 : PyData) : RV PyData := runP 10 (b_law dr) [a0]
end K02
end

section
set_option Elab.async false
set_option linter.all false
set_option maxRecDepth 100000
set_option maxHeartbeats 1000000
set_option autoImplicit false
namespace K02
open PySem PySem.Spec PyProof.Rows L2 DL FL
/-- no lambda is made -/
instance tab0 : Tab0 := ⟨[]⟩
def topS (i : Nat) : Stmt := PySem.Challenge.pw_touchrings_k02_places_seats_steps_and_pa.main.body.getD i (.Pass ⟨0, 0, 0, 0⟩)
abbrev s_is_whole : Stmt := topS 6
abbrev nN_is_whole : List Str := ["thing"]
abbrev nP_is_whole : List Str := ["thing"]
theorem sc_is_whole : FnScope nN_is_whole nP_is_whole (defScope s_is_whole) := ⟨rfl, rfl, rfl, by decide +kernel, rfl, by decide +kernel, by decide +kernel⟩
abbrev s_is_from : Stmt := topS 7
abbrev nN_is_from : List Str := ["thing", "start"]
abbrev nP_is_from : List Str := ["thing", "start"]
theorem sc_is_from : FnScope nN_is_from nP_is_from (defScope s_is_from) := ⟨rfl, rfl, rfl, by decide +kernel, rfl, by decide +kernel, by decide +kernel⟩
abbrev s_is_below : Stmt := topS 8
abbrev nN_is_below : List Str := ["thing", "end"]
abbrev nP_is_below : List Str := ["thing", "end"]
theorem sc_is_below : FnScope nN_is_below nP_is_below (defScope s_is_below) := ⟨rfl, rfl, rfl, by decide +kernel, rfl, by decide +kernel, by decide +kernel⟩
abbrev s_is_pair : Stmt := topS 9
abbrev nN_is_pair : List Str := ["thing"]
abbrev nP_is_pair : List Str := ["thing"]
theorem sc_is_pair : FnScope nN_is_pair nP_is_pair (defScope s_is_pair) := ⟨rfl, rfl, rfl, by decide +kernel, rfl, by decide +kernel, by decide +kernel⟩
abbrev s_is_ascending : Stmt := topS 10
abbrev nN_is_ascending : List Str := ["items", "low", "high"]
abbrev nP_is_ascending : List Str := ["items"]
theorem sc_is_ascending : FnScope nN_is_ascending nP_is_ascending (defScope s_is_ascending) := ⟨rfl, rfl, rfl, by decide +kernel, rfl, by decide +kernel, by decide +kernel⟩
abbrev s_are_rings : Stmt := topS 13
abbrev nN_are_rings : List Str := ["thing", "length"]
abbrev nP_are_rings : List Str := ["thing"]
theorem sc_are_rings : FnScope nN_are_rings nP_are_rings (defScope s_are_rings) := ⟨rfl, rfl, rfl, by decide +kernel, rfl, by decide +kernel, by decide +kernel⟩
abbrev s_is_place_on : Stmt := topS 16
abbrev nN_is_place_on : List Str := ["rings", "thing"]
abbrev nP_is_place_on : List Str := ["rings", "thing"]
theorem sc_is_place_on : FnScope nN_is_place_on nP_is_place_on (defScope s_is_place_on) := ⟨rfl, rfl, rfl, by decide +kernel, rfl, by decide +kernel, by decide +kernel⟩
abbrev s_p_is_touch : Stmt := topS 17
abbrev nN_p_is_touch : List Str := ["rings", "thing"]
abbrev nP_p_is_touch : List Str := ["rings", "thing"]
theorem sc_p_is_touch : FnScope nN_p_is_touch nP_p_is_touch (defScope s_p_is_touch) := ⟨rfl, rfl, rfl, by decide +kernel, rfl, by decide +kernel, by decide +kernel⟩
abbrev s_is_floor : Stmt := topS 14
abbrev nN_is_floor : List Str := ["thing", "rings", "touches", "touched", "touch", "place"]
abbrev nP_is_floor : List Str := ["thing"]
theorem sc_is_floor : FnScope nN_is_floor nP_is_floor (defScope s_is_floor) := ⟨rfl, rfl, rfl, by decide +kernel, rfl, by decide +kernel, by decide +kernel⟩
abbrev s_need_floor : Stmt := topS 18
abbrev nN_need_floor : List Str := ["floor"]
abbrev nP_need_floor : List Str := ["floor"]
theorem sc_need_floor : FnScope nN_need_floor nP_need_floor (defScope s_need_floor) := ⟨rfl, rfl, rfl, by decide +kernel, rfl, by decide +kernel, by decide +kernel⟩
abbrev s_is_place : Stmt := topS 15
abbrev nN_is_place : List Str := ["floor", "thing"]
abbrev nP_is_place : List Str := ["floor", "thing"]
theorem sc_is_place : FnScope nN_is_place nP_is_place (defScope s_is_place) := ⟨rfl, rfl, rfl, by decide +kernel, rfl, by decide +kernel, by decide +kernel⟩
abbrev s_need_place : Stmt := topS 19
abbrev nN_need_place : List Str := ["floor", "place"]
abbrev nP_need_place : List Str := ["floor", "place"]
theorem sc_need_place : FnScope nN_need_place nP_need_place (defScope s_need_place) := ⟨rfl, rfl, rfl, by decide +kernel, rfl, by decide +kernel, by decide +kernel⟩
abbrev s_partners : Stmt := topS 20
abbrev nN_partners : List Str := ["floor", "found", "x", "y"]
abbrev nP_partners : List Str := ["floor"]
theorem sc_partners : FnScope nN_partners nP_partners (defScope s_partners) := ⟨rfl, rfl, rfl, by decide +kernel, rfl, by decide +kernel, by decide +kernel⟩
abbrev s_places : Stmt := topS 21
abbrev nN_places : List Str := ["floor", "u", "length", "i"]
abbrev nP_places : List Str := ["floor"]
theorem sc_places : FnScope nN_places nP_places (defScope s_places) := ⟨rfl, rfl, rfl, by decide +kernel, rfl, by decide +kernel, by decide +kernel⟩
abbrev s_seat : Stmt := topS 22
abbrev nN_seat : List Str := ["floor", "place", "u", "i"]
abbrev nP_seat : List Str := ["floor", "place"]
theorem sc_seat : FnScope nN_seat nP_seat (defScope s_seat) := ⟨rfl, rfl, rfl, by decide +kernel, rfl, by decide +kernel, by decide +kernel⟩
abbrev s_behind : Stmt := topS 23
abbrev nN_behind : List Str := ["floor", "place", "k", "u", "i"]
abbrev nP_behind : List Str := ["floor", "place", "k"]
theorem sc_behind : FnScope nN_behind nP_behind (defScope s_behind) := ⟨rfl, rfl, rfl, by decide +kernel, rfl, by decide +kernel, by decide +kernel⟩
abbrev s_partner : Stmt := topS 24
abbrev nN_partner : List Str := ["floor", "place"]
abbrev nP_partner : List Str := ["floor", "place"]
theorem sc_partner : FnScope nN_partner nP_partner (defScope s_partner) := ⟨rfl, rfl, rfl, by decide +kernel, rfl, by decide +kernel, by decide +kernel⟩
abbrev s_law_deck : Stmt := topS 26
abbrev nN_law_deck : List Str := ["_law_script", "_law_mixed", "_law_cell"]
abbrev nP_law_deck : List Str := ["_law_script"]
theorem sc_law_deck : FnScope nN_law_deck nP_law_deck (defScope s_law_deck) := ⟨rfl, rfl, rfl, by decide +kernel, rfl, by decide +kernel, by decide +kernel⟩
abbrev s_law_draw : Stmt := topS 27
abbrev nN_law_draw : List Str := ["_law_deck_here", "_law_many", "_law_number", "_law_cell"]
abbrev nP_law_draw : List Str := ["_law_deck_here", "_law_many"]
theorem sc_law_draw : FnScope nN_law_draw nP_law_draw (defScope s_law_draw) := ⟨rfl, rfl, rfl, by decide +kernel, rfl, by decide +kernel, by decide +kernel⟩
abbrev s_law_pick : Stmt := topS 28
abbrev nN_law_pick : List Str := ["_law_deck_here", "_law_some"]
abbrev nP_law_pick : List Str := ["_law_deck_here", "_law_some"]
theorem sc_law_pick : FnScope nN_law_pick nP_law_pick (defScope s_law_pick) := ⟨rfl, rfl, rfl, by decide +kernel, rfl, by decide +kernel, by decide +kernel⟩
abbrev s_law_order : Stmt := topS 29
abbrev nN_law_order : List Str := ["_law_deck_here", "_law_n", "_law_left", "_law_found", "_law_turn"]
abbrev nP_law_order : List Str := ["_law_deck_here", "_law_n"]
theorem sc_law_order : FnScope nN_law_order nP_law_order (defScope s_law_order) := ⟨rfl, rfl, rfl, by decide +kernel, rfl, by decide +kernel, by decide +kernel⟩
abbrev s_law_spots : Stmt := topS 30
abbrev nN_law_spots : List Str := ["_law_rings_here", "_law_found", "_law_u", "_law_length", "_law_i"]
abbrev nP_law_spots : List Str := ["_law_rings_here"]
theorem sc_law_spots : FnScope nN_law_spots nP_law_spots (defScope s_law_spots) := ⟨rfl, rfl, rfl, by decide +kernel, rfl, by decide +kernel, by decide +kernel⟩
abbrev s_law_rings : Stmt := topS 31
abbrev nN_law_rings : List Str := ["_law_deck_here", "_law_most", "_law_found", "_law_left", "_law_turn", "_law_length"]
abbrev nP_law_rings : List Str := ["_law_deck_here", "_law_most"]
theorem sc_law_rings : FnScope nN_law_rings nP_law_rings (defScope s_law_rings) := ⟨rfl, rfl, rfl, by decide +kernel, rfl, by decide +kernel, by decide +kernel⟩
abbrev s_law_floor : Stmt := topS 32
abbrev nN_law_floor : List Str := ["_law_deck_here", "_law_most", "_law_rings_here", "_law_touches", "_law_spots_here", "_law_order_here", "_law_way", "_law_turn", "_law_x", "_law_y"]
abbrev nP_law_floor : List Str := ["_law_deck_here", "_law_most"]
theorem sc_law_floor : FnScope nN_law_floor nP_law_floor (defScope s_law_floor) := ⟨rfl, rfl, rfl, by decide +kernel, rfl, by decide +kernel, by decide +kernel⟩
abbrev s_law_wide_floor : Stmt := topS 33
abbrev nN_law_wide_floor : List Str := ["_law_deck_here", "_law_rings_here", "_law_left", "_law_turn", "_law_length", "_law_spots_here", "_law_order_here", "_law_touches"]
abbrev nP_law_wide_floor : List Str := ["_law_deck_here"]
theorem sc_law_wide_floor : FnScope nN_law_wide_floor nP_law_wide_floor (defScope s_law_wide_floor) := ⟨rfl, rfl, rfl, by decide +kernel, rfl, by decide +kernel, by decide +kernel⟩
abbrev s_law_behind : Stmt := topS 34
abbrev nN_law_behind : List Str := ["_law_floor_here", "_law_place", "_law_k"]
abbrev nP_law_behind : List Str := ["_law_floor_here", "_law_place", "_law_k"]
theorem sc_law_behind : FnScope nN_law_behind nP_law_behind (defScope s_law_behind) := ⟨rfl, rfl, rfl, by decide +kernel, rfl, by decide +kernel, by decide +kernel⟩
abbrev s_law_partners : Stmt := topS 35
abbrev nN_law_partners : List Str := ["_law_floor_here", "_law_found", "_law_x", "_law_y"]
abbrev nP_law_partners : List Str := ["_law_floor_here"]
theorem sc_law_partners : FnScope nN_law_partners nP_law_partners (defScope s_law_partners) := ⟨rfl, rfl, rfl, by decide +kernel, rfl, by decide +kernel, by decide +kernel⟩
abbrev s_law_is_place_right : Stmt := topS 36
abbrev nN_law_is_place_right : List Str := ["_law_deck_here", "_law_floor_here", "_law_place", "_law_at", "_law_partners_here", "_law_length", "_law_mate", "_law_here", "_law_k", "_law_great", "_law_due", "_law_other"]
abbrev nP_law_is_place_right : List Str := ["_law_deck_here", "_law_floor_here", "_law_place", "_law_at", "_law_partners_here"]
theorem sc_law_is_place_right : FnScope nN_law_is_place_right nP_law_is_place_right (defScope s_law_is_place_right) := ⟨rfl, rfl, rfl, by decide +kernel, rfl, by decide +kernel, by decide +kernel⟩
abbrev s_law : Stmt := topS 37
abbrev nN_law : List Str := ["_law_script", "_law_deck_here", "_law_turn", "_law_floor_here", "_law_spots_here", "_law_partners_here", "_law_some", "_law_at", "_law_more", "_law_place"]
abbrev nP_law : List Str := ["_law_script"]
theorem sc_law : FnScope nN_law nP_law (defScope s_law) := ⟨rfl, rfl, rfl, by decide +kernel, rfl, by decide +kernel, by decide +kernel⟩
structure BI (mg : Str → Option Value) : Prop where
  all : mg "all" = none
  bool_ : mg "bool" = none
  enumerate : mg "enumerate" = none
  int_ : mg "int" = none
  isinstance : mg "isinstance" = none
  len : mg "len" = none
  list_ : mg "list" = none
  max : mg "max" = none
  min : mg "min" = none
  range : mg "range" = none
  repr_ : mg "repr" = none
  set_ : mg "set" = none
  sorted : mg "sorted" = none
  sum : mg "sum" = none
  tuple_ : mg "tuple" = none
  zip : mg "zip" = none
def clBody : Stmt → List Stmt
  | .ClassDef _ _ _ body _ _ _ _ _ _ _ => body
  | _ => []
abbrev i_BadFloor : Stmt := (clBody (topS 2)).getD 0 (.Pass ⟨0, 0, 0, 0⟩)
theorem si_BadFloor : FnScope ["self", "thing"] ["self", "thing"] (defScope i_BadFloor) := ⟨rfl, rfl, rfl, by decide +kernel, rfl, by decide +kernel, by decide +kernel⟩
abbrev i_BadNumber : Stmt := (clBody (topS 4)).getD 0 (.Pass ⟨0, 0, 0, 0⟩)
theorem si_BadNumber : FnScope ["self", "thing"] ["self", "thing"] (defScope i_BadNumber) := ⟨rfl, rfl, rfl, by decide +kernel, rfl, by decide +kernel, by decide +kernel⟩
abbrev i_BadPlace : Stmt := (clBody (topS 3)).getD 0 (.Pass ⟨0, 0, 0, 0⟩)
theorem si_BadPlace : FnScope ["self", "thing"] ["self", "thing"] (defScope i_BadPlace) := ⟨rfl, rfl, rfl, by decide +kernel, rfl, by decide +kernel, by decide +kernel⟩
end K02
end

section
set_option Elab.async false
set_option linter.all false
set_option maxRecDepth 100000
set_option maxHeartbeats 1000000
set_option autoImplicit false
namespace K02
open PySem PySem.Spec PyProof.Rows L2 DL FL
theorem ok_is_whole {P : Program} {w0 : World} {K : PySem.W.Frag} {mg : Str → Option Value} {base : Heap} {cl : Str → Addr} (b : BI mg) (h : Hd K mg "is_whole" s_is_whole nP_is_whole) : DefG P w0 K mg base 1 "is_whole" s_is_whole nP_is_whole (purR cl 1 (cur1 MP.m_is_whole)) :=
  mk_pur h sc_is_whole
  (pdss_one (pds_ret (pd_and (pd_isi (u := "int") (pd_var 0) rfl b.isinstance rfl b.int_ (by decide +kernel)) (pd_one (pd_not (pd_isi (u := "bool") (pd_var 0) rfl b.isinstance rfl b.bool_ (by decide +kernel)))))))
  (is_ret (im_and (im_un iu_isi im_var) (im_un iu_not (im_un iu_isi im_var))))
  (hf1 fun _ => rfl)
theorem ok_is_from {P : Program} {w0 : World} {K : PySem.W.Frag} {mg : Str → Option Value} {base : Heap} {cl : Str → Addr} (h : Hd K mg "is_from" s_is_from nP_is_from) (c_is_whole : DefG P w0 K mg base 1 "is_whole" s_is_whole nP_is_whole (purR cl 1 (cur1 MP.m_is_whole))) : DefG P w0 K mg base 2 "is_from" s_is_from nP_is_from (purR cl 2 (cur2 MP.m_is_from)) :=
  mk_pur h sc_is_from
  (pdss_one (pds_ret (pd_and (pd_call 0 (c_is_whole.to) rfl (pda_cons (pd_var 0) pda_nil)) (pd_one (pd_cmpD cd_ge (pd_var 0) (pd_var 1))))))
  (is_ret (im_and (im_call ar1 (im_cons im_var im_nil)) (im_op ir_II im_var im_var)))
  (hf2 fun _ _ => rfl)
theorem ok_is_below {P : Program} {w0 : World} {K : PySem.W.Frag} {mg : Str → Option Value} {base : Heap} {cl : Str → Addr} (h : Hd K mg "is_below" s_is_below nP_is_below) (c_is_whole : DefG P w0 K mg base 1 "is_whole" s_is_whole nP_is_whole (purR cl 1 (cur1 MP.m_is_whole))) : DefG P w0 K mg base 2 "is_below" s_is_below nP_is_below (purR cl 2 (cur2 MP.m_is_below)) :=
  mk_pur h sc_is_below
  (pdss_one (pds_ret (pd_and (pd_call 0 (c_is_whole.to) rfl (pda_cons (pd_var 0) pda_nil)) (pd_one (pd_chainD cd_le cd_ltA pd_int (pd_var 0) (pd_var 1))))))
  (is_ret (im_and (im_call ar1 (im_cons im_var im_nil)) (im_chain ir_II ir_ltA im_c im_var im_var)))
  (hf2 fun _ _ => rfl)
theorem ok_is_pair {P : Program} {w0 : World} {K : PySem.W.Frag} {mg : Str → Option Value} {base : Heap} {cl : Str → Addr} (b : BI mg) (h : Hd K mg "is_pair" s_is_pair nP_is_pair) : DefG P w0 K mg base 1 "is_pair" s_is_pair nP_is_pair (purR cl 1 (cur1 MP.m_is_pair)) :=
  mk_pur h sc_is_pair
  (pdss_one (pds_ret (pd_and (pd_isi (u := "tuple") (pd_var 0) rfl b.isinstance rfl b.tuple_ (by decide +kernel)) (pd_one (pd_cmpD cd_eqA (pd_len rfl b.len (pda_cons (pd_var 0) pda_nil)) pd_int)))))
  (is_ret (im_and (im_un iu_isi im_var) (im_op ir_eqA (im_ca ic_len (im_cons im_var im_nil)) im_c)))
  (hf1 fun _ => rfl)
theorem ok_is_ascending {P : Program} {w0 : World} {K : PySem.W.Frag} {mg : Str → Option Value} {base : Heap} {cl : Str → Addr} (b : BI mg) (h : Hd K mg "is_ascending" s_is_ascending nP_is_ascending) : DefG P w0 K mg base 1 "is_ascending" s_is_ascending nP_is_ascending (purR cl 1 (cur1 MP.m_is_ascending)) :=
  mk_pur h sc_is_ascending
  (pdss_one (pds_ret (pd_all rfl b.all (pda_cons (pd_ft (pd_lcF (own := [("low", 1), ("high", 2)]) (pdi_zip (pda_cons (pd_var 0) (pda_cons (pd_ft (pd_slice (pd_var 0) (pdo_some pd_int) pdo_none)) pda_nil)) rfl b.zip) (blkOk_by (own := [("low", 1), ("high", 2)]) (N := nN_is_ascending) (sc := defScope s_is_ascending) (by decide +kernel)) (pdg_seq (n := 2) (pdgs_cons (pdg_name 1) (pdgs_cons (pdg_name 2) pdgs_nil))) pdts_nil (pd_cmpD cd_ltA (pd_var 1) (pd_var 2)))) pda_nil))))
  (is_ret (im_ca ic_all (im_cons (im_ft (im_lcF (ii_zip (im_cons im_var (im_cons (im_ft (im_sl im_var (im_part im_c) im_noP)) im_nil))) (ig_seq (igs_cons ig_name (igs_cons ig_name igs_nil))) im_yes (im_op ir_ltA im_var im_var))) im_nil)))
  (hf1 fun _ => rfl)
theorem ok_are_rings {P : Program} {w0 : World} {K : PySem.W.Frag} {mg : Str → Option Value} {base : Heap} {cl : Str → Addr} (b : BI mg) (h : Hd K mg "are_rings" s_are_rings nP_are_rings) (c_is_from : DefG P w0 K mg base 2 "is_from" s_is_from nP_is_from (purR cl 2 (cur2 MP.m_is_from))) (z_MOST_RINGS : ∃ t, mg "MOST_RINGS" = some (.int 40 t)) : DefG P w0 K mg base 3 "are_rings" s_are_rings nP_are_rings (purR cl 1 (cur1 MP.m_are_rings)) :=
  mk_pur h sc_are_rings
  (pdss_cons (pds_if (PDW.pt (pdw_or (pdt_not (pdt_val (pd_isi (u := "tuple") (pd_var 0) rfl b.isinstance rfl b.tuple_ (by decide +kernel)))) (pdw_or1 (pdt_not (pdt_chainD cd_le cd_le pd_int (pd_len rfl b.len (pda_cons (pd_var 0) pda_nil)) (pd_globI rfl z_MOST_RINGS)))))) (pdss_one (pds_ret pd_bl)) pdss_nil)
  (pdss_one (pds_ret (pd_all rfl b.all (pda_cons (pd_ft (pd_lcF (own := [("length", 1)]) (pdi_any (pd_var 0)) (blkOk_by (own := [("length", 1)]) (N := nN_are_rings) (sc := defScope s_are_rings) (by decide +kernel)) (pdg_name 1) pdts_nil (pd_call 0 (c_is_from.toB) rfl (pda_cons (pd_var 1) (pda_cons pd_int pda_nil))))) pda_nil)))))
  (is_seq (is_if (im_orT (im_notT (im_b (im_un iu_isi im_var))) (im_notT (im_b (im_chain ir_II ir_II im_c (im_ca ic_len (im_cons im_var im_nil)) im_c)))) (is_ret im_c) is_next)
  (is_ret (im_ca ic_all (im_cons (im_ft (im_lcF (ii_a im_var) ig_name im_yes (im_call ar2 (im_cons im_var (im_cons im_c im_nil))))) im_nil))))
  (hf1 fun _ => rfl)
theorem ok_is_place_on {P : Program} {w0 : World} {K : PySem.W.Frag} {mg : Str → Option Value} {base : Heap} {cl : Str → Addr} (b : BI mg) (h : Hd K mg "is_place_on" s_is_place_on nP_is_place_on) (c_is_below : DefG P w0 K mg base 2 "is_below" s_is_below nP_is_below (purR cl 2 (cur2 MP.m_is_below))) (c_is_pair : DefG P w0 K mg base 1 "is_pair" s_is_pair nP_is_pair (purR cl 1 (cur1 MP.m_is_pair))) : DefG P w0 K mg base 3 "is_place_on" s_is_place_on nP_is_place_on (purR cl 2 (cur2 MP.m_is_place_on)) :=
  mk_pur h sc_is_place_on
  (pdss_one (pds_ret (pd_and (pd_call 0 (c_is_pair.to) rfl (pda_cons (pd_var 1) pda_nil)) (pd_and (pd_call 0 (c_is_below.to) rfl (pda_cons (pd_ix (pd_var 1) pd_int) (pda_cons (pd_len rfl b.len (pda_cons (pd_var 0) pda_nil)) pda_nil))) (pd_one (pd_call 0 (c_is_below.to) rfl (pda_cons (pd_ix (pd_var 1) pd_int) (pda_cons (pd_ix (pd_var 0) (pd_ix (pd_var 1) pd_int)) pda_nil))))))))
  (is_ret (im_and (im_call ar1 (im_cons im_var im_nil)) (im_and (im_call ar2 (im_cons (im_op ir_ix im_var im_c) (im_cons (im_ca ic_len (im_cons im_var im_nil)) im_nil))) (im_call ar2 (im_cons (im_op ir_ix im_var im_c) (im_cons (im_op ir_ix im_var (im_op ir_ix im_var im_c)) im_nil))))))
  (hf2 fun _ _ => rfl)
theorem ok_p_is_touch {P : Program} {w0 : World} {K : PySem.W.Frag} {mg : Str → Option Value} {base : Heap} {cl : Str → Addr} (h : Hd K mg "_is_touch" s_p_is_touch nP_p_is_touch) (c_is_place_on : DefG P w0 K mg base 3 "is_place_on" s_is_place_on nP_is_place_on (purR cl 2 (cur2 MP.m_is_place_on))) (c_is_pair : DefG P w0 K mg base 1 "is_pair" s_is_pair nP_is_pair (purR cl 1 (cur1 MP.m_is_pair))) : DefG P w0 K mg base 4 "_is_touch" s_p_is_touch nP_p_is_touch (purR cl 2 (cur2 MP.m_p_is_touch)) :=
  mk_pur h sc_p_is_touch
  (pdss_cons (pds_if (PDW.pt (pdw_or (pdt_not (pdt_val (pd_call 0 (c_is_pair.to) rfl (pda_cons (pd_var 1) pda_nil)))) (pdw_or (pdt_not (pdt_val (pd_call 0 (c_is_place_on.to) rfl (pda_cons (pd_var 0) (pda_cons (pd_ix (pd_var 1) pd_int) pda_nil))))) (pdw_or1 (pdt_not (pdt_val (pd_call 0 (c_is_place_on.to) rfl (pda_cons (pd_var 0) (pda_cons (pd_ix (pd_var 1) pd_int) pda_nil))))))))) (pdss_one (pds_ret pd_bl)) pdss_nil)
  (pdss_one (pds_ret (pd_cmpD cd_ltA (pd_ix (pd_var 1) pd_int) (pd_ix (pd_var 1) pd_int)))))
  (is_seq (is_if (im_orT (im_notT (im_b (im_call ar1 (im_cons im_var im_nil)))) (im_orT (im_notT (im_b (im_call ar2 (im_cons im_var (im_cons (im_op ir_ix im_var im_c) im_nil))))) (im_notT (im_b (im_call ar2 (im_cons im_var (im_cons (im_op ir_ix im_var im_c) im_nil))))))) (is_ret im_c) is_next)
  (is_ret (im_op ir_ltA (im_op ir_ix im_var im_c) (im_op ir_ix im_var im_c))))
  (hf2 fun _ _ => rfl)
theorem ok_is_floor {P : Program} {w0 : World} {K : PySem.W.Frag} {mg : Str → Option Value} {base : Heap} {cl : Str → Addr} (b : BI mg) (h : Hd K mg "is_floor" s_is_floor nP_is_floor) (c_are_rings : DefG P w0 K mg base 3 "are_rings" s_are_rings nP_are_rings (purR cl 1 (cur1 MP.m_are_rings))) (c_is_pair : DefG P w0 K mg base 1 "is_pair" s_is_pair nP_is_pair (purR cl 1 (cur1 MP.m_is_pair))) (c_p_is_touch : DefG P w0 K mg base 4 "_is_touch" s_p_is_touch nP_p_is_touch (purR cl 2 (cur2 MP.m_p_is_touch))) (c_is_ascending : DefG P w0 K mg base 1 "is_ascending" s_is_ascending nP_is_ascending (purR cl 1 (cur1 MP.m_is_ascending))) : DefG P w0 K mg base 5 "is_floor" s_is_floor nP_is_floor (purR cl 1 (cur1 MP.m_is_floor)) :=
  mk_pur h sc_is_floor
  (pdss_cons (pds_if (PDW.pt (pdw_or (pdt_not (pdt_val (pd_call 0 (c_is_pair.to) rfl (pda_cons (pd_var 0) pda_nil)))) (pdw_or (pdt_not (pdt_val (pd_call 0 (c_are_rings.to) rfl (pda_cons (pd_ix (pd_var 0) pd_int) pda_nil)))) (pdw_or1 (pdt_not (pdt_val (pd_isi (u := "tuple") (pd_ix (pd_var 0) pd_int) rfl b.isinstance rfl b.tuple_ (by decide +kernel)))))))) (pdss_one (pds_ret pd_bl)) pdss_nil)
  (pdss_cons (pds_asg (pd_var 0) (pdg_seq (n := 2) (pdgs_cons (pdg_name 1) (pdgs_cons (pdg_name 2) pdgs_nil))))
  (pdss_cons (pds_if (pdt_not (pdt_val (pd_all rfl b.all (pda_cons (pd_ft (pd_lcF (own := [("touch", 4)]) (pdi_any (pd_var 2)) (blkOk_by (own := [("touch", 4)]) (N := nN_is_floor) (sc := defScope s_is_floor) (by decide +kernel)) (pdg_name 4) pdts_nil (pd_call 0 (c_p_is_touch.toB) rfl (pda_cons (pd_var 1) (pda_cons (pd_var 4) pda_nil))))) pda_nil)))) (pdss_one (pds_ret pd_bl)) pdss_nil)
  (pdss_cons (pds_setLc2F 3 (own := [("touch", 4), ("place", 5)]) [5] (pdi_any (pd_var 2)) (blkOk_by (own := [("touch", 4), ("place", 5)]) (N := nN_is_floor) (sc := defScope s_is_floor) (by decide +kernel)) (pdg_name 4) (pdi_any (pd_var 4)) (pdg_name 5) (pd_var 5) (fun env e => sw_true (by rw [e]; rfl) (by rw [e]; rfl) rfl (by decide +kernel)))
  (pdss_one (pds_ret (pd_and (pd_call 0 (c_is_ascending.to) rfl (pda_cons (pd_var 2) pda_nil)) (pd_one (pd_cmpD cd_eqA (pd_lenSet (pd_var 3) rfl b.len rfl b.set_) (pd_len rfl b.len (pda_cons (pd_var 3) pda_nil)))))))))))
  (is_seq (is_if (im_orT (im_notT (im_b (im_call ar1 (im_cons im_var im_nil)))) (im_orT (im_notT (im_b (im_call ar1 (im_cons (im_op ir_ix im_var im_c) im_nil)))) (im_notT (im_b (im_un iu_isi (im_op ir_ix im_var im_c)))))) (is_ret im_c) is_next)
  (is_seq (is_asg im_var (ig_seq (igs_cons ig_name (igs_cons ig_name igs_nil))) (nx_seq (nxs_cons nx_name (nxs_cons nx_name nxs_nil))))
  (is_seq (is_if (im_notT (im_b (im_ca ic_all (im_cons (im_ft (im_lcF (ii_a im_var) ig_name im_yes (im_call ar2 (im_cons im_var (im_cons im_var im_nil))))) im_nil)))) (is_ret im_c) is_next)
  (is_seq (is_asgFT (im_lc2F (ii_a im_var) ig_name (ii_a im_var) ig_name im_var))
  (is_ret (im_and (im_call ar1 (im_cons im_var im_nil)) (im_op ir_eqA (im_un iu_lenSet im_var) (im_ca ic_len (im_cons im_var im_nil)))))))))
  (hf1 fun _ => rfl)
theorem ok_need_floor {P : Program} {w0 : World} {K : PySem.W.Frag} {mg : Str → Option Value} {base : Heap} {cl : Str → Addr} (h : Hd K mg "need_floor" s_need_floor nP_need_floor) (c_is_floor : DefG P w0 K mg base 5 "is_floor" s_is_floor nP_is_floor (purR cl 1 (cur1 MP.m_is_floor))) (x_BadFloor : ExE P w0 K mg base 1 "BadFloor" (cl "BadFloor") "thing") : DefG P w0 K mg base 6 "need_floor" s_need_floor nP_need_floor (purR cl 1 (cur1 MP.m_need_floor)) :=
  mk_pur h sc_need_floor
  (pdss_one (pds_if (pdt_not (pdt_val (pd_call 0 (c_is_floor.to) rfl (pda_cons (pd_var 0) pda_nil)))) (pdss_one (pds_raiseE x_BadFloor (Nat.le_of_ble_eq_true rfl) (pda_cons (pd_var 0) pda_nil) rfl)) pdss_nil))
  (is_if (im_notT (im_b (im_call ar1 (im_cons im_var im_nil)))) (is_raise rfl (im_cons im_var im_nil)) is_next)
  (hf1 fun _ => rfl)
theorem ok_is_place {P : Program} {w0 : World} {K : PySem.W.Frag} {mg : Str → Option Value} {base : Heap} {cl : Str → Addr} (h : Hd K mg "is_place" s_is_place nP_is_place) (c_need_floor : DefG P w0 K mg base 6 "need_floor" s_need_floor nP_need_floor (purR cl 1 (cur1 MP.m_need_floor))) (c_is_place_on : DefG P w0 K mg base 3 "is_place_on" s_is_place_on nP_is_place_on (purR cl 2 (cur2 MP.m_is_place_on))) : DefG P w0 K mg base 7 "is_place" s_is_place nP_is_place (purR cl 2 (cur2 MP.m_is_place)) :=
  mk_pur h sc_is_place
  (pdss_cons (pds_expr (pd_call 0 (c_need_floor.to) rfl (pda_cons (pd_var 0) pda_nil)))
  (pdss_one (pds_ret (pd_call 0 (c_is_place_on.to) rfl (pda_cons (pd_ix (pd_var 0) pd_int) (pda_cons (pd_var 1) pda_nil))))))
  (is_seq (is_exp (im_call ar1 (im_cons im_var im_nil)))
  (is_ret (im_call ar2 (im_cons (im_op ir_ix im_var im_c) (im_cons im_var im_nil)))))
  (hf2 fun _ _ => rfl)
theorem ok_need_place {P : Program} {w0 : World} {K : PySem.W.Frag} {mg : Str → Option Value} {base : Heap} {cl : Str → Addr} (h : Hd K mg "need_place" s_need_place nP_need_place) (c_is_place : DefG P w0 K mg base 7 "is_place" s_is_place nP_is_place (purR cl 2 (cur2 MP.m_is_place))) (x_BadPlace : ExE P w0 K mg base 1 "BadPlace" (cl "BadPlace") "thing") : DefG P w0 K mg base 8 "need_place" s_need_place nP_need_place (purR cl 2 (cur2 MP.m_need_place)) :=
  mk_pur h sc_need_place
  (pdss_one (pds_if (pdt_not (pdt_val (pd_call 0 (c_is_place.to) rfl (pda_cons (pd_var 0) (pda_cons (pd_var 1) pda_nil))))) (pdss_one (pds_raiseE x_BadPlace (Nat.le_of_ble_eq_true rfl) (pda_cons (pd_var 1) pda_nil) rfl)) pdss_nil))
  (is_if (im_notT (im_b (im_call ar2 (im_cons im_var (im_cons im_var im_nil))))) (is_raise rfl (im_cons im_var im_nil)) is_next)
  (hf2 fun _ _ => rfl)
theorem ok_partners {P : Program} {w0 : World} {K : PySem.W.Frag} {mg : Str → Option Value} {base : Heap} {cl : Str → Addr} (h : Hd K mg "partners" s_partners nP_partners) : DefG P w0 K mg base 1 "partners" s_partners nP_partners (purR cl 1 (cur1 MP.m_partners)) :=
  mk_pur h sc_partners
  (pdss_cons (pds_set 1 pd_newT)
  (pdss_cons (pds_for (pdi_any (pd_ix (pd_var 0) pd_int)) (pdg_seq (n := 2) (pdgs_cons (pdg_name 2) (pdgs_cons (pdg_name 3) pdgs_nil))) (pdss_cons (pds_put (pd_var 1) (pd_var 2) (pd_var 3))
  (pdss_one (pds_put (pd_var 1) (pd_var 3) (pd_var 2)))))
  (pdss_one (pds_ret (pd_frz (pd_var 1))))))
  (is_seq (is_asg im_newT ig_name nx_name)
  (is_seq (is_for (ii_a (im_op ir_ix im_var im_c)) (ig_seq (igs_cons ig_name (igs_cons ig_name igs_nil))) (nx_seq (nxs_cons nx_name (nxs_cons nx_name nxs_nil))) (is_seq (is_put im_var im_var im_var)
  (is_put im_var im_var im_var)))
  (is_ret (im_frz im_var))))
  (hf1 fun _ => rfl)
theorem ok_places {P : Program} {w0 : World} {K : PySem.W.Frag} {mg : Str → Option Value} {base : Heap} {cl : Str → Addr} (b : BI mg) (h : Hd K mg "places" s_places nP_places) (c_need_floor : DefG P w0 K mg base 6 "need_floor" s_need_floor nP_need_floor (purR cl 1 (cur1 MP.m_need_floor))) : DefG P w0 K mg base 7 "places" s_places nP_places (purR cl 1 (cur1 MP.m_places)) :=
  mk_pur h sc_places
  (pdss_cons (pds_expr (pd_call 0 (c_need_floor.to) rfl (pda_cons (pd_var 0) pda_nil)))
  (pdss_one (pds_ret (pd_tuple rfl b.tuple_ (pda_cons (pd_ft (pd_lc2F (own := [("u", 1), ("length", 2), ("i", 3)]) [3] (pdi_enumA (pda_cons (pd_ix (pd_var 0) pd_int) pda_nil) rfl b.enumerate) (blkOk_by (own := [("u", 1), ("length", 2), ("i", 3)]) (N := nN_places) (sc := defScope s_places) (by decide +kernel)) (pdg_seq (n := 2) (pdgs_cons (pdg_name 1) (pdgs_cons (pdg_name 2) pdgs_nil))) (pdi_range1 (pda_cons (pd_var 2) pda_nil) rfl b.range) (pdg_name 3) (pd_tup (pda_cons (pd_var 1) (pda_cons (pd_var 3) pda_nil))))) pda_nil)))))
  (is_seq (is_exp (im_call ar1 (im_cons im_var im_nil)))
  (is_ret (im_ca ic_tuple (im_cons (im_ft (im_lc2F (ii_enu (im_cons (im_op ir_ix im_var im_c) im_nil)) (ig_seq (igs_cons ig_name (igs_cons ig_name igs_nil))) (ii_r1 (im_cons im_var im_nil)) ig_name (im_tup (im_cons im_var (im_cons im_var im_nil))))) im_nil))))
  (hf1 fun _ => rfl)
theorem ok_seat {P : Program} {w0 : World} {K : PySem.W.Frag} {mg : Str → Option Value} {base : Heap} {cl : Str → Addr} (b : BI mg) (h : Hd K mg "seat" s_seat nP_seat) (c_need_place : DefG P w0 K mg base 8 "need_place" s_need_place nP_need_place (purR cl 2 (cur2 MP.m_need_place))) : DefG P w0 K mg base 9 "seat" s_seat nP_seat (purR cl 2 (cur2 MP.m_seat)) :=
  mk_pur h sc_seat
  (pdss_cons (pds_expr (pd_call 0 (c_need_place.to) rfl (pda_cons (pd_var 0) (pda_cons (pd_var 1) pda_nil))))
  (pdss_cons (pds_asg (pd_var 1) (pdg_seq (n := 2) (pdgs_cons (pdg_name 2) (pdgs_cons (pdg_name 3) pdgs_nil))))
  (pdss_one (pds_ret (pd_bin bd_addA (pd_sumA rfl b.sum (pda_cons (pd_ft (pd_slice (pd_ix (pd_var 0) pd_int) pdo_none (pdo_some (pd_var 2)))) pda_nil)) (pd_var 3))))))
  (is_seq (is_exp (im_call ar2 (im_cons im_var (im_cons im_var im_nil))))
  (is_seq (is_asg im_var (ig_seq (igs_cons ig_name (igs_cons ig_name igs_nil))) (nx_seq (nxs_cons nx_name (nxs_cons nx_name nxs_nil))))
  (is_ret (im_op ir_addA (im_ca ic_sumA (im_cons (im_ft (im_sl (im_op ir_ix im_var im_c) im_noP (im_part im_var))) im_nil)) im_var))))
  (hf2 fun _ _ => rfl)
theorem ok_behind {P : Program} {w0 : World} {K : PySem.W.Frag} {mg : Str → Option Value} {base : Heap} {cl : Str → Addr} (h : Hd K mg "behind" s_behind nP_behind) (c_need_place : DefG P w0 K mg base 8 "need_place" s_need_place nP_need_place (purR cl 2 (cur2 MP.m_need_place))) (c_is_whole : DefG P w0 K mg base 1 "is_whole" s_is_whole nP_is_whole (purR cl 1 (cur1 MP.m_is_whole))) (x_BadNumber : ExE P w0 K mg base 1 "BadNumber" (cl "BadNumber") "thing") : DefG P w0 K mg base 9 "behind" s_behind nP_behind (purR cl 3 (cur3 MP.m_behind)) :=
  mk_pur h sc_behind
  (pdss_cons (pds_expr (pd_call 0 (c_need_place.to) rfl (pda_cons (pd_var 0) (pda_cons (pd_var 1) pda_nil))))
  (pdss_cons (pds_if (pdt_not (pdt_val (pd_call 0 (c_is_whole.to) rfl (pda_cons (pd_var 2) pda_nil)))) (pdss_one (pds_raiseE x_BadNumber (Nat.le_of_ble_eq_true rfl) (pda_cons (pd_var 2) pda_nil) rfl)) pdss_nil)
  (pdss_cons (pds_asg (pd_var 1) (pdg_seq (n := 2) (pdgs_cons (pdg_name 3) (pdgs_cons (pdg_name 4) pdgs_nil))))
  (pdss_one (pds_ret (pd_tup (pda_cons (pd_var 3) (pda_cons (pd_bin bd_mod (pd_bin bd_addA (pd_var 4) (pd_var 2)) (pd_ix (pd_ix (pd_var 0) pd_int) (pd_var 3))) pda_nil))))))))
  (is_seq (is_exp (im_call ar2 (im_cons im_var (im_cons im_var im_nil))))
  (is_seq (is_if (im_notT (im_b (im_call ar1 (im_cons im_var im_nil)))) (is_raise rfl (im_cons im_var im_nil)) is_next)
  (is_seq (is_asg im_var (ig_seq (igs_cons ig_name (igs_cons ig_name igs_nil))) (nx_seq (nxs_cons nx_name (nxs_cons nx_name nxs_nil))))
  (is_ret (im_tup (im_cons im_var (im_cons (im_op ir_mod (im_op ir_addA im_var im_var) (im_op ir_ix (im_op ir_ix im_var im_c) im_var)) im_nil)))))))
  (hf3 fun _ _ _ => rfl)
theorem ok_partner {P : Program} {w0 : World} {K : PySem.W.Frag} {mg : Str → Option Value} {base : Heap} {cl : Str → Addr} (h : Hd K mg "partner" s_partner nP_partner) (c_need_place : DefG P w0 K mg base 8 "need_place" s_need_place nP_need_place (purR cl 2 (cur2 MP.m_need_place))) (c_partners : DefG P w0 K mg base 1 "partners" s_partners nP_partners (purR cl 1 (cur1 MP.m_partners))) : DefG P w0 K mg base 9 "partner" s_partner nP_partner (purR cl 2 (cur2 MP.m_partner)) :=
  mk_pur h sc_partner
  (pdss_cons (pds_expr (pd_call 0 (c_need_place.to) rfl (pda_cons (pd_var 0) (pda_cons (pd_var 1) pda_nil))))
  (pdss_one (pds_ret (pd_get1 (pd_call 0 (c_partners.to) rfl (pda_cons (pd_var 0) pda_nil)) (pd_var 1)))))
  (is_seq (is_exp (im_call ar2 (im_cons im_var (im_cons im_var im_nil))))
  (is_ret (im_get1 (im_call ar1 (im_cons im_var im_nil)) im_var)))
  (hf2 fun _ _ => rfl)
theorem ok_law_deck {P : Program} {w0 : World} {K : PySem.W.Frag} {mg : Str → Option Value} {base : Heap} {cl : Str → Addr} (b : BI mg) (h : Hd K mg "_law_deck" s_law_deck nP_law_deck) : DefG P w0 K mg base 1 "_law_deck" s_law_deck nP_law_deck (mkR 1 (curK1 (ML.m_law_deck_8ff7 10896209 57))) :=
  mk_mk (cl := cl) h sc_law_deck
  (pdss_cons (pds_set 1 pd_int)
  (pdss_cons (pds_for (pdi_any (pd_ft (pd_slice (pd_var 0) pdo_none (pdo_some pd_int)))) (pdg_name 2) (pdss_one (pds_set 1 (pd_bin bd_mod (pd_intC rfl b.int_ (pda_cons (pd_bin bd_addA (pd_bin bd_addA (pd_bin bd_mulA (pd_var 1) pd_int) (pd_bin bd_mod (pd_intC rfl b.int_ (pda_cons (pd_var 2) pda_nil)) pd_int)) pd_int) pda_nil)) pd_int))))
  (pdss_one (pds_ret (pd_disp (pdp_cons (pd_revL (pd_ft (pd_list rfl b.list_ (pda_cons (pd_ft (pd_slice (pd_var 0) pdo_none (pdo_some pd_int))) pda_nil)))) (pdp_cons (pd_var 1) (pdp_cons pd_int pdp_nil))) (by rfl) (by rfl) (fun z => by cases z) (by decide) (by decide))))))
  (is_seq (is_asg im_c ig_name nx_name)
  (is_seq (is_for (ii_a (im_ft (im_sl im_var im_noP (im_part im_c)))) ig_name nx_name (is_asg (im_op ir_mod (im_ca ic_int (im_cons (im_op ir_addA (im_op ir_addA (im_op ir_mulA im_var im_c) (im_op ir_mod (im_ca ic_int (im_cons im_var im_nil)) im_c)) im_c) im_nil)) im_c) ig_name nx_name))
  (is_ret (im_disp (im_cons (im_un iu_revA (im_ft (im_ca ic_list (im_cons (im_ft (im_sl im_var im_noP (im_part im_c))) im_nil)))) (im_cons im_var (im_cons im_c im_nil)))))))
  (hfK1 fun _ => rfl)
theorem ok_law_draw {P : Program} {w0 : World} {K : PySem.W.Frag} {mg : Str → Option Value} {base : Heap} {cl : Str → Addr} (b : BI mg) (h : Hd K mg "_law_draw" s_law_draw nP_law_draw) : DefG P w0 K mg base 1 "_law_draw" s_law_draw nP_law_draw (dkR 1 (curD1 (ML.m_law_draw_600f 57 53))) :=
  mk_dk (cl := cl) h sc_law_draw
  (pdss_cons (pds_put (pd_var 0) pd_str (pd_bin bd_addA (pd_dget (pd_var 0) pd_str) pd_int))
  (pdss_cons (pds_set 2 (pd_bin bd_addA (pd_dget (pd_var 0) pd_str) (pd_bin bd_mulA pd_int (pd_dget (pd_var 0) pd_str))))
  (pdss_cons (pds_if (pdt_cmpD cd_neA (pd_dget (pd_var 0) pd_str) (pd_ft (pd_lst pda_nil))) (pdss_cons (pds_set 3 (pd_pop (pl := pure true) (pd_dget (pd_var 0) pd_str)))
  (pdss_cons (pds_if (pdt_cmpD cd_ge (pd_var 3) (pd_bin bd_pow pd_int pd_int)) (pdss_cons (pds_expr (pd_append (pd_dget (pd_var 0) pd_str) (pda_cons (pd_bin bd_div (pd_var 3) (pd_max2 rfl b.max (pda_cons pd_int (pda_cons (pd_var 1) pda_nil)))) pda_nil)))
  (pdss_one (pds_ret (pd_bin bd_mod (pd_intC rfl b.int_ (pda_cons (pd_var 3) pda_nil)) (pd_var 1))))) pdss_nil)
  (pdss_one (pds_set 2 (pd_bin bd_addA (pd_var 2) (pd_bin bd_mod (pd_intC rfl b.int_ (pda_cons (pd_var 3) pda_nil)) pd_int)))))) pdss_nil)
  (pdss_cons (pds_set 2 (pd_bin bd_mod (pd_intC rfl b.int_ (pda_cons (pd_bin bd_addA (pd_bin bd_mulA (pd_var 2) pd_int) pd_int) pda_nil)) pd_int))
  (pdss_cons (pds_set 2 (pd_bin bd_mod (pd_intC rfl b.int_ (pda_cons (pd_bin bd_addA (pd_bin bd_addA (pd_bin bd_mulA (pd_var 2) (pd_var 2)) (pd_bin bd_mulA pd_int (pd_dget (pd_var 0) pd_str))) pd_int) pda_nil)) pd_int))
  (pdss_cons (pds_set 2 (pd_bin bd_mod (pd_intC rfl b.int_ (pda_cons (pd_bin bd_mulA (pd_var 2) pd_int) pda_nil)) pd_int))
  (pdss_one (pds_ret (pd_bin bd_mod (pd_intC rfl b.int_ (pda_cons (pd_bin bd_div (pd_var 2) pd_int) pda_nil)) (pd_var 1))))))))))
  (is_seq (is_put im_var im_c (im_op ir_addA (im_op ir_dg im_var im_c) im_c))
  (is_seq (is_asg (im_op ir_addA (im_op ir_dg im_var im_c) (im_op ir_mulA im_c (im_op ir_dg im_var im_c))) ig_name nx_name)
  (is_seq (is_if (im_b (im_op ir_neA (im_op ir_dg im_var im_c) (im_ft (im_lst im_nil)))) (is_seq (is_asg (im_bm0 imm_pop (im_op ir_dg im_var im_c)) ig_name nx_name)
  (is_seq (is_if (im_b (im_op ir_II im_var (im_op ir_IIc im_c im_c))) (is_seq (is_exp (im_bm imm_app (im_op ir_dg im_var im_c) (im_cons (im_op ir_IIc im_var (im_ca ic_max (im_cons im_c (im_cons im_var im_nil)))) im_nil)))
  (is_ret (im_op ir_mod (im_ca ic_int (im_cons im_var im_nil)) im_var))) is_next)
  (is_asg (im_op ir_addA im_var (im_op ir_mod (im_ca ic_int (im_cons im_var im_nil)) im_c)) ig_name nx_name))) is_next)
  (is_seq (is_asg (im_op ir_mod (im_ca ic_int (im_cons (im_op ir_addA (im_op ir_mulA im_var im_c) im_c) im_nil)) im_c) ig_name nx_name)
  (is_seq (is_asg (im_op ir_mod (im_ca ic_int (im_cons (im_op ir_addA (im_op ir_addA (im_op ir_mulA im_var im_var) (im_op ir_mulA im_c (im_op ir_dg im_var im_c))) im_c) im_nil)) im_c) ig_name nx_name)
  (is_seq (is_asg (im_op ir_mod (im_ca ic_int (im_cons (im_op ir_mulA im_var im_c) im_nil)) im_c) ig_name nx_name)
  (is_ret (im_op ir_mod (im_ca ic_int (im_cons (im_op ir_IIc im_var im_c) im_nil)) im_var))))))))
  (hfD1 fun _ _ => rfl)
theorem ok_law_pick {P : Program} {w0 : World} {K : PySem.W.Frag} {mg : Str → Option Value} {base : Heap} {cl : Str → Addr} {dr : Dk → PyData → RV (PyData × Dk)} (b : BI mg) (h : Hd K mg "_law_pick" s_law_pick nP_law_pick) (c_law_draw : DefG P w0 K mg base 1 "_law_draw" s_law_draw nP_law_draw (dkR 1 (curD1 dr))) : DefG P w0 K mg base 2 "_law_pick" s_law_pick nP_law_pick (dkR 1 (curD1 (ML.m_law_pick_0769 dr))) :=
  mk_dk (cl := cl) h sc_law_pick
  (pdss_one (pds_ret (pd_ix (pd_var 1) (pd_call 2 (c_law_draw.to) rfl (pda_cons (pd_var 0) (pda_cons (pd_len rfl b.len (pda_cons (pd_var 1) pda_nil)) pda_nil))))))
  (is_ret (im_op ir_ix im_var (im_callD arD1 (im_cons im_var (im_cons (im_ca ic_len (im_cons im_var im_nil)) im_nil)))))
  (hfD1 fun _ _ => rfl)
theorem ok_law_order {P : Program} {w0 : World} {K : PySem.W.Frag} {mg : Str → Option Value} {base : Heap} {cl : Str → Addr} {dr : Dk → PyData → RV (PyData × Dk)} (b : BI mg) (h : Hd K mg "_law_order" s_law_order nP_law_order) (c_law_draw : DefG P w0 K mg base 1 "_law_draw" s_law_draw nP_law_draw (dkR 1 (curD1 dr))) : DefG P w0 K mg base 2 "_law_order" s_law_order nP_law_order (dkR 1 (curD1 (ML.m_law_order_0df0 dr))) :=
  mk_dk (cl := cl) h sc_law_order
  (pdss_cons (pds_par 2 3 (pda_cons (pd_listRg (pd_var 1) rfl b.range rfl b.list_) (pda_cons (pd_lst pda_nil) pda_nil)) (hw := (fun env e => by cases env; cases e; rfl)))
  (pdss_cons (pds_for (pdi_range1 (pda_cons (pd_var 1) pda_nil) rfl b.range) (pdg_name 4) (pdss_one (pds_expr (pd_append (pd_var 3) (pda_cons (pd_popAt (pd_var 2) (pda_cons (pd_call 2 (c_law_draw.to) rfl (pda_cons (pd_var 0) (pda_cons (pd_len rfl b.len (pda_cons (pd_var 2) pda_nil)) pda_nil))) pda_nil)) pda_nil)))))
  (pdss_one (pds_ret (pd_tuple rfl b.tuple_ (pda_cons (pd_var 3) pda_nil))))))
  (is_seq (is_par (im_cons (im_un iu_lrg im_var) (im_cons (im_lst im_nil) im_nil)))
  (is_seq (is_for (ii_r1 (im_cons im_var im_nil)) ig_name nx_name (is_exp (im_bm imm_app im_var (im_cons (im_bm imm_popAt im_var (im_cons (im_callD arD1 (im_cons im_var (im_cons (im_ca ic_len (im_cons im_var im_nil)) im_nil))) im_nil)) im_nil))))
  (is_ret (im_ca ic_tuple (im_cons im_var im_nil)))))
  (hfD1 fun _ _ => rfl)
theorem ok_law_spots {P : Program} {w0 : World} {K : PySem.W.Frag} {mg : Str → Option Value} {base : Heap} {cl : Str → Addr} (b : BI mg) (h : Hd K mg "_law_spots" s_law_spots nP_law_spots) : DefG P w0 K mg base 1 "_law_spots" s_law_spots nP_law_spots (purR cl 1 (cur1 ML.m_law_spots_91d2)) :=
  mk_pur h sc_law_spots
  (pdss_cons (pds_set 1 (pd_lst pda_nil))
  (pdss_cons (pds_for (pdi_enumA (pda_cons (pd_var 0) pda_nil) rfl b.enumerate) (pdg_seq (n := 2) (pdgs_cons (pdg_name 2) (pdgs_cons (pdg_name 3) pdgs_nil))) (pdss_one (pds_trim (pds_expr (pd_extend (pd_var 1) (pda_cons (pd_lcF (own := [("_law_i", 4)]) (pdi_range1 (pda_cons (pd_var 3) pda_nil) rfl b.range) (blkOk_by (own := [("_law_i", 4)]) (N := nN_law_spots) (sc := defScope s_law_spots) (by decide +kernel)) (pdg_name 4) pdts_nil (pd_tup (pda_cons (pd_var 2) (pda_cons (pd_var 4) pda_nil)))) pda_nil))))))
  (pdss_one (pds_ret (pd_frz (pd_var 1))))))
  (is_seq (is_asg (im_lst im_nil) ig_name nx_name)
  (is_seq (is_for (ii_enu (im_cons im_var im_nil)) (ig_seq (igs_cons ig_name (igs_cons ig_name igs_nil))) (nx_seq (nxs_cons nx_name (nxs_cons nx_name nxs_nil))) (is_trim (is_exp (im_bm imm_extA im_var (im_cons (im_lcF (ii_r1 (im_cons im_var im_nil)) ig_name im_yes (im_tup (im_cons im_var (im_cons im_var im_nil)))) im_nil)))))
  (is_ret (im_frz im_var))))
  (hf1 fun _ => rfl)
theorem ok_law_rings {P : Program} {w0 : World} {K : PySem.W.Frag} {mg : Str → Option Value} {base : Heap} {cl : Str → Addr} {dr : Dk → PyData → RV (PyData × Dk)} (b : BI mg) (h : Hd K mg "_law_rings" s_law_rings nP_law_rings) (c_law_pick : DefG P w0 K mg base 2 "_law_pick" s_law_pick nP_law_pick (dkR 1 (curD1 (ML.m_law_pick_0769 dr)))) : DefG P w0 K mg base 3 "_law_rings" s_law_rings nP_law_rings (dkR 1 (curD1 (ML.m_law_rings_72bf dr))) :=
  mk_dk (cl := cl) h sc_law_rings
  (pdss_cons (pds_par 2 3 (pda_cons (pd_lst pda_nil) (pda_cons (pd_var 1) pda_nil)) (hw := (fun env e => by cases env; cases e; rfl)))
  (pdss_cons (pds_for (pdi_range1 (pda_cons (pd_call 2 (c_law_pick.to) rfl (pda_cons (pd_var 0) (pda_cons (pd_tup (pda_cons pd_int (pda_cons pd_int (pda_cons pd_int (pda_cons pd_int (pda_cons pd_int (pda_cons pd_int (pda_cons pd_int (pda_cons pd_int pda_nil))))))))) pda_nil))) pda_nil) rfl b.range) (pdg_name 4) (pdss_cons (pds_set 5 (pd_call 2 (c_law_pick.to) rfl (pda_cons (pd_var 0) (pda_cons (pd_tup (pda_cons pd_int (pda_cons pd_int (pda_cons pd_int (pda_cons pd_int (pda_cons pd_int (pda_cons pd_int (pda_cons pd_int (pda_cons pd_int pda_nil))))))))) pda_nil))))
  (pdss_one (pds_if (pdt_cmpD cd_le (pd_var 5) (pd_var 3)) (pdss_cons (pds_expr (pd_append (pd_var 2) (pda_cons (pd_var 5) pda_nil)))
  (pdss_one (pds_set 3 (pd_bin bd_sub (pd_var 3) (pd_var 5))))) pdss_nil))))
  (pdss_one (pds_ret (pd_ifE (pdt_cmpD cd_neA (pd_var 2) (pd_ft (pd_lst pda_nil))) (pd_tuple rfl b.tuple_ (pda_cons (pd_var 2) pda_nil)) (pd_tup (pda_cons pd_int pda_nil)))))))
  (is_seq (is_par (im_cons (im_lst im_nil) (im_cons im_var im_nil)))
  (is_seq (is_for (ii_r1 (im_cons (im_callD arD1 (im_cons im_var (im_cons (im_tup (im_cons im_c (im_cons im_c (im_cons im_c (im_cons im_c (im_cons im_c (im_cons im_c (im_cons im_c (im_cons im_c im_nil))))))))) im_nil))) im_nil)) ig_name nx_name (is_seq (is_asg (im_callD arD1 (im_cons im_var (im_cons (im_tup (im_cons im_c (im_cons im_c (im_cons im_c (im_cons im_c (im_cons im_c (im_cons im_c (im_cons im_c (im_cons im_c im_nil))))))))) im_nil))) ig_name nx_name)
  (is_if (im_b (im_op ir_II im_var im_var)) (is_seq (is_exp (im_bm imm_app im_var (im_cons im_var im_nil)))
  (is_asg (im_op ir_II im_var im_var) ig_name nx_name)) is_next)))
  (is_ret (im_ifE (im_b (im_op ir_neA im_var (im_ft (im_lst im_nil)))) (im_ca ic_tuple (im_cons im_var im_nil)) (im_tup (im_cons im_c im_nil))))))
  (hfD1 fun _ _ => rfl)
theorem ok_law_floor {P : Program} {w0 : World} {K : PySem.W.Frag} {mg : Str → Option Value} {base : Heap} {cl : Str → Addr} {dr : Dk → PyData → RV (PyData × Dk)} (b : BI mg) (h : Hd K mg "_law_floor" s_law_floor nP_law_floor) (c_law_rings : DefG P w0 K mg base 3 "_law_rings" s_law_rings nP_law_rings (dkR 1 (curD1 (ML.m_law_rings_72bf dr)))) (c_law_spots : DefG P w0 K mg base 1 "_law_spots" s_law_spots nP_law_spots (purR cl 1 (cur1 ML.m_law_spots_91d2))) (c_law_order : DefG P w0 K mg base 2 "_law_order" s_law_order nP_law_order (dkR 1 (curD1 (ML.m_law_order_0df0 dr)))) (c_law_draw : DefG P w0 K mg base 1 "_law_draw" s_law_draw nP_law_draw (dkR 1 (curD1 dr))) : DefG P w0 K mg base 4 "_law_floor" s_law_floor nP_law_floor (dkR 1 (curD1 (ML.m_law_floor_532c dr))) :=
  mk_dk (cl := cl) h sc_law_floor
  (pdss_cons (pds_par 2 3 (pda_cons (pd_call 2 (c_law_rings.to) rfl (pda_cons (pd_var 0) (pda_cons (pd_var 1) pda_nil))) (pda_cons (pd_lst pda_nil) pda_nil)) (hw := (fun env e => by cases env; cases e; rfl)))
  (pdss_cons (pds_set 4 (pd_call 0 (c_law_spots.to) rfl (pda_cons (pd_var 2) pda_nil)))
  (pdss_cons (pds_par 5 6 (pda_cons (pd_call 2 (c_law_order.to) rfl (pda_cons (pd_var 0) (pda_cons (pd_len rfl b.len (pda_cons (pd_var 4) pda_nil)) pda_nil))) (pda_cons (pd_call 2 (c_law_draw.to) rfl (pda_cons (pd_var 0) (pda_cons pd_int pda_nil))) pda_nil)) (hw := (fun env e => by cases env; cases e; rfl)))
  (pdss_cons (pds_for (pdi_range1 (pda_cons (pd_ifE (pdt_cmpD cd_gt (pd_var 6) pd_int) (pd_call 2 (c_law_draw.to) rfl (pda_cons (pd_var 0) (pda_cons (pd_bin bd_addA (pd_min2 rfl b.min (pda_cons pd_int (pda_cons (pd_bin bd_div (pd_len rfl b.len (pda_cons (pd_var 4) pda_nil)) pd_int) pda_nil))) pd_int) pda_nil))) (pd_min2 rfl b.min (pda_cons pd_int (pda_cons (pd_bin bd_div (pd_len rfl b.len (pda_cons (pd_var 4) pda_nil)) pd_int) pda_nil)))) pda_nil) rfl b.range) (pdg_name 7) (pdss_cons (pds_asg (pd_ft (pd_sorted rfl b.sorted (pda_cons (pd_ft (pd_lst (pda_cons (pd_ix (pd_var 4) (pd_ix (pd_var 5) (pd_bin bd_mulA pd_int (pd_var 7)))) (pda_cons (pd_ix (pd_var 4) (pd_ix (pd_var 5) (pd_bin bd_addA (pd_bin bd_mulA pd_int (pd_var 7)) pd_int))) pda_nil)))) pda_nil))) (pdg_seq (n := 2) (pdgs_cons (pdg_name 8) (pdgs_cons (pdg_name 9) pdgs_nil))))
  (pdss_one (pds_expr (pd_append (pd_var 3) (pda_cons (pd_tup (pda_cons (pd_var 8) (pda_cons (pd_var 9) pda_nil))) pda_nil))))))
  (pdss_one (pds_ret (pd_tup (pda_cons (pd_var 2) (pda_cons (pd_tuple rfl b.tuple_ (pda_cons (pd_ft (pd_sorted rfl b.sorted (pda_cons (pd_var 3) pda_nil))) pda_nil)) pda_nil)))))))))
  (is_seq (is_par (im_cons (im_callD arD1 (im_cons im_var (im_cons im_var im_nil))) (im_cons (im_lst im_nil) im_nil)))
  (is_seq (is_asg (im_call ar1 (im_cons im_var im_nil)) ig_name nx_name)
  (is_seq (is_par (im_cons (im_callD arD1 (im_cons im_var (im_cons (im_ca ic_len (im_cons im_var im_nil)) im_nil))) (im_cons (im_callD arD1 (im_cons im_var (im_cons im_c im_nil))) im_nil)))
  (is_seq (is_for (ii_r1 (im_cons (im_ifE (im_b (im_op ir_II im_var im_c)) (im_callD arD1 (im_cons im_var (im_cons (im_op ir_addA (im_ca ic_min (im_cons im_c (im_cons (im_op ir_IIc (im_ca ic_len (im_cons im_var im_nil)) im_c) im_nil))) im_c) im_nil))) (im_ca ic_min (im_cons im_c (im_cons (im_op ir_IIc (im_ca ic_len (im_cons im_var im_nil)) im_c) im_nil)))) im_nil)) ig_name nx_name (is_seq (is_asg (im_ft (im_ca ic_sorted (im_cons (im_ft (im_lst (im_cons (im_op ir_ix im_var (im_op ir_ix im_var (im_op ir_mulA im_c im_var))) (im_cons (im_op ir_ix im_var (im_op ir_ix im_var (im_op ir_addA (im_op ir_mulA im_c im_var) im_c))) im_nil)))) im_nil))) (ig_seq (igs_cons ig_name (igs_cons ig_name igs_nil))) (nx_seq (nxs_cons nx_name (nxs_cons nx_name nxs_nil))))
  (is_exp (im_bm imm_app im_var (im_cons (im_tup (im_cons im_var (im_cons im_var im_nil))) im_nil)))))
  (is_ret (im_tup (im_cons im_var (im_cons (im_ca ic_tuple (im_cons (im_ft (im_ca ic_sorted (im_cons im_var im_nil))) im_nil)) im_nil))))))))
  (hfD1 fun _ _ => rfl)
theorem ok_law_wide_floor {P : Program} {w0 : World} {K : PySem.W.Frag} {mg : Str → Option Value} {base : Heap} {cl : Str → Addr} {dr : Dk → PyData → RV (PyData × Dk)} (b : BI mg) (h : Hd K mg "_law_wide_floor" s_law_wide_floor nP_law_wide_floor) (c_law_draw : DefG P w0 K mg base 1 "_law_draw" s_law_draw nP_law_draw (dkR 1 (curD1 dr))) (c_law_pick : DefG P w0 K mg base 2 "_law_pick" s_law_pick nP_law_pick (dkR 1 (curD1 (ML.m_law_pick_0769 dr)))) (c_law_spots : DefG P w0 K mg base 1 "_law_spots" s_law_spots nP_law_spots (purR cl 1 (cur1 ML.m_law_spots_91d2))) (c_law_order : DefG P w0 K mg base 2 "_law_order" s_law_order nP_law_order (dkR 1 (curD1 (ML.m_law_order_0df0 dr)))) : DefG P w0 K mg base 3 "_law_wide_floor" s_law_wide_floor nP_law_wide_floor (dkR 0 (curD0 (ML.m_law_wide_floor_42ef dr))) :=
  mk_dk (cl := cl) h sc_law_wide_floor
  (pdss_cons (pds_par 1 2 (pda_cons (pd_lst pda_nil) (pda_cons pd_int pda_nil)) (hw := (fun env e => by cases env; cases e; rfl)))
  (pdss_cons (pds_for (pdi_range1 (pda_cons (pd_bin bd_addA pd_int (pd_call 2 (c_law_draw.to) rfl (pda_cons (pd_var 0) (pda_cons pd_int pda_nil)))) pda_nil) rfl b.range) (pdg_name 3) (pdss_cons (pds_set 4 (pd_bin bd_addA pd_int (pd_call 2 (c_law_draw.to) rfl (pda_cons (pd_var 0) (pda_cons (pd_call 2 (c_law_pick.to) rfl (pda_cons (pd_var 0) (pda_cons (pd_tup (pda_cons pd_int (pda_cons pd_int (pda_cons pd_int pda_nil)))) pda_nil))) pda_nil)))))
  (pdss_one (pds_if (pdt_cmpD cd_le (pd_var 4) (pd_var 2)) (pdss_cons (pds_expr (pd_append (pd_var 1) (pda_cons (pd_var 4) pda_nil)))
  (pdss_one (pds_set 2 (pd_bin bd_sub (pd_var 2) (pd_var 4))))) pdss_nil))))
  (pdss_cons (pds_if (pdt_cmpD cd_eqA (pd_var 1) (pd_ft (pd_lst pda_nil))) (pdss_one (pds_set 1 (pd_lst (pda_cons pd_int pda_nil)))) pdss_nil)
  (pdss_cons (pds_set 5 (pd_call 0 (c_law_spots.to) rfl (pda_cons (pd_frz (pd_var 1)) pda_nil)))
  (pdss_cons (pds_par 6 7 (pda_cons (pd_call 2 (c_law_order.to) rfl (pda_cons (pd_var 0) (pda_cons (pd_len rfl b.len (pda_cons (pd_var 5) pda_nil)) pda_nil))) (pda_cons (pd_lst pda_nil) pda_nil)) (hw := (fun env e => by cases env; cases e; rfl)))
  (pdss_cons (pds_for (pdi_range1 (pda_cons (pd_call 2 (c_law_draw.to) rfl (pda_cons (pd_var 0) (pda_cons (pd_bin bd_addA (pd_min2 rfl b.min (pda_cons pd_int (pda_cons (pd_bin bd_div (pd_len rfl b.len (pda_cons (pd_var 5) pda_nil)) pd_int) pda_nil))) pd_int) pda_nil))) pda_nil) rfl b.range) (pdg_name 3) (pdss_one (pds_expr (pd_append (pd_var 7) (pda_cons (pd_tuple rfl b.tuple_ (pda_cons (pd_ft (pd_sorted rfl b.sorted (pda_cons (pd_ft (pd_lst (pda_cons (pd_ix (pd_var 5) (pd_ix (pd_var 6) (pd_bin bd_mulA pd_int (pd_var 3)))) (pda_cons (pd_ix (pd_var 5) (pd_ix (pd_var 6) (pd_bin bd_addA (pd_bin bd_mulA pd_int (pd_var 3)) pd_int))) pda_nil)))) pda_nil))) pda_nil)) pda_nil)))))
  (pdss_one (pds_ret (pd_tup (pda_cons (pd_tuple rfl b.tuple_ (pda_cons (pd_var 1) pda_nil)) (pda_cons (pd_tuple rfl b.tuple_ (pda_cons (pd_ft (pd_sorted rfl b.sorted (pda_cons (pd_var 7) pda_nil))) pda_nil)) pda_nil)))))))))))
  (is_seq (is_par (im_cons (im_lst im_nil) (im_cons im_c im_nil)))
  (is_seq (is_for (ii_r1 (im_cons (im_op ir_addA im_c (im_callD arD1 (im_cons im_var (im_cons im_c im_nil)))) im_nil)) ig_name nx_name (is_seq (is_asg (im_op ir_addA im_c (im_callD arD1 (im_cons im_var (im_cons (im_callD arD1 (im_cons im_var (im_cons (im_tup (im_cons im_c (im_cons im_c (im_cons im_c im_nil)))) im_nil))) im_nil)))) ig_name nx_name)
  (is_if (im_b (im_op ir_II im_var im_var)) (is_seq (is_exp (im_bm imm_app im_var (im_cons im_var im_nil)))
  (is_asg (im_op ir_II im_var im_var) ig_name nx_name)) is_next)))
  (is_seq (is_if (im_b (im_op ir_eqA im_var (im_ft (im_lst im_nil)))) (is_asg (im_lst (im_cons im_c im_nil)) ig_name nx_name) is_next)
  (is_seq (is_asg (im_call ar1 (im_cons (im_frz im_var) im_nil)) ig_name nx_name)
  (is_seq (is_par (im_cons (im_callD arD1 (im_cons im_var (im_cons (im_ca ic_len (im_cons im_var im_nil)) im_nil))) (im_cons (im_lst im_nil) im_nil)))
  (is_seq (is_for (ii_r1 (im_cons (im_callD arD1 (im_cons im_var (im_cons (im_op ir_addA (im_ca ic_min (im_cons im_c (im_cons (im_op ir_IIc (im_ca ic_len (im_cons im_var im_nil)) im_c) im_nil))) im_c) im_nil))) im_nil)) ig_name nx_name (is_exp (im_bm imm_app im_var (im_cons (im_ca ic_tuple (im_cons (im_ft (im_ca ic_sorted (im_cons (im_ft (im_lst (im_cons (im_op ir_ix im_var (im_op ir_ix im_var (im_op ir_mulA im_c im_var))) (im_cons (im_op ir_ix im_var (im_op ir_ix im_var (im_op ir_addA (im_op ir_mulA im_c im_var) im_c))) im_nil)))) im_nil))) im_nil)) im_nil))))
  (is_ret (im_tup (im_cons (im_ca ic_tuple (im_cons im_var im_nil)) (im_cons (im_ca ic_tuple (im_cons (im_ft (im_ca ic_sorted (im_cons im_var im_nil))) im_nil)) im_nil))))))))))
  (hfD0 fun _ => rfl)
theorem ok_law_behind {P : Program} {w0 : World} {K : PySem.W.Frag} {mg : Str → Option Value} {base : Heap} {cl : Str → Addr} (b : BI mg) (h : Hd K mg "_law_behind" s_law_behind nP_law_behind) : DefG P w0 K mg base 1 "_law_behind" s_law_behind nP_law_behind (purR cl 3 (cur3 ML.m_law_behind_1f8d)) :=
  mk_pur h sc_law_behind
  (pdss_one (pds_ret (pd_tup (pda_cons (pd_ix (pd_var 1) pd_int) (pda_cons (pd_bin bd_mod (pd_intC rfl b.int_ (pda_cons (pd_bin bd_addA (pd_ix (pd_var 1) pd_int) (pd_var 2)) pda_nil)) (pd_ix (pd_ix (pd_var 0) pd_int) (pd_ix (pd_var 1) pd_int))) pda_nil)))))
  (is_ret (im_tup (im_cons (im_op ir_ix im_var im_c) (im_cons (im_op ir_mod (im_ca ic_int (im_cons (im_op ir_addA (im_op ir_ix im_var im_c) im_var) im_nil)) (im_op ir_ix (im_op ir_ix im_var im_c) (im_op ir_ix im_var im_c))) im_nil))))
  (hf3 fun _ _ _ => rfl)
theorem ok_law_partners {P : Program} {w0 : World} {K : PySem.W.Frag} {mg : Str → Option Value} {base : Heap} {cl : Str → Addr} (h : Hd K mg "_law_partners" s_law_partners nP_law_partners) : DefG P w0 K mg base 1 "_law_partners" s_law_partners nP_law_partners (purR cl 1 (cur1 ML.m_law_partners_35b8)) :=
  mk_pur h sc_law_partners
  (pdss_cons (pds_set 1 pd_newT)
  (pdss_cons (pds_for (pdi_any (pd_ix (pd_var 0) pd_int)) (pdg_seq (n := 2) (pdgs_cons (pdg_name 2) (pdgs_cons (pdg_name 3) pdgs_nil))) (pdss_cons (pds_put (pd_var 1) (pd_var 2) (pd_var 3))
  (pdss_one (pds_put (pd_var 1) (pd_var 3) (pd_var 2)))))
  (pdss_one (pds_ret (pd_frz (pd_var 1))))))
  (is_seq (is_asg im_newT ig_name nx_name)
  (is_seq (is_for (ii_a (im_op ir_ix im_var im_c)) (ig_seq (igs_cons ig_name (igs_cons ig_name igs_nil))) (nx_seq (nxs_cons nx_name (nxs_cons nx_name nxs_nil))) (is_seq (is_put im_var im_var im_var)
  (is_put im_var im_var im_var)))
  (is_ret (im_frz im_var))))
  (hf1 fun _ => rfl)
theorem ok_law_is_place_right {P : Program} {w0 : World} {K : PySem.W.Frag} {mg : Str → Option Value} {base : Heap} {cl : Str → Addr} {dr : Dk → PyData → RV (PyData × Dk)} (b : BI mg) (h : Hd K mg "_law_is_place_right" s_law_is_place_right nP_law_is_place_right) (c_is_place : DefG P w0 K mg base 7 "is_place" s_is_place nP_is_place (purR cl 2 (cur2 MP.m_is_place))) (c_seat : DefG P w0 K mg base 9 "seat" s_seat nP_seat (purR cl 2 (cur2 MP.m_seat))) (c_partner : DefG P w0 K mg base 9 "partner" s_partner nP_partner (purR cl 2 (cur2 MP.m_partner))) (c_behind : DefG P w0 K mg base 9 "behind" s_behind nP_behind (purR cl 3 (cur3 MP.m_behind))) (c_law_pick : DefG P w0 K mg base 2 "_law_pick" s_law_pick nP_law_pick (dkR 1 (curD1 (ML.m_law_pick_0769 dr)))) (c_law_draw : DefG P w0 K mg base 1 "_law_draw" s_law_draw nP_law_draw (dkR 1 (curD1 dr))) (c_law_behind : DefG P w0 K mg base 1 "_law_behind" s_law_behind nP_law_behind (purR cl 3 (cur3 ML.m_law_behind_1f8d))) : DefG P w0 K mg base 10 "_law_is_place_right" s_law_is_place_right nP_law_is_place_right (dkR 4 (curD4 (ML.m_law_is_place_right_92ff dr))) :=
  mk_dk (cl := cl) h sc_law_is_place_right
  (pdss_cons (pds_set 5 (pd_ix (pd_ix (pd_var 1) pd_int) (pd_ix (pd_var 2) pd_int)))
  (pdss_cons (pds_if (pdt_cmpD cd_neA (pd_repr rfl b.repr_ (pda_cons (pd_tup (pda_cons (pd_call 0 (c_seat.to) rfl (pda_cons (pd_var 1) (pda_cons (pd_var 2) pda_nil))) (pda_cons (pd_callK (ks := ["place", "floor"]) 0 [1, 0] (c_seat.to) rfl (pdk_cons (pd_var 2) (pdk_cons (pd_var 1) pdk_nil)) (fun _ _ _ _ _ _ us hl => match us, hl with | [_, _], _ => rfl)) (pda_cons (pd_call 0 (c_is_place.to) rfl (pda_cons (pd_var 1) (pda_cons (pd_var 2) pda_nil))) pda_nil)))) pda_nil)) (pd_repr rfl b.repr_ (pda_cons (pd_tup (pda_cons (pd_var 3) (pda_cons (pd_var 3) (pda_cons pd_bl pda_nil)))) pda_nil))) (pdss_one (pds_ret pd_bl)) pdss_nil)
  (pdss_cons (pds_set 6 (pd_get2 (pd_var 4) (pd_var 2) pd_non))
  (pdss_cons (pds_if (pdt_cmpD cd_neA (pd_repr rfl b.repr_ (pda_cons (pd_tup (pda_cons (pd_call 0 (c_partner.to) rfl (pda_cons (pd_var 1) (pda_cons (pd_var 2) pda_nil))) (pda_cons (pd_callK (ks := ["place", "floor"]) 0 [1, 0] (c_partner.to) rfl (pdk_cons (pd_var 2) (pdk_cons (pd_var 1) pdk_nil)) (fun _ _ _ _ _ _ us hl => match us, hl with | [_, _], _ => rfl)) pda_nil))) pda_nil)) (pd_repr rfl b.repr_ (pda_cons (pd_tup (pda_cons (pd_var 6) (pda_cons (pd_var 6) pda_nil))) pda_nil))) (pdss_one (pds_ret pd_bl)) pdss_nil)
  (pdss_cons (pds_if (PDW.pt (pdw_and (pdt_cmpD cd_notN (pd_var 6) pd_non) (pdw_and1 (pdt_cmpD cd_neA (pd_repr rfl b.repr_ (pda_cons (pd_call 0 (c_partner.to) rfl (pda_cons (pd_var 1) (pda_cons (pd_var 6) pda_nil))) pda_nil)) (pd_repr rfl b.repr_ (pda_cons (pd_var 2) pda_nil)))))) (pdss_one (pds_ret pd_bl)) pdss_nil)
  (pdss_cons (pds_set 7 (pd_var 2))
  (pdss_cons (pds_for (pdi_range1 (pda_cons pd_int pda_nil) rfl b.range) (pdg_name 8) (pdss_cons (pds_if (pdt_cmpD cd_neA (pd_repr rfl b.repr_ (pda_cons (pd_tup (pda_cons (pd_call 0 (c_behind.to) rfl (pda_cons (pd_var 1) (pda_cons (pd_var 2) (pda_cons (pd_var 8) pda_nil)))) (pda_cons (pd_call 0 (c_behind.to) rfl (pda_cons (pd_var 1) (pda_cons (pd_var 7) (pda_cons (pd_neg (pd_var 8)) pda_nil)))) pda_nil))) pda_nil)) (pd_repr rfl b.repr_ (pda_cons (pd_tup (pda_cons (pd_var 7) (pda_cons (pd_var 2) pda_nil))) pda_nil))) (pdss_one (pds_ret pd_bl)) pdss_nil)
  (pdss_one (pds_set 7 (pd_ifE (pdt_cmpD cd_ltA (pd_bin bd_addA (pd_ix (pd_var 7) pd_int) pd_int) (pd_var 5)) (pd_tup (pda_cons (pd_ix (pd_var 7) pd_int) (pda_cons (pd_bin bd_addA (pd_ix (pd_var 7) pd_int) pd_int) pda_nil))) (pd_tup (pda_cons (pd_ix (pd_var 7) pd_int) (pda_cons pd_int pda_nil))))))))
  (pdss_cons (pds_set 9 (pd_bin bd_addA (pd_call 2 (c_law_pick.to) rfl (pda_cons (pd_var 0) (pda_cons (pd_ft (pd_lst (pda_cons (pd_bin bd_mulA (pd_bin bd_pow pd_int pd_int) (pd_bin bd_pow pd_int pd_int)) (pda_cons (pd_bin bd_pow pd_int pd_int) (pda_cons (pd_bin bd_pow pd_int pd_int) (pda_cons pd_int pda_nil)))))) pda_nil))) (pd_call 2 (c_law_draw.to) rfl (pda_cons (pd_var 0) (pda_cons (pd_bin bd_pow pd_int pd_int) pda_nil)))))
  (pdss_cons (pds_set 8 (pd_call 2 (c_law_pick.to) rfl (pda_cons (pd_var 0) (pda_cons (pd_ft (pd_lst (pda_cons (pd_var 9) (pda_cons (pd_neg (pd_var 9)) (pda_cons (pd_bin bd_sub (pd_call 2 (c_law_draw.to) rfl (pda_cons (pd_var 0) (pda_cons pd_int pda_nil))) pd_int) (pda_cons (pd_var 5) (pda_cons (pd_neg (pd_var 5)) (pda_cons pd_int pda_nil)))))))) pda_nil))))
  (pdss_cons (pds_par 10 11 (pda_cons (pd_call 0 (c_law_behind.to) rfl (pda_cons (pd_var 1) (pda_cons (pd_var 2) (pda_cons (pd_var 8) pda_nil)))) (pda_cons (pd_bin bd_sub (pd_call 2 (c_law_draw.to) rfl (pda_cons (pd_var 0) (pda_cons pd_int pda_nil))) pd_int) pda_nil)) (hw := (fun env e => by cases env; cases e; rfl)))
  (pdss_cons (pds_if (pdt_cmpD cd_neA (pd_repr rfl b.repr_ (pda_cons (pd_tup (pda_cons (pd_call 0 (c_behind.to) rfl (pda_cons (pd_var 1) (pda_cons (pd_var 2) (pda_cons (pd_var 8) pda_nil)))) (pda_cons (pd_callK (ks := ["k", "place", "floor"]) 0 [2, 1, 0] (c_behind.to) rfl (pdk_cons (pd_var 8) (pdk_cons (pd_var 2) (pdk_cons (pd_var 1) pdk_nil))) (fun _ _ _ _ _ _ us hl => match us, hl with | [_, _, _], _ => rfl)) pda_nil))) pda_nil)) (pd_repr rfl b.repr_ (pda_cons (pd_tup (pda_cons (pd_var 10) (pda_cons (pd_var 10) pda_nil))) pda_nil))) (pdss_one (pds_ret pd_bl)) pdss_nil)
  (pdss_one (pds_ret (pd_cmpD cd_eqA (pd_repr rfl b.repr_ (pda_cons (pd_call 0 (c_behind.to) rfl (pda_cons (pd_var 1) (pda_cons (pd_var 10) (pda_cons (pd_var 11) pda_nil)))) pda_nil)) (pd_repr rfl b.repr_ (pda_cons (pd_call 0 (c_behind.to) rfl (pda_cons (pd_var 1) (pda_cons (pd_var 2) (pda_cons (pd_intC rfl b.int_ (pda_cons (pd_bin bd_mod (pd_bin bd_addA (pd_var 8) (pd_var 11)) (pd_var 5)) pda_nil)) pda_nil)))) pda_nil))))))))))))))))
  (is_seq (is_asg (im_op ir_ix (im_op ir_ix im_var im_c) (im_op ir_ix im_var im_c)) ig_name nx_name)
  (is_seq (is_if (im_b (im_op ir_neA (im_ca ic_repr (im_cons (im_tup (im_cons (im_call ar2 (im_cons im_var (im_cons im_var im_nil))) (im_cons (im_callK ar2 (im_cons im_var (im_cons im_var im_nil))) (im_cons (im_call ar2 (im_cons im_var (im_cons im_var im_nil))) im_nil)))) im_nil)) (im_ca ic_repr (im_cons (im_tup (im_cons im_var (im_cons im_var (im_cons im_c im_nil)))) im_nil)))) (is_ret im_c) is_next)
  (is_seq (is_asg (im_get2 im_var im_var im_c) ig_name nx_name)
  (is_seq (is_if (im_b (im_op ir_neA (im_ca ic_repr (im_cons (im_tup (im_cons (im_call ar2 (im_cons im_var (im_cons im_var im_nil))) (im_cons (im_callK ar2 (im_cons im_var (im_cons im_var im_nil))) im_nil))) im_nil)) (im_ca ic_repr (im_cons (im_tup (im_cons im_var (im_cons im_var im_nil))) im_nil)))) (is_ret im_c) is_next)
  (is_seq (is_if (im_andT (im_b (im_op ir_isnot im_var im_c)) (im_b (im_op ir_neA (im_ca ic_repr (im_cons (im_call ar2 (im_cons im_var (im_cons im_var im_nil))) im_nil)) (im_ca ic_repr (im_cons im_var im_nil))))) (is_ret im_c) is_next)
  (is_seq (is_asg im_var ig_name nx_name)
  (is_seq (is_for (ii_r1 (im_cons im_c im_nil)) ig_name nx_name (is_seq (is_if (im_b (im_op ir_neA (im_ca ic_repr (im_cons (im_tup (im_cons (im_call ar3 (im_cons im_var (im_cons im_var (im_cons im_var im_nil)))) (im_cons (im_call ar3 (im_cons im_var (im_cons im_var (im_cons (im_un iu_neg im_var) im_nil)))) im_nil))) im_nil)) (im_ca ic_repr (im_cons (im_tup (im_cons im_var (im_cons im_var im_nil))) im_nil)))) (is_ret im_c) is_next)
  (is_asg (im_ifE (im_b (im_op ir_ltA (im_op ir_addA (im_op ir_ix im_var im_c) im_c) im_var)) (im_tup (im_cons (im_op ir_ix im_var im_c) (im_cons (im_op ir_addA (im_op ir_ix im_var im_c) im_c) im_nil))) (im_tup (im_cons (im_op ir_ix im_var im_c) (im_cons im_c im_nil)))) ig_name nx_name)))
  (is_seq (is_asg (im_op ir_addA (im_callD arD1 (im_cons im_var (im_cons (im_ft (im_lst (im_cons (im_op ir_mulA (im_op ir_IIc im_c im_c) (im_op ir_IIc im_c im_c)) (im_cons (im_op ir_IIc im_c im_c) (im_cons (im_op ir_IIc im_c im_c) (im_cons im_c im_nil)))))) im_nil))) (im_callD arD1 (im_cons im_var (im_cons (im_op ir_IIc im_c im_c) im_nil)))) ig_name nx_name)
  (is_seq (is_asg (im_callD arD1 (im_cons im_var (im_cons (im_ft (im_lst (im_cons im_var (im_cons (im_un iu_neg im_var) (im_cons (im_op ir_II (im_callD arD1 (im_cons im_var (im_cons im_c im_nil))) im_c) (im_cons im_var (im_cons (im_un iu_neg im_var) (im_cons im_c im_nil)))))))) im_nil))) ig_name nx_name)
  (is_seq (is_par (im_cons (im_call ar3 (im_cons im_var (im_cons im_var (im_cons im_var im_nil)))) (im_cons (im_op ir_II (im_callD arD1 (im_cons im_var (im_cons im_c im_nil))) im_c) im_nil)))
  (is_seq (is_if (im_b (im_op ir_neA (im_ca ic_repr (im_cons (im_tup (im_cons (im_call ar3 (im_cons im_var (im_cons im_var (im_cons im_var im_nil)))) (im_cons (im_callK ar3 (im_cons im_var (im_cons im_var (im_cons im_var im_nil)))) im_nil))) im_nil)) (im_ca ic_repr (im_cons (im_tup (im_cons im_var (im_cons im_var im_nil))) im_nil)))) (is_ret im_c) is_next)
  (is_ret (im_op ir_eqA (im_ca ic_repr (im_cons (im_call ar3 (im_cons im_var (im_cons im_var (im_cons im_var im_nil)))) im_nil)) (im_ca ic_repr (im_cons (im_call ar3 (im_cons im_var (im_cons im_var (im_cons (im_ca ic_int (im_cons (im_op ir_mod (im_op ir_addA im_var im_var) im_var) im_nil)) im_nil)))) im_nil)))))))))))))))
  (hfD4 fun _ _ _ _ _ => rfl)
theorem ok_law {P : Program} {w0 : World} {K : PySem.W.Frag} {mg : Str → Option Value} {base : Heap} {cl : Str → Addr} {dr : Dk → PyData → RV (PyData × Dk)} (b : BI mg) (h : Hd K mg "law" s_law nP_law) (c_law_deck : DefG P w0 K mg base 1 "_law_deck" s_law_deck nP_law_deck (mkR 1 (curK1 (ML.m_law_deck_8ff7 10896209 57)))) (c_law_draw : DefG P w0 K mg base 1 "_law_draw" s_law_draw nP_law_draw (dkR 1 (curD1 dr))) (c_law_wide_floor : DefG P w0 K mg base 3 "_law_wide_floor" s_law_wide_floor nP_law_wide_floor (dkR 0 (curD0 (ML.m_law_wide_floor_42ef dr)))) (c_law_floor : DefG P w0 K mg base 4 "_law_floor" s_law_floor nP_law_floor (dkR 1 (curD1 (ML.m_law_floor_532c dr)))) (c_law_partners : DefG P w0 K mg base 1 "_law_partners" s_law_partners nP_law_partners (purR cl 1 (cur1 ML.m_law_partners_35b8))) (c_law_spots : DefG P w0 K mg base 1 "_law_spots" s_law_spots nP_law_spots (purR cl 1 (cur1 ML.m_law_spots_91d2))) (c_places : DefG P w0 K mg base 7 "places" s_places nP_places (purR cl 1 (cur1 MP.m_places))) (c_law_is_place_right : DefG P w0 K mg base 10 "_law_is_place_right" s_law_is_place_right nP_law_is_place_right (dkR 4 (curD4 (ML.m_law_is_place_right_92ff dr)))) (c_partner : DefG P w0 K mg base 9 "partner" s_partner nP_partner (purR cl 2 (cur2 MP.m_partner))) : DefG P w0 K mg base 11 "law" s_law nP_law (purR cl 1 (cur1 (m_law dr))) :=
  mk_pur h sc_law
  (pdss_cons (pds_set 1 (pd_callP [0, 1] (c_law_deck.to) rfl (pda_cons (pd_var 0) pda_nil)))
  (pdss_cons (pds_for (pdi_range1 (pda_cons pd_int pda_nil) rfl b.range) (pdg_name 2) (pdss_cons (pds_set 3 (pd_ifE (pdt_cmpD cd_eqA (pd_call 2 (c_law_draw.to) rfl (pda_cons (pd_var 1) (pda_cons pd_int pda_nil))) pd_int) (pd_call 2 (c_law_wide_floor.to) rfl (pda_cons (pd_var 1) pda_nil)) (pd_call 2 (c_law_floor.to) rfl (pda_cons (pd_var 1) (pda_cons pd_int pda_nil)))))
  (pdss_cons (pds_asgS (pd_tup (pda_cons (pd_call 0 (c_law_spots.to) rfl (pda_cons (pd_ix (pd_var 3) pd_int) pda_nil)) (pda_cons (pd_call 0 (c_law_partners.to) rfl (pda_cons (pd_var 3) pda_nil)) pda_nil))) (pdg_seq (n := 2) (pdgs_cons (pdg_name 4) (pdgs_cons (pdg_name 5) pdgs_nil))) (fun env e => by cases env; cases e; rfl))
  (pdss_cons (pds_if (pdt_cmpD cd_neA (pd_repr rfl b.repr_ (pda_cons (pd_tup (pda_cons (pd_call 0 (c_places.to) rfl (pda_cons (pd_var 3) pda_nil)) (pda_cons (pd_callK (ks := ["floor"]) 0 [0] (c_places.to) rfl (pdk_cons (pd_var 3) pdk_nil) (fun _ _ _ _ _ _ us hl => match us, hl with | [_], _ => rfl)) pda_nil))) pda_nil)) (pd_repr rfl b.repr_ (pda_cons (pd_bin bd_mulA (pd_tup (pda_cons (pd_tuple rfl b.tuple_ (pda_cons (pd_var 4) pda_nil)) pda_nil)) pd_int) pda_nil))) (pdss_one (pds_ret pd_bl)) pdss_nil)
  (pdss_cons (pds_set 6 (pd_ifE (pdt_cmpD cd_ltA (pd_len rfl b.len (pda_cons (pd_var 4) pda_nil)) pd_int) (pd_ft (pd_listRg (pd_len rfl b.len (pda_cons (pd_var 4) pda_nil)) rfl b.range rfl b.list_)) (pd_ft (pd_lcF (own := [("_law_more", 8)]) (pdi_range1 (pda_cons pd_int pda_nil) rfl b.range) (blkOk_by (own := [("_law_more", 8)]) (N := nN_law) (sc := defScope s_law) (by decide +kernel)) (pdg_name 8) pdts_nil (pd_call 2 (c_law_draw.toB) rfl (pda_cons (pd_var 1) (pda_cons (pd_len rfl b.len (pda_cons (pd_var 4) pda_nil)) pda_nil)))))))
  (pdss_cons (pds_for (pdi_any (pd_var 6)) (pdg_name 7) (pdss_one (pds_if (pdt_not (pdt_val (pd_call 2 (c_law_is_place_right.to) rfl (pda_cons (pd_var 1) (pda_cons (pd_var 3) (pda_cons (pd_ix (pd_var 4) (pd_var 7)) (pda_cons (pd_var 7) (pda_cons (pd_var 5) pda_nil)))))))) (pdss_one (pds_ret pd_bl)) pdss_nil)))
  (pdss_one (pds_if (pdt_neSd (pd_ft (pd_lcF (own := [("_law_place", 9)]) (pdi_any (pd_var 4)) (blkOk_by (own := [("_law_place", 9)]) (N := nN_law) (sc := defScope s_law) (by decide +kernel)) (pdg_name 9) (pdts_one (pdt_cmpD cd_notN (pd_call 0 (c_partner.toB) rfl (pda_cons (pd_var 3) (pda_cons (pd_var 9) pda_nil))) pd_non)) (pd_var 9))) (pd_var 5) rfl b.sorted) (pdss_one (pds_ret pd_bl)) pdss_nil))))))))
  (pdss_one (pds_ret pd_bl))))
  (is_seq (is_asg (im_mkDk arK1 (im_cons im_var im_nil)) ig_name nx_name)
  (is_seq (is_for (ii_r1 (im_cons im_c im_nil)) ig_name nx_name (is_seq (is_asg (im_ifE (im_b (im_op ir_eqA (im_callD arD1 (im_cons im_var (im_cons im_c im_nil))) im_c)) (im_callD arD0 (im_cons im_var im_nil)) (im_callD arD1 (im_cons im_var (im_cons im_c im_nil)))) ig_name nx_name)
  (is_seq (is_asg (im_tup (im_cons (im_call ar1 (im_cons (im_op ir_ix im_var im_c) im_nil)) (im_cons (im_call ar1 (im_cons im_var im_nil)) im_nil))) (ig_seq (igs_cons ig_name (igs_cons ig_name igs_nil))) (nx_seq (nxs_cons nx_name (nxs_cons nx_name nxs_nil))))
  (is_seq (is_if (im_b (im_op ir_neA (im_ca ic_repr (im_cons (im_tup (im_cons (im_call ar1 (im_cons im_var im_nil)) (im_cons (im_callK ar1 (im_cons im_var im_nil)) im_nil))) im_nil)) (im_ca ic_repr (im_cons (im_op ir_mulA (im_tup (im_cons (im_ca ic_tuple (im_cons im_var im_nil)) im_nil)) im_c) im_nil)))) (is_ret im_c) is_next)
  (is_seq (is_asg (im_ifE (im_b (im_op ir_ltA (im_ca ic_len (im_cons im_var im_nil)) im_c)) (im_ft (im_un iu_lrg (im_ca ic_len (im_cons im_var im_nil)))) (im_ft (im_lcF (ii_r1 (im_cons im_c im_nil)) ig_name im_yes (im_callD arD1 (im_cons im_var (im_cons (im_ca ic_len (im_cons im_var im_nil)) im_nil)))))) ig_name nx_name)
  (is_seq (is_for (ii_a im_var) ig_name nx_name (is_if (im_notT (im_b (im_callD arD4 (im_cons im_var (im_cons im_var (im_cons (im_op ir_ix im_var im_var) (im_cons im_var (im_cons im_var im_nil)))))))) (is_ret im_c) is_next))
  (is_if (im_b (im_op ir_neSd (im_ft (im_lcF (ii_a im_var) ig_name (im_b (im_op ir_isnot (im_call ar2 (im_cons im_var (im_cons im_var im_nil))) im_c)) im_var)) im_var)) (is_ret im_c) is_next)))))))
  (is_ret im_c)))
  (hf1 fun _ => rfl)
end K02
end

section
set_option Elab.async false
set_option linter.all false
set_option maxRecDepth 100000
set_option maxHeartbeats 1000000
set_option autoImplicit false
namespace K02
open PySem PySem.Spec PyProof.Rows L2 DL FL
theorem all_mk {l : PySem.W.OpenLaw} {w : World} {K : PySem.W.Frag} {h : Heap} {mg : Str → Option Value} {fa : Addr} (X : K.In h) (G : h.Ns mainGlobals mg) (hfa : mg "law" = some (.ref fa))
    {f0 : Addr} {oc0 kV0 dc0 pm0 cd0 ct0 : Value} {od0 an0 : Option Addr} {sl0 : Array (Option Value)}
    {f1 : Addr} {oc1 kV1 dc1 pm1 cd1 ct1 : Value} {od1 an1 : Option Addr} {sl1 : Array (Option Value)}
    {f2 : Addr} {oc2 kV2 dc2 pm2 cd2 ct2 : Value} {od2 an2 : Option Addr} {sl2 : Array (Option Value)}
    {f3 : Addr} {oc3 kV3 dc3 pm3 cd3 ct3 : Value} {od3 an3 : Option Addr} {sl3 : Array (Option Value)}
    {f4 : Addr} {oc4 kV4 dc4 pm4 cd4 ct4 : Value} {od4 an4 : Option Addr} {sl4 : Array (Option Value)}
    {f5 : Addr} {oc5 kV5 dc5 pm5 cd5 ct5 : Value} {od5 an5 : Option Addr} {sl5 : Array (Option Value)}
    {f6 : Addr} {oc6 kV6 dc6 pm6 cd6 ct6 : Value} {od6 an6 : Option Addr} {sl6 : Array (Option Value)}
    {f7 : Addr} {oc7 kV7 dc7 pm7 cd7 ct7 : Value} {od7 an7 : Option Addr} {sl7 : Array (Option Value)}
    {f8 : Addr} {oc8 kV8 dc8 pm8 cd8 ct8 : Value} {od8 an8 : Option Addr} {sl8 : Array (Option Value)}
    {f9 : Addr} {oc9 kV9 dc9 pm9 cd9 ct9 : Value} {od9 an9 : Option Addr} {sl9 : Array (Option Value)}
    {f10 : Addr} {oc10 kV10 dc10 pm10 cd10 ct10 : Value} {od10 an10 : Option Addr} {sl10 : Array (Option Value)}
    {f11 : Addr} {oc11 kV11 dc11 pm11 cd11 ct11 : Value} {od11 an11 : Option Addr} {sl11 : Array (Option Value)}
    {f12 : Addr} {oc12 kV12 dc12 pm12 cd12 ct12 : Value} {od12 an12 : Option Addr} {sl12 : Array (Option Value)}
    {f13 : Addr} {oc13 kV13 dc13 pm13 cd13 ct13 : Value} {od13 an13 : Option Addr} {sl13 : Array (Option Value)}
    {f14 : Addr} {oc14 kV14 dc14 pm14 cd14 ct14 : Value} {od14 an14 : Option Addr} {sl14 : Array (Option Value)}
    {f15 : Addr} {oc15 kV15 dc15 pm15 cd15 ct15 : Value} {od15 an15 : Option Addr} {sl15 : Array (Option Value)}
    {f16 : Addr} {oc16 kV16 dc16 pm16 cd16 ct16 : Value} {od16 an16 : Option Addr} {sl16 : Array (Option Value)}
    {f17 : Addr} {oc17 kV17 dc17 pm17 cd17 ct17 : Value} {od17 an17 : Option Addr} {sl17 : Array (Option Value)}
    {f18 : Addr} {oc18 kV18 dc18 pm18 cd18 ct18 : Value} {od18 an18 : Option Addr} {sl18 : Array (Option Value)}
    {f19 : Addr} {oc19 kV19 dc19 pm19 cd19 ct19 : Value} {od19 an19 : Option Addr} {sl19 : Array (Option Value)}
    {f20 : Addr} {oc20 kV20 dc20 pm20 cd20 ct20 : Value} {od20 an20 : Option Addr} {sl20 : Array (Option Value)}
    {f21 : Addr} {oc21 kV21 dc21 pm21 cd21 ct21 : Value} {od21 an21 : Option Addr} {sl21 : Array (Option Value)}
    {f22 : Addr} {oc22 kV22 dc22 pm22 cd22 ct22 : Value} {od22 an22 : Option Addr} {sl22 : Array (Option Value)}
    {f23 : Addr} {oc23 kV23 dc23 pm23 cd23 ct23 : Value} {od23 an23 : Option Addr} {sl23 : Array (Option Value)}
    {f24 : Addr} {oc24 kV24 dc24 pm24 cd24 ct24 : Value} {od24 an24 : Option Addr} {sl24 : Array (Option Value)}
    {f25 : Addr} {oc25 kV25 dc25 pm25 cd25 ct25 : Value} {od25 an25 : Option Addr} {sl25 : Array (Option Value)}
    {f26 : Addr} {oc26 kV26 dc26 pm26 cd26 ct26 : Value} {od26 an26 : Option Addr} {sl26 : Array (Option Value)}
    {f27 : Addr} {oc27 kV27 dc27 pm27 cd27 ct27 : Value} {od27 an27 : Option Addr} {sl27 : Array (Option Value)}
    {f28 : Addr} {oc28 kV28 dc28 pm28 cd28 ct28 : Value} {od28 an28 : Option Addr} {sl28 : Array (Option Value)}
    (a0 : PySem.W.nsIn K mainGlobals "is_whole" = some (some (.ref f0))) (l0 : K.lookup f0 = some ⟨oc0, od0, .func (PySem.W.fnOf "is_whole" "is_whole" (defArgs s_is_whole) (defBody s_is_whole) (defScope s_is_whole) .none kV0 dc0 pm0 an0 cd0 ct0), sl0⟩) (c0 : PySem.W.codeIn K cd0 "is_whole" = true) (k0 : PySem.W.keepIn K (.ref f0) = true)
    (a1 : PySem.W.nsIn K mainGlobals "is_from" = some (some (.ref f1))) (l1 : K.lookup f1 = some ⟨oc1, od1, .func (PySem.W.fnOf "is_from" "is_from" (defArgs s_is_from) (defBody s_is_from) (defScope s_is_from) .none kV1 dc1 pm1 an1 cd1 ct1), sl1⟩) (c1 : PySem.W.codeIn K cd1 "is_from" = true) (k1 : PySem.W.keepIn K (.ref f1) = true)
    (a2 : PySem.W.nsIn K mainGlobals "is_below" = some (some (.ref f2))) (l2 : K.lookup f2 = some ⟨oc2, od2, .func (PySem.W.fnOf "is_below" "is_below" (defArgs s_is_below) (defBody s_is_below) (defScope s_is_below) .none kV2 dc2 pm2 an2 cd2 ct2), sl2⟩) (c2 : PySem.W.codeIn K cd2 "is_below" = true) (k2 : PySem.W.keepIn K (.ref f2) = true)
    (a3 : PySem.W.nsIn K mainGlobals "is_pair" = some (some (.ref f3))) (l3 : K.lookup f3 = some ⟨oc3, od3, .func (PySem.W.fnOf "is_pair" "is_pair" (defArgs s_is_pair) (defBody s_is_pair) (defScope s_is_pair) .none kV3 dc3 pm3 an3 cd3 ct3), sl3⟩) (c3 : PySem.W.codeIn K cd3 "is_pair" = true) (k3 : PySem.W.keepIn K (.ref f3) = true)
    (a4 : PySem.W.nsIn K mainGlobals "is_ascending" = some (some (.ref f4))) (l4 : K.lookup f4 = some ⟨oc4, od4, .func (PySem.W.fnOf "is_ascending" "is_ascending" (defArgs s_is_ascending) (defBody s_is_ascending) (defScope s_is_ascending) .none kV4 dc4 pm4 an4 cd4 ct4), sl4⟩) (c4 : PySem.W.codeIn K cd4 "is_ascending" = true) (k4 : PySem.W.keepIn K (.ref f4) = true)
    (a5 : PySem.W.nsIn K mainGlobals "are_rings" = some (some (.ref f5))) (l5 : K.lookup f5 = some ⟨oc5, od5, .func (PySem.W.fnOf "are_rings" "are_rings" (defArgs s_are_rings) (defBody s_are_rings) (defScope s_are_rings) .none kV5 dc5 pm5 an5 cd5 ct5), sl5⟩) (c5 : PySem.W.codeIn K cd5 "are_rings" = true) (k5 : PySem.W.keepIn K (.ref f5) = true)
    (a6 : PySem.W.nsIn K mainGlobals "is_place_on" = some (some (.ref f6))) (l6 : K.lookup f6 = some ⟨oc6, od6, .func (PySem.W.fnOf "is_place_on" "is_place_on" (defArgs s_is_place_on) (defBody s_is_place_on) (defScope s_is_place_on) .none kV6 dc6 pm6 an6 cd6 ct6), sl6⟩) (c6 : PySem.W.codeIn K cd6 "is_place_on" = true) (k6 : PySem.W.keepIn K (.ref f6) = true)
    (a7 : PySem.W.nsIn K mainGlobals "_is_touch" = some (some (.ref f7))) (l7 : K.lookup f7 = some ⟨oc7, od7, .func (PySem.W.fnOf "_is_touch" "_is_touch" (defArgs s_p_is_touch) (defBody s_p_is_touch) (defScope s_p_is_touch) .none kV7 dc7 pm7 an7 cd7 ct7), sl7⟩) (c7 : PySem.W.codeIn K cd7 "_is_touch" = true) (k7 : PySem.W.keepIn K (.ref f7) = true)
    (a8 : PySem.W.nsIn K mainGlobals "is_floor" = some (some (.ref f8))) (l8 : K.lookup f8 = some ⟨oc8, od8, .func (PySem.W.fnOf "is_floor" "is_floor" (defArgs s_is_floor) (defBody s_is_floor) (defScope s_is_floor) .none kV8 dc8 pm8 an8 cd8 ct8), sl8⟩) (c8 : PySem.W.codeIn K cd8 "is_floor" = true) (k8 : PySem.W.keepIn K (.ref f8) = true)
    (a9 : PySem.W.nsIn K mainGlobals "need_floor" = some (some (.ref f9))) (l9 : K.lookup f9 = some ⟨oc9, od9, .func (PySem.W.fnOf "need_floor" "need_floor" (defArgs s_need_floor) (defBody s_need_floor) (defScope s_need_floor) .none kV9 dc9 pm9 an9 cd9 ct9), sl9⟩) (c9 : PySem.W.codeIn K cd9 "need_floor" = true) (k9 : PySem.W.keepIn K (.ref f9) = true)
    (a10 : PySem.W.nsIn K mainGlobals "is_place" = some (some (.ref f10))) (l10 : K.lookup f10 = some ⟨oc10, od10, .func (PySem.W.fnOf "is_place" "is_place" (defArgs s_is_place) (defBody s_is_place) (defScope s_is_place) .none kV10 dc10 pm10 an10 cd10 ct10), sl10⟩) (c10 : PySem.W.codeIn K cd10 "is_place" = true) (k10 : PySem.W.keepIn K (.ref f10) = true)
    (a11 : PySem.W.nsIn K mainGlobals "need_place" = some (some (.ref f11))) (l11 : K.lookup f11 = some ⟨oc11, od11, .func (PySem.W.fnOf "need_place" "need_place" (defArgs s_need_place) (defBody s_need_place) (defScope s_need_place) .none kV11 dc11 pm11 an11 cd11 ct11), sl11⟩) (c11 : PySem.W.codeIn K cd11 "need_place" = true) (k11 : PySem.W.keepIn K (.ref f11) = true)
    (a12 : PySem.W.nsIn K mainGlobals "partners" = some (some (.ref f12))) (l12 : K.lookup f12 = some ⟨oc12, od12, .func (PySem.W.fnOf "partners" "partners" (defArgs s_partners) (defBody s_partners) (defScope s_partners) .none kV12 dc12 pm12 an12 cd12 ct12), sl12⟩) (c12 : PySem.W.codeIn K cd12 "partners" = true) (k12 : PySem.W.keepIn K (.ref f12) = true)
    (a13 : PySem.W.nsIn K mainGlobals "places" = some (some (.ref f13))) (l13 : K.lookup f13 = some ⟨oc13, od13, .func (PySem.W.fnOf "places" "places" (defArgs s_places) (defBody s_places) (defScope s_places) .none kV13 dc13 pm13 an13 cd13 ct13), sl13⟩) (c13 : PySem.W.codeIn K cd13 "places" = true) (k13 : PySem.W.keepIn K (.ref f13) = true)
    (a14 : PySem.W.nsIn K mainGlobals "seat" = some (some (.ref f14))) (l14 : K.lookup f14 = some ⟨oc14, od14, .func (PySem.W.fnOf "seat" "seat" (defArgs s_seat) (defBody s_seat) (defScope s_seat) .none kV14 dc14 pm14 an14 cd14 ct14), sl14⟩) (c14 : PySem.W.codeIn K cd14 "seat" = true) (k14 : PySem.W.keepIn K (.ref f14) = true)
    (a15 : PySem.W.nsIn K mainGlobals "behind" = some (some (.ref f15))) (l15 : K.lookup f15 = some ⟨oc15, od15, .func (PySem.W.fnOf "behind" "behind" (defArgs s_behind) (defBody s_behind) (defScope s_behind) .none kV15 dc15 pm15 an15 cd15 ct15), sl15⟩) (c15 : PySem.W.codeIn K cd15 "behind" = true) (k15 : PySem.W.keepIn K (.ref f15) = true)
    (a16 : PySem.W.nsIn K mainGlobals "partner" = some (some (.ref f16))) (l16 : K.lookup f16 = some ⟨oc16, od16, .func (PySem.W.fnOf "partner" "partner" (defArgs s_partner) (defBody s_partner) (defScope s_partner) .none kV16 dc16 pm16 an16 cd16 ct16), sl16⟩) (c16 : PySem.W.codeIn K cd16 "partner" = true) (k16 : PySem.W.keepIn K (.ref f16) = true)
    (a17 : PySem.W.nsIn K mainGlobals "_law_deck" = some (some (.ref f17))) (l17 : K.lookup f17 = some ⟨oc17, od17, .func (PySem.W.fnOf "_law_deck" "_law_deck" (defArgs s_law_deck) (defBody s_law_deck) (defScope s_law_deck) .none kV17 dc17 pm17 an17 cd17 ct17), sl17⟩) (c17 : PySem.W.codeIn K cd17 "_law_deck" = true) (k17 : PySem.W.keepIn K (.ref f17) = true)
    (a18 : PySem.W.nsIn K mainGlobals "_law_draw" = some (some (.ref f18))) (l18 : K.lookup f18 = some ⟨oc18, od18, .func (PySem.W.fnOf "_law_draw" "_law_draw" (defArgs s_law_draw) (defBody s_law_draw) (defScope s_law_draw) .none kV18 dc18 pm18 an18 cd18 ct18), sl18⟩) (c18 : PySem.W.codeIn K cd18 "_law_draw" = true) (k18 : PySem.W.keepIn K (.ref f18) = true)
    (a19 : PySem.W.nsIn K mainGlobals "_law_pick" = some (some (.ref f19))) (l19 : K.lookup f19 = some ⟨oc19, od19, .func (PySem.W.fnOf "_law_pick" "_law_pick" (defArgs s_law_pick) (defBody s_law_pick) (defScope s_law_pick) .none kV19 dc19 pm19 an19 cd19 ct19), sl19⟩) (c19 : PySem.W.codeIn K cd19 "_law_pick" = true) (k19 : PySem.W.keepIn K (.ref f19) = true)
    (a20 : PySem.W.nsIn K mainGlobals "_law_order" = some (some (.ref f20))) (l20 : K.lookup f20 = some ⟨oc20, od20, .func (PySem.W.fnOf "_law_order" "_law_order" (defArgs s_law_order) (defBody s_law_order) (defScope s_law_order) .none kV20 dc20 pm20 an20 cd20 ct20), sl20⟩) (c20 : PySem.W.codeIn K cd20 "_law_order" = true) (k20 : PySem.W.keepIn K (.ref f20) = true)
    (a21 : PySem.W.nsIn K mainGlobals "_law_spots" = some (some (.ref f21))) (l21 : K.lookup f21 = some ⟨oc21, od21, .func (PySem.W.fnOf "_law_spots" "_law_spots" (defArgs s_law_spots) (defBody s_law_spots) (defScope s_law_spots) .none kV21 dc21 pm21 an21 cd21 ct21), sl21⟩) (c21 : PySem.W.codeIn K cd21 "_law_spots" = true) (k21 : PySem.W.keepIn K (.ref f21) = true)
    (a22 : PySem.W.nsIn K mainGlobals "_law_rings" = some (some (.ref f22))) (l22 : K.lookup f22 = some ⟨oc22, od22, .func (PySem.W.fnOf "_law_rings" "_law_rings" (defArgs s_law_rings) (defBody s_law_rings) (defScope s_law_rings) .none kV22 dc22 pm22 an22 cd22 ct22), sl22⟩) (c22 : PySem.W.codeIn K cd22 "_law_rings" = true) (k22 : PySem.W.keepIn K (.ref f22) = true)
    (a23 : PySem.W.nsIn K mainGlobals "_law_floor" = some (some (.ref f23))) (l23 : K.lookup f23 = some ⟨oc23, od23, .func (PySem.W.fnOf "_law_floor" "_law_floor" (defArgs s_law_floor) (defBody s_law_floor) (defScope s_law_floor) .none kV23 dc23 pm23 an23 cd23 ct23), sl23⟩) (c23 : PySem.W.codeIn K cd23 "_law_floor" = true) (k23 : PySem.W.keepIn K (.ref f23) = true)
    (a24 : PySem.W.nsIn K mainGlobals "_law_wide_floor" = some (some (.ref f24))) (l24 : K.lookup f24 = some ⟨oc24, od24, .func (PySem.W.fnOf "_law_wide_floor" "_law_wide_floor" (defArgs s_law_wide_floor) (defBody s_law_wide_floor) (defScope s_law_wide_floor) .none kV24 dc24 pm24 an24 cd24 ct24), sl24⟩) (c24 : PySem.W.codeIn K cd24 "_law_wide_floor" = true) (k24 : PySem.W.keepIn K (.ref f24) = true)
    (a25 : PySem.W.nsIn K mainGlobals "_law_behind" = some (some (.ref f25))) (l25 : K.lookup f25 = some ⟨oc25, od25, .func (PySem.W.fnOf "_law_behind" "_law_behind" (defArgs s_law_behind) (defBody s_law_behind) (defScope s_law_behind) .none kV25 dc25 pm25 an25 cd25 ct25), sl25⟩) (c25 : PySem.W.codeIn K cd25 "_law_behind" = true) (k25 : PySem.W.keepIn K (.ref f25) = true)
    (a26 : PySem.W.nsIn K mainGlobals "_law_partners" = some (some (.ref f26))) (l26 : K.lookup f26 = some ⟨oc26, od26, .func (PySem.W.fnOf "_law_partners" "_law_partners" (defArgs s_law_partners) (defBody s_law_partners) (defScope s_law_partners) .none kV26 dc26 pm26 an26 cd26 ct26), sl26⟩) (c26 : PySem.W.codeIn K cd26 "_law_partners" = true) (k26 : PySem.W.keepIn K (.ref f26) = true)
    (a27 : PySem.W.nsIn K mainGlobals "_law_is_place_right" = some (some (.ref f27))) (l27 : K.lookup f27 = some ⟨oc27, od27, .func (PySem.W.fnOf "_law_is_place_right" "_law_is_place_right" (defArgs s_law_is_place_right) (defBody s_law_is_place_right) (defScope s_law_is_place_right) .none kV27 dc27 pm27 an27 cd27 ct27), sl27⟩) (c27 : PySem.W.codeIn K cd27 "_law_is_place_right" = true) (k27 : PySem.W.keepIn K (.ref f27) = true)
    (a28 : PySem.W.nsIn K mainGlobals "law" = some (some (.ref f28))) (l28 : K.lookup f28 = some ⟨oc28, od28, .func (PySem.W.fnOf "law" "law" (defArgs s_law) (defBody s_law) (defScope s_law) .none kV28 dc28 pm28 an28 cd28 ct28), sl28⟩) (c28 : PySem.W.codeIn K cd28 "law" = true) (k28 : PySem.W.keepIn K (.ref f28) = true)
    (z0 : PySem.W.nsIn K mainGlobals "all" = some none)
    (z1 : PySem.W.nsIn K mainGlobals "bool" = some none)
    (z2 : PySem.W.nsIn K mainGlobals "enumerate" = some none)
    (z3 : PySem.W.nsIn K mainGlobals "int" = some none)
    (z4 : PySem.W.nsIn K mainGlobals "isinstance" = some none)
    (z5 : PySem.W.nsIn K mainGlobals "len" = some none)
    (z6 : PySem.W.nsIn K mainGlobals "list" = some none)
    (z7 : PySem.W.nsIn K mainGlobals "max" = some none)
    (z8 : PySem.W.nsIn K mainGlobals "min" = some none)
    (z9 : PySem.W.nsIn K mainGlobals "range" = some none)
    (z10 : PySem.W.nsIn K mainGlobals "repr" = some none)
    (z11 : PySem.W.nsIn K mainGlobals "set" = some none)
    (z12 : PySem.W.nsIn K mainGlobals "sorted" = some none)
    (z13 : PySem.W.nsIn K mainGlobals "sum" = some none)
    (z14 : PySem.W.nsIn K mainGlobals "tuple" = some none)
    (z15 : PySem.W.nsIn K mainGlobals "zip" = some none)
    {tk0 : Tok} (m0 : PySem.W.nsIn K mainGlobals "MOST_RINGS" = some (some (.int 40 tk0)))
    {C0 I0 B0 : Addr} {nm0 : _} {q0 : _} {N0 : _} {bs0 : _} {sn0 : _} {sub0 : _} {ab0 : _} {col0 : _} {dd0 : _} {ka0 : _} {kb0 : _} {kc0 : _} {kd0 : _} {ke0 : _} {ioc0 ikV0 idc0 ipm0 icd0 ict0 : Value} {iod0 ian0 : Option Addr} {isl0 : Array (Option Value)}
    (xg0 : PySem.W.nsIn K mainGlobals "BadFloor" = some (some (.ref C0))) (xc0 : K.lookup C0 = some (excClassObj nm0 q0 C0 N0 bs0 (.ref B0 :: tailE) true sn0 sub0 ab0 col0 dd0 ka0 kb0 kc0 kd0 ke0 "Exception.__new__"))
    (xs0 : PySem.W.findIn K (.ref C0) "__setattr__" = some (some (.builtin "object.__setattr__"))) (xe0 : PySem.W.subIn K (.ref C0) (.type "BaseException") = some true) (xt0 : PySem.W.typeIn K (.ref C0) = some (.type "type")) (xk0 : PySem.W.keepIn K (.ref C0) = true)
    (xi0 : PySem.W.findIn K (.ref C0) "__init__" = some (some (.ref I0))) (xj0 : PySem.W.typeIn K (.ref I0) = some (.type "function")) (xn0 : PySem.W.findIn K (.ref C0) "thing" = some none)
    (xl0 : K.lookup I0 = some ⟨ioc0, iod0, .func (PySem.W.fnOf "__init__" "BadFloor.__init__" (defArgs i_BadFloor) (defBody i_BadFloor) (defScope i_BadFloor) .none ikV0 idc0 ipm0 ian0 icd0 ict0), isl0⟩) (xd0 : PySem.W.codeIn K icd0 "BadFloor.__init__" = true) (xf0 : PySem.W.keepIn K (.ref I0) = true)
    {C1 I1 B1 : Addr} {nm1 : _} {q1 : _} {N1 : _} {bs1 : _} {sn1 : _} {sub1 : _} {ab1 : _} {col1 : _} {dd1 : _} {ka1 : _} {kb1 : _} {kc1 : _} {kd1 : _} {ke1 : _} {ioc1 ikV1 idc1 ipm1 icd1 ict1 : Value} {iod1 ian1 : Option Addr} {isl1 : Array (Option Value)}
    (xg1 : PySem.W.nsIn K mainGlobals "BadNumber" = some (some (.ref C1))) (xc1 : K.lookup C1 = some (excClassObj nm1 q1 C1 N1 bs1 (.ref B1 :: tailE) true sn1 sub1 ab1 col1 dd1 ka1 kb1 kc1 kd1 ke1 "Exception.__new__"))
    (xs1 : PySem.W.findIn K (.ref C1) "__setattr__" = some (some (.builtin "object.__setattr__"))) (xe1 : PySem.W.subIn K (.ref C1) (.type "BaseException") = some true) (xt1 : PySem.W.typeIn K (.ref C1) = some (.type "type")) (xk1 : PySem.W.keepIn K (.ref C1) = true)
    (xi1 : PySem.W.findIn K (.ref C1) "__init__" = some (some (.ref I1))) (xj1 : PySem.W.typeIn K (.ref I1) = some (.type "function")) (xn1 : PySem.W.findIn K (.ref C1) "thing" = some none)
    (xl1 : K.lookup I1 = some ⟨ioc1, iod1, .func (PySem.W.fnOf "__init__" "BadNumber.__init__" (defArgs i_BadNumber) (defBody i_BadNumber) (defScope i_BadNumber) .none ikV1 idc1 ipm1 ian1 icd1 ict1), isl1⟩) (xd1 : PySem.W.codeIn K icd1 "BadNumber.__init__" = true) (xf1 : PySem.W.keepIn K (.ref I1) = true)
    {C2 I2 B2 : Addr} {nm2 : _} {q2 : _} {N2 : _} {bs2 : _} {sn2 : _} {sub2 : _} {ab2 : _} {col2 : _} {dd2 : _} {ka2 : _} {kb2 : _} {kc2 : _} {kd2 : _} {ke2 : _} {ioc2 ikV2 idc2 ipm2 icd2 ict2 : Value} {iod2 ian2 : Option Addr} {isl2 : Array (Option Value)}
    (xg2 : PySem.W.nsIn K mainGlobals "BadPlace" = some (some (.ref C2))) (xc2 : K.lookup C2 = some (excClassObj nm2 q2 C2 N2 bs2 (.ref B2 :: tailE) true sn2 sub2 ab2 col2 dd2 ka2 kb2 kc2 kd2 ke2 "Exception.__new__"))
    (xs2 : PySem.W.findIn K (.ref C2) "__setattr__" = some (some (.builtin "object.__setattr__"))) (xe2 : PySem.W.subIn K (.ref C2) (.type "BaseException") = some true) (xt2 : PySem.W.typeIn K (.ref C2) = some (.type "type")) (xk2 : PySem.W.keepIn K (.ref C2) = true)
    (xi2 : PySem.W.findIn K (.ref C2) "__init__" = some (some (.ref I2))) (xj2 : PySem.W.typeIn K (.ref I2) = some (.type "function")) (xn2 : PySem.W.findIn K (.ref C2) "thing" = some none)
    (xl2 : K.lookup I2 = some ⟨ioc2, iod2, .func (PySem.W.fnOf "__init__" "BadPlace.__init__" (defArgs i_BadPlace) (defBody i_BadPlace) (defScope i_BadPlace) .none ikV2 idc2 ipm2 ian2 icd2 ict2), isl2⟩) (xd2 : PySem.W.codeIn K icd2 "BadPlace.__init__" = true) (xf2 : PySem.W.keepIn K (.ref I2) = true) :
    ∃ fd : FuncData, (∀ (s : Shared) (v : Value), BindsTo s fd ⟨[v], []⟩ [("_law_script", v)]) ∧ ∀ base : Heap, K.In base → base.Ns mainGlobals mg → FnG l.prog w K mg base 11 fa fd ["_law_script"] (SpD K 1 (finR (m_law (ML.m_law_draw_600f 57 53)))) := by
  have e := hfa.symm.trans (PySem.W.mg_of X G a28)
  cases e
  have b : BI mg := ⟨PySem.W.mg_none_of X G z0, PySem.W.mg_none_of X G z1, PySem.W.mg_none_of X G z2, PySem.W.mg_none_of X G z3, PySem.W.mg_none_of X G z4, PySem.W.mg_none_of X G z5, PySem.W.mg_none_of X G z6, PySem.W.mg_none_of X G z7, PySem.W.mg_none_of X G z8, PySem.W.mg_none_of X G z9, PySem.W.mg_none_of X G z10, PySem.W.mg_none_of X G z11, PySem.W.mg_none_of X G z12, PySem.W.mg_none_of X G z13, PySem.W.mg_none_of X G z14, PySem.W.mg_none_of X G z15⟩
  have z_MOST_RINGS : ∃ t, mg "MOST_RINGS" = some (.int 40 t) := ⟨_, PySem.W.mg_of X G m0⟩
  have h_is_whole : Hd K mg "is_whole" s_is_whole nP_is_whole := hd_of X G a0 l0 c0 k0 fun _ _ _ _ _ _ us hl => match us, hl with | [_], _ => rfl
  have h_is_from : Hd K mg "is_from" s_is_from nP_is_from := hd_of X G a1 l1 c1 k1 fun _ _ _ _ _ _ us hl => match us, hl with | [_, _], _ => rfl
  have h_is_below : Hd K mg "is_below" s_is_below nP_is_below := hd_of X G a2 l2 c2 k2 fun _ _ _ _ _ _ us hl => match us, hl with | [_, _], _ => rfl
  have h_is_pair : Hd K mg "is_pair" s_is_pair nP_is_pair := hd_of X G a3 l3 c3 k3 fun _ _ _ _ _ _ us hl => match us, hl with | [_], _ => rfl
  have h_is_ascending : Hd K mg "is_ascending" s_is_ascending nP_is_ascending := hd_of X G a4 l4 c4 k4 fun _ _ _ _ _ _ us hl => match us, hl with | [_], _ => rfl
  have h_are_rings : Hd K mg "are_rings" s_are_rings nP_are_rings := hd_of X G a5 l5 c5 k5 fun _ _ _ _ _ _ us hl => match us, hl with | [_], _ => rfl
  have h_is_place_on : Hd K mg "is_place_on" s_is_place_on nP_is_place_on := hd_of X G a6 l6 c6 k6 fun _ _ _ _ _ _ us hl => match us, hl with | [_, _], _ => rfl
  have h_p_is_touch : Hd K mg "_is_touch" s_p_is_touch nP_p_is_touch := hd_of X G a7 l7 c7 k7 fun _ _ _ _ _ _ us hl => match us, hl with | [_, _], _ => rfl
  have h_is_floor : Hd K mg "is_floor" s_is_floor nP_is_floor := hd_of X G a8 l8 c8 k8 fun _ _ _ _ _ _ us hl => match us, hl with | [_], _ => rfl
  have h_need_floor : Hd K mg "need_floor" s_need_floor nP_need_floor := hd_of X G a9 l9 c9 k9 fun _ _ _ _ _ _ us hl => match us, hl with | [_], _ => rfl
  have h_is_place : Hd K mg "is_place" s_is_place nP_is_place := hd_of X G a10 l10 c10 k10 fun _ _ _ _ _ _ us hl => match us, hl with | [_, _], _ => rfl
  have h_need_place : Hd K mg "need_place" s_need_place nP_need_place := hd_of X G a11 l11 c11 k11 fun _ _ _ _ _ _ us hl => match us, hl with | [_, _], _ => rfl
  have h_partners : Hd K mg "partners" s_partners nP_partners := hd_of X G a12 l12 c12 k12 fun _ _ _ _ _ _ us hl => match us, hl with | [_], _ => rfl
  have h_places : Hd K mg "places" s_places nP_places := hd_of X G a13 l13 c13 k13 fun _ _ _ _ _ _ us hl => match us, hl with | [_], _ => rfl
  have h_seat : Hd K mg "seat" s_seat nP_seat := hd_of X G a14 l14 c14 k14 fun _ _ _ _ _ _ us hl => match us, hl with | [_, _], _ => rfl
  have h_behind : Hd K mg "behind" s_behind nP_behind := hd_of X G a15 l15 c15 k15 fun _ _ _ _ _ _ us hl => match us, hl with | [_, _, _], _ => rfl
  have h_partner : Hd K mg "partner" s_partner nP_partner := hd_of X G a16 l16 c16 k16 fun _ _ _ _ _ _ us hl => match us, hl with | [_, _], _ => rfl
  have h_law_deck : Hd K mg "_law_deck" s_law_deck nP_law_deck := hd_of X G a17 l17 c17 k17 fun _ _ _ _ _ _ us hl => match us, hl with | [_], _ => rfl
  have h_law_draw : Hd K mg "_law_draw" s_law_draw nP_law_draw := hd_of X G a18 l18 c18 k18 fun _ _ _ _ _ _ us hl => match us, hl with | [_, _], _ => rfl
  have h_law_pick : Hd K mg "_law_pick" s_law_pick nP_law_pick := hd_of X G a19 l19 c19 k19 fun _ _ _ _ _ _ us hl => match us, hl with | [_, _], _ => rfl
  have h_law_order : Hd K mg "_law_order" s_law_order nP_law_order := hd_of X G a20 l20 c20 k20 fun _ _ _ _ _ _ us hl => match us, hl with | [_, _], _ => rfl
  have h_law_spots : Hd K mg "_law_spots" s_law_spots nP_law_spots := hd_of X G a21 l21 c21 k21 fun _ _ _ _ _ _ us hl => match us, hl with | [_], _ => rfl
  have h_law_rings : Hd K mg "_law_rings" s_law_rings nP_law_rings := hd_of X G a22 l22 c22 k22 fun _ _ _ _ _ _ us hl => match us, hl with | [_, _], _ => rfl
  have h_law_floor : Hd K mg "_law_floor" s_law_floor nP_law_floor := hd_of X G a23 l23 c23 k23 fun _ _ _ _ _ _ us hl => match us, hl with | [_, _], _ => rfl
  have h_law_wide_floor : Hd K mg "_law_wide_floor" s_law_wide_floor nP_law_wide_floor := hd_of X G a24 l24 c24 k24 fun _ _ _ _ _ _ us hl => match us, hl with | [_], _ => rfl
  have h_law_behind : Hd K mg "_law_behind" s_law_behind nP_law_behind := hd_of X G a25 l25 c25 k25 fun _ _ _ _ _ _ us hl => match us, hl with | [_, _, _], _ => rfl
  have h_law_partners : Hd K mg "_law_partners" s_law_partners nP_law_partners := hd_of X G a26 l26 c26 k26 fun _ _ _ _ _ _ us hl => match us, hl with | [_], _ => rfl
  have h_law_is_place_right : Hd K mg "_law_is_place_right" s_law_is_place_right nP_law_is_place_right := hd_of X G a27 l27 c27 k27 fun _ _ _ _ _ _ us hl => match us, hl with | [_, _, _, _, _], _ => rfl
  have h_law : Hd K mg "law" s_law nP_law := hd_of X G a28 l28 c28 k28 fun _ _ _ _ _ _ us hl => match us, hl with | [_], _ => rfl
  refine ⟨PySem.W.fnOf "law" "law" (defArgs s_law) (defBody s_law) (defScope s_law) .none kV28 dc28 pm28 an28 cd28 ct28, fun s v => .of_eq rfl, fun base _ _ => ?_⟩
  have x_BadFloor : ExE l.prog w K mg base 1 "BadFloor" (clOf mg "BadFloor") "thing" := exe_of (st := i_BadFloor) X G xg0 xc0 xs0 xe0 xt0 xk0 xi0 xj0 xn0 xl0 xd0 xf0 si_BadFloor rfl (Or.inl rfl) (Or.inl rfl) (by decide) (by decide) (fun _ _ => rfl) (fun _ _ _ _ _ _ us hl => match us, hl with | [_, _], _ => rfl)
  have x_BadNumber : ExE l.prog w K mg base 1 "BadNumber" (clOf mg "BadNumber") "thing" := exe_of (st := i_BadNumber) X G xg1 xc1 xs1 xe1 xt1 xk1 xi1 xj1 xn1 xl1 xd1 xf1 si_BadNumber rfl (Or.inl rfl) (Or.inl rfl) (by decide) (by decide) (fun _ _ => rfl) (fun _ _ _ _ _ _ us hl => match us, hl with | [_, _], _ => rfl)
  have x_BadPlace : ExE l.prog w K mg base 1 "BadPlace" (clOf mg "BadPlace") "thing" := exe_of (st := i_BadPlace) X G xg2 xc2 xs2 xe2 xt2 xk2 xi2 xj2 xn2 xl2 xd2 xf2 si_BadPlace rfl (Or.inl rfl) (Or.inl rfl) (by decide) (by decide) (fun _ _ => rfl) (fun _ _ _ _ _ _ us hl => match us, hl with | [_, _], _ => rfl)
  have c_is_whole := ok_is_whole (P := l.prog) (w0 := w) (base := base) (cl := clOf mg) b h_is_whole
  have c_is_from := ok_is_from (P := l.prog) (w0 := w) (base := base) (cl := clOf mg) h_is_from c_is_whole
  have c_is_below := ok_is_below (P := l.prog) (w0 := w) (base := base) (cl := clOf mg) h_is_below c_is_whole
  have c_is_pair := ok_is_pair (P := l.prog) (w0 := w) (base := base) (cl := clOf mg) b h_is_pair
  have c_is_ascending := ok_is_ascending (P := l.prog) (w0 := w) (base := base) (cl := clOf mg) b h_is_ascending
  have c_are_rings := ok_are_rings (P := l.prog) (w0 := w) (base := base) (cl := clOf mg) b h_are_rings c_is_from z_MOST_RINGS
  have c_is_place_on := ok_is_place_on (P := l.prog) (w0 := w) (base := base) (cl := clOf mg) b h_is_place_on c_is_below c_is_pair
  have c_p_is_touch := ok_p_is_touch (P := l.prog) (w0 := w) (base := base) (cl := clOf mg) h_p_is_touch c_is_place_on c_is_pair
  have c_is_floor := ok_is_floor (P := l.prog) (w0 := w) (base := base) (cl := clOf mg) b h_is_floor c_are_rings c_is_pair c_p_is_touch c_is_ascending
  have c_need_floor := ok_need_floor (P := l.prog) (w0 := w) (base := base) (cl := clOf mg) h_need_floor c_is_floor x_BadFloor
  have c_is_place := ok_is_place (P := l.prog) (w0 := w) (base := base) (cl := clOf mg) h_is_place c_need_floor c_is_place_on
  have c_need_place := ok_need_place (P := l.prog) (w0 := w) (base := base) (cl := clOf mg) h_need_place c_is_place x_BadPlace
  have c_partners := ok_partners (P := l.prog) (w0 := w) (base := base) (cl := clOf mg) h_partners
  have c_places := ok_places (P := l.prog) (w0 := w) (base := base) (cl := clOf mg) b h_places c_need_floor
  have c_seat := ok_seat (P := l.prog) (w0 := w) (base := base) (cl := clOf mg) b h_seat c_need_place
  have c_behind := ok_behind (P := l.prog) (w0 := w) (base := base) (cl := clOf mg) h_behind c_need_place c_is_whole x_BadNumber
  have c_partner := ok_partner (P := l.prog) (w0 := w) (base := base) (cl := clOf mg) h_partner c_need_place c_partners
  have c_law_deck := ok_law_deck (P := l.prog) (w0 := w) (base := base) (cl := clOf mg) b h_law_deck
  have c_law_draw := ok_law_draw (P := l.prog) (w0 := w) (base := base) (cl := clOf mg) b h_law_draw
  have c_law_pick := ok_law_pick (P := l.prog) (w0 := w) (base := base) (cl := clOf mg) b h_law_pick c_law_draw
  have c_law_order := ok_law_order (P := l.prog) (w0 := w) (base := base) (cl := clOf mg) b h_law_order c_law_draw
  have c_law_spots := ok_law_spots (P := l.prog) (w0 := w) (base := base) (cl := clOf mg) b h_law_spots
  have c_law_rings := ok_law_rings (P := l.prog) (w0 := w) (base := base) (cl := clOf mg) b h_law_rings c_law_pick
  have c_law_floor := ok_law_floor (P := l.prog) (w0 := w) (base := base) (cl := clOf mg) b h_law_floor c_law_rings c_law_spots c_law_order c_law_draw
  have c_law_wide_floor := ok_law_wide_floor (P := l.prog) (w0 := w) (base := base) (cl := clOf mg) b h_law_wide_floor c_law_draw c_law_pick c_law_spots c_law_order
  have c_law_behind := ok_law_behind (P := l.prog) (w0 := w) (base := base) (cl := clOf mg) b h_law_behind
  have c_law_partners := ok_law_partners (P := l.prog) (w0 := w) (base := base) (cl := clOf mg) h_law_partners
  have c_law_is_place_right := ok_law_is_place_right (P := l.prog) (w0 := w) (base := base) (cl := clOf mg) b h_law_is_place_right c_is_place c_seat c_partner c_behind c_law_pick c_law_draw c_law_behind
  have c_law := ok_law (P := l.prog) (w0 := w) (base := base) (cl := clOf mg) b h_law c_law_deck c_law_draw c_law_wide_floor c_law_floor c_law_partners c_law_spots c_places c_law_is_place_right c_partner
  obtain ⟨f', fd', Fn, hm, _, _, F⟩ := c_law.ex
  have ef := Option.some.inj (hfa.symm.trans hm)
  cases ef
  obtain ⟨oc, od, kV, doc, pm, an, cdv, ct, osl, efd, lk, _⟩ := F.ex
  have el := Option.some.inj (l28.symm.trans lk)
  injection el with _ _ el _
  injection el with el
  rw [el]
  exact fin_of Fn
end K02
end

section
set_option Elab.async false
set_option linter.all false
set_option maxRecDepth 100000
set_option maxHeartbeats 1000000
set_option autoImplicit false
/-! ## Comprehensions and loops of the functions of data -/
namespace FL
open PySem PySem.Spec PyProof.Rows L2 DL
section
variable {α : Type} {ρ : S} {sl : List (Option DV)} {ob : List OB} {n : Nat} {g g1 : DV → M Unit} {t : M Bool} {e : M DV} {i i1 : M (List PyData)} {vs vs1 : List Nat}
theorem cut_of (h : ob.length = n) (hb : ob.all (belB n) = true) : okCut n ob = true ∧ ob.take n = ob := by
  subst h
  unfold okCut
  rw [List.take_length]
  simp [hb]
theorem lcGo_filter (p : PyData → Bool) (f : PyData → PyData) (hl : ob.length = n) (hb : ob.all (belB n) = true) : ∀ (xs acc : List PyData), acc.length + xs.length ≤ sizeLine →
    (∀ x ∈ xs, ∃ ρ2 ρ3, g (.d x) ⟨sl, ob⟩ = .ok () ρ2 ∧ t ρ2 = .ok (p x) ρ3 ∧ (p x = false → ρ3.ob = ob) ∧ (p x = true → ∃ ρ4, e ρ3 = .ok (.d (f x)) ρ4 ∧ ρ4.ob = ob)) →
    lcGo sl n g t e xs ob acc = .ok (ob, acc ++ (xs.filter p).map f) ⟨[], []⟩
  | [], acc, _, _ => by simp [lcGo]
  | x :: xs, acc, hs, h => by
    obtain ⟨ρ2, ρ3, h1, h2, h3, h4⟩ := h x (List.mem_cons_self ..)
    have hs' : acc.length + (xs.length + 1) ≤ sizeLine := hs
    have ih := lcGo_filter p f hl hb xs
    obtain ⟨c1, c2⟩ := cut_of hl hb
    unfold lcGo
    rw [h1]
    try dsimp only
    rw [h2]
    cases hp : p x with
    | false =>
      try dsimp only
      rw [h3 hp, c1, if_pos rfl, c2, ih acc (by omega) fun y hy => h y (List.mem_cons_of_mem _ hy)]
      simp [hp]
    | true =>
      obtain ⟨ρ4, h5, h6⟩ := h4 hp
      try dsimp only
      rw [h5]
      try dsimp only
      rw [if_pos (by omega), h6, c1, if_pos rfl, c2, ih (acc ++ [f x]) (by rw [List.length_append]; simp; omega) fun y hy => h y (List.mem_cons_of_mem _ hy)]
      simp [hp]
theorem lcGo_map (f : PyData → PyData) (hl : ob.length = n) (hb : ob.all (belB n) = true) (xs acc : List PyData) (hs : acc.length + xs.length ≤ sizeLine)
    (h : ∀ x ∈ xs, ∃ ρ2 ρ4, g (.d x) ⟨sl, ob⟩ = .ok () ρ2 ∧ e ρ2 = .ok (.d (f x)) ρ4 ∧ ρ4.ob = ob) : lcGo sl n g mYes e xs ob acc = .ok (ob, acc ++ xs.map f) ⟨[], []⟩ := by
  rw [lcGo_filter (fun _ => true) f hl hb xs acc hs fun x hx => by
    obtain ⟨ρ2, ρ4, h1, h2, h3⟩ := h x hx
    exact ⟨ρ2, ρ2, h1, rfl, fun z => (nomatch z), fun _ => ⟨ρ4, h2, h3⟩⟩]
  rw [show xs.filter (fun _ => true) = xs from List.filter_eq_self.mpr fun _ _ => rfl]
theorem lcF_filter (p : PyData → Bool) (f : PyData → PyData) (w : Wf ρ) {xs : List PyData} (hi : i ρ = .ok xs ρ) (hs : xs.length ≤ sizeLine)
    (h : ∀ x ∈ xs, ∃ ρ2 ρ3, g (.d x) ⟨wipeS ρ.sl vs, ρ.ob⟩ = .ok () ρ2 ∧ t ρ2 = .ok (p x) ρ3 ∧ (p x = false → ρ3.ob = ρ.ob) ∧ (p x = true → ∃ ρ4, e ρ3 = .ok (.d (f x)) ρ4 ∧ ρ4.ob = ρ.ob)) :
    mLcF i g t e vs ρ = .ok (.o ρ.ob.length) ⟨ρ.sl, ρ.ob ++ [.lst (((xs.filter p).map f).map .d)]⟩ := by
  unfold mLcF
  rw [mbind_ap, hi, bd_ok]
  rw [lcGo_filter p f rfl (wf_iff.mp w).1 xs [] (by simpa using hs) h]
  simp
theorem lcF_map (f : PyData → PyData) (w : Wf ρ) {xs : List PyData} (hi : i ρ = .ok xs ρ) (hs : xs.length ≤ sizeLine)
    (h : ∀ x ∈ xs, ∃ ρ2 ρ4, g (.d x) ⟨wipeS ρ.sl vs, ρ.ob⟩ = .ok () ρ2 ∧ e ρ2 = .ok (.d (f x)) ρ4 ∧ ρ4.ob = ρ.ob) :
    mLcF i g mYes e vs ρ = .ok (.o ρ.ob.length) ⟨ρ.sl, ρ.ob ++ [.lst ((xs.map f).map .d)]⟩ := by
  unfold mLcF
  rw [mbind_ap, hi, bd_ok]
  rw [lcGo_map f rfl (wf_iff.mp w).1 xs [] (by simpa using hs) h]
  simp
theorem ftLc_map (f : PyData → PyData) (w : Wf ρ) {xs : List PyData} (hi : i ρ = .ok xs ρ) (hs : xs.length ≤ sizeLine)
    (h : ∀ x ∈ xs, ∃ ρ2 ρ4, g (.d x) ⟨wipeS ρ.sl vs, ρ.ob⟩ = .ok () ρ2 ∧ e ρ2 = .ok (.d (f x)) ρ4 ∧ ρ4.ob = ρ.ob) : mFT (mLcF i g mYes e vs) ρ = .ok (.d (.list (xs.map f))) ρ := ft_of w (lcF_map f w hi hs h)
theorem ftLc_filter (p : PyData → Bool) (f : PyData → PyData) (w : Wf ρ) {xs : List PyData} (hi : i ρ = .ok xs ρ) (hs : xs.length ≤ sizeLine)
    (h : ∀ x ∈ xs, ∃ ρ2 ρ3, g (.d x) ⟨wipeS ρ.sl vs, ρ.ob⟩ = .ok () ρ2 ∧ t ρ2 = .ok (p x) ρ3 ∧ (p x = false → ρ3.ob = ρ.ob) ∧ (p x = true → ∃ ρ4, e ρ3 = .ok (.d (f x)) ρ4 ∧ ρ4.ob = ρ.ob)) :
    mFT (mLcF i g t e vs) ρ = .ok (.d (.list ((xs.filter p).map f))) ρ := ft_of w (lcF_filter p f w hi hs h)
/-- y = [..], frozen -/
theorem asgFT_of (w : Wf ρ) {a : M DV} {xs : List PyData} {j : Nat} (h : a ρ = .ok (.o ρ.ob.length) ⟨ρ.sl, ρ.ob ++ [.lst (xs.map .d)]⟩) : sAsgFT a j ρ = .ok .nx ⟨ρ.sl.set j (some (.d (.list xs))), ρ.ob⟩ := by
  unfold sAsgFT
  rw [mbind_ap, h, bd_ok]
  obtain ⟨h1, h2⟩ := wf_iff.mp w
  rw [frz_last h2]
  have : okTrim ρ.ob.length ⟨ρ.sl, ρ.ob ++ [.gone]⟩ = true := by
    unfold okTrim
    simp only [List.length_append, List.take_append_of_le_length (Nat.le_refl ρ.ob.length), List.take_length]
    rw [h1, h2]
    simp
  simp [this]
/-- [.. for .. for ..] -/
theorem lc2In_map (f : PyData → PyData) (hl : ob.length = n) (hb : ob.all (belB n) = true) : ∀ (ys acc : List PyData), acc.length + ys.length ≤ sizeLine →
    (∀ y ∈ ys, ∃ ρ2 ρ4, g (.d y) ⟨sl, ob⟩ = .ok () ρ2 ∧ e ρ2 = .ok (.d (f y)) ρ4 ∧ ρ4.ob = ob) → lc2In sl n g e ys ob acc = .ok (ob, acc ++ ys.map f) ⟨[], []⟩
  | [], acc, _, _ => by simp [lc2In]
  | x :: xs, acc, hs, h => by
    obtain ⟨ρ2, ρ4, h1, h2, h3⟩ := h x (List.mem_cons_self ..)
    have hs' : acc.length + (xs.length + 1) ≤ sizeLine := hs
    obtain ⟨c1, c2⟩ := cut_of hl hb
    unfold lc2In
    rw [h1]
    try dsimp only
    rw [h2]
    try dsimp only
    rw [if_pos (by omega), h3, c1, if_pos rfl, c2, lc2In_map f hl hb xs (acc ++ [f x]) (by rw [List.length_append]; simp; omega) fun y hy => h y (List.mem_cons_of_mem _ hy)]
    simp
theorem lc2Go_map (yf : PyData → List PyData) (f : PyData → PyData → PyData) (hl : ob.length = n) (hb : ob.all (belB n) = true) : ∀ (xs acc : List PyData), acc.length + (xs.flatMap yf).length ≤ sizeLine →
    (∀ x ∈ xs, ∃ ρ2 ρ3, g (.d x) ⟨sl, ob⟩ = .ok () ρ2 ∧ i1 ρ2 = .ok (yf x) ρ3 ∧ ρ3.ob = ob ∧ ρ3.sl.all (belO n) = true ∧ ∀ y ∈ yf x, ∃ ρ4 ρ5, g1 (.d y) ⟨wipeS ρ3.sl vs1, ob⟩ = .ok () ρ4 ∧ e ρ4 = .ok (.d (f x y)) ρ5 ∧ ρ5.ob = ob) →
    lc2Go sl n g i1 g1 e vs1 xs ob acc = .ok (ob, acc ++ xs.flatMap fun x => (yf x).map (f x)) ⟨[], []⟩
  | [], acc, _, _ => by simp [lc2Go]
  | x :: xs, acc, hs, h => by
    obtain ⟨ρ2, ρ3, h1, h2, h3, h4, h5⟩ := h x (List.mem_cons_self ..)
    rw [List.flatMap_cons, List.length_append] at hs
    obtain ⟨c1, c2⟩ := cut_of hl hb
    have ht : okTrim n ρ3 = true := by
      unfold okTrim
      rw [h3, h4, c2, hb]
      simp [hl]
    unfold lc2Go
    rw [h1]
    try dsimp only
    rw [h2]
    try dsimp only
    rw [ht, if_pos rfl, h3, c2, lc2In_map (f x) hl hb (yf x) acc (by omega) h5]
    try dsimp only
    rw [if_pos hl, lc2Go_map yf f hl hb xs (acc ++ (yf x).map (f x)) (by rw [List.length_append, List.length_map]; omega) fun y hy => h y (List.mem_cons_of_mem _ hy)]
    simp
theorem lc2F_map (yf : PyData → List PyData) (f : PyData → PyData → PyData) (w : Wf ρ) {xs : List PyData} (hi : i ρ = .ok xs ρ) (hs : (xs.flatMap yf).length ≤ sizeLine)
    (h : ∀ x ∈ xs, ∃ ρ2 ρ3, g (.d x) ⟨wipeS ρ.sl vs, ρ.ob⟩ = .ok () ρ2 ∧ i1 ρ2 = .ok (yf x) ρ3 ∧ ρ3.ob = ρ.ob ∧ ρ3.sl.all (belO ρ.ob.length) = true ∧ ∀ y ∈ yf x, ∃ ρ4 ρ5, g1 (.d y) ⟨wipeS ρ3.sl vs1, ρ.ob⟩ = .ok () ρ4 ∧ e ρ4 = .ok (.d (f x y)) ρ5 ∧ ρ5.ob = ρ.ob) :
    mLc2F i g i1 g1 e vs vs1 ρ = .ok (.o ρ.ob.length) ⟨ρ.sl, ρ.ob ++ [.lst ((xs.flatMap fun x => (yf x).map (f x)).map .d)]⟩ := by
  unfold mLc2F
  rw [mbind_ap, hi, bd_ok]
  rw [lc2Go_map yf f rfl (wf_iff.mp w).1 xs [] (by simpa using hs) h]
  simp
/-! ### for -/
def forK (f : FL.Flow) (k : M FL.Flow) : M FL.Flow := match f with
  | .nx => k
  | .ct => k
  | .bk => mret .nx
  | .rt v => mret (.rt v)
@[simp] theorem forGo_nil {b : M FL.Flow} : forGo g b [] ρ = .ok .nx ρ := rfl
@[simp] theorem forGo_cons {b : M FL.Flow} {x : PyData} {r : List PyData} : forGo g b (x :: r) ρ = (g (.d x) ρ).bd fun _ ρ1 => (b ρ1).bd fun f ρ2 => forK f (forGo g b r) ρ2 := by
  rw [show forGo g b (x :: r) = mbind (g (.d x)) fun _ => mbind b fun f => forK f (forGo g b r) from rfl]
  simp [mbind_fun]
@[simp] theorem forK_nx {k : M FL.Flow} : forK .nx k ρ = k ρ := rfl
@[simp] theorem forK_ct {k : M FL.Flow} : forK .ct k ρ = k ρ := rfl
@[simp] theorem forK_bk {k : M FL.Flow} : forK .bk k ρ = .ok .nx ρ := rfl
@[simp] theorem forK_rt {k : M FL.Flow} {v : DV} : forK (.rt v) k ρ = .ok (.rt v) ρ := rfl
@[simp] theorem sFor_ap {b : M FL.Flow} : sFor i g b ρ = (i ρ).bd fun xs ρ1 => forGo g b xs ρ1 := by
  rw [show sFor i g b = mbind i fun xs => forGo g b xs from rfl]; simp
/-- a loop that always goes on -/
theorem for_inv {b : M FL.Flow} (I : List PyData → S → Prop) {xs : List PyData} (h0 : I [] ρ) (hs : ∀ (pre : List PyData) (x : PyData) (post : List PyData) (ρ' : S), xs = pre ++ x :: post → I pre ρ' → ∃ ρ2, ((g (.d x) ρ').bd fun _ ρ1 => b ρ1) = .ok .nx ρ2 ∧ I (pre ++ [x]) ρ2) :
    ∃ ρ2, forGo g b xs ρ = .ok .nx ρ2 ∧ I xs ρ2 := by
  suffices H : ∀ (post pre : List PyData) (ρ : S), xs = pre ++ post → I pre ρ → ∃ ρ2, forGo g b post ρ = .ok .nx ρ2 ∧ I xs ρ2 from H xs [] ρ rfl h0
  intro post
  induction post with
  | nil =>
    intro pre ρ e h
    rw [List.append_nil] at e
    subst e
    exact ⟨ρ, rfl, h⟩
  | cons x r ih =>
    intro pre ρ e h
    obtain ⟨ρ2, h1, h2⟩ := hs pre x r ρ e h
    obtain ⟨ρ3, h3, h4⟩ := ih (pre ++ [x]) ρ2 (by rw [e]; simp) h2
    refine ⟨ρ3, ?_, h4⟩
    rw [forGo_cons]
    cases e1 : g (.d x) ρ with
    | exc y ρ' => rw [e1] at h1; cases h1
    | bad => rw [e1] at h1; cases h1
    | ok u ρ' =>
      rw [e1] at h1
      simp only [bd_ok] at h1 ⊢
      rw [h1]
      simpa using h3
def aK (x : DV) : M (List PyData) := match x with
  | .d (.list ds) => mret ds
  | .d (.tuple ds) => mret ds
  | _ => mbad
@[simp] theorem iA_ap {a : M DV} : iA a ρ = (a ρ).bd fun x ρ1 => aK x ρ1 := by
  rw [show iA a = mbind a fun x => aK x from rfl]; simp
@[simp] theorem aK_l {ds : List PyData} : aK (.d (.list ds)) ρ = .ok ds ρ := rfl
@[simp] theorem aK_t {ds : List PyData} : aK (.d (.tuple ds)) ρ = .ok ds ρ := rfl
def r1K (xs : List DV) : M (List PyData) := match xs with
  | [.d (.int j)] => if RgB j then mret (rng 0 j.toNat) else mbad
  | _ => mbad
@[simp] theorem iR1_ap {m : M (List DV)} : iR1 m ρ = (m ρ).bd fun x ρ1 => r1K x ρ1 := by
  rw [show iR1 m = mbind m fun x => r1K x from rfl]; simp
@[simp] theorem r1K_i {j : Int} : r1K [.d (.int j)] ρ = if RgB j then .ok (rng 0 j.toNat) ρ else .bad := by
  show (if RgB j then (mret (rng 0 j.toNat) : M (List PyData)) else mbad) ρ = _
  split <;> rfl
def r2K (xs : List DV) : M (List PyData) := match xs with
  | [.d (.int i), .d (.int j)] => if RgB i ∧ RgB j then mret (rng i (j - i).toNat) else mbad
  | _ => mbad
@[simp] theorem iR2_ap {m : M (List DV)} : iR2 m ρ = (m ρ).bd fun x ρ1 => r2K x ρ1 := by
  rw [show iR2 m = mbind m fun x => r2K x from rfl]; simp
@[simp] theorem r2K_i {i j : Int} : r2K [.d (.int i), .d (.int j)] ρ = if RgB i ∧ RgB j then .ok (rng i (j - i).toNat) ρ else .bad := by
  show (if RgB i ∧ RgB j then (mret (rng i (j - i).toNat) : M (List PyData)) else mbad) ρ = _
  split <;> rfl
def zipK (xs : List DV) : M (List PyData) := match xs with
  | [.d (.tuple ds), .d (.tuple es)] => mret (zipP ds es)
  | [.d (.list ds), .d (.list es)] => mret (zipP ds es)
  | _ => mbad
@[simp] theorem iZip_ap {m : M (List DV)} : iZip m ρ = (m ρ).bd fun x ρ1 => zipK x ρ1 := by
  rw [show iZip m = mbind m fun x => zipK x from rfl]; simp
@[simp] theorem zipK_t {ds es : List PyData} : zipK [.d (.tuple ds), .d (.tuple es)] ρ = .ok (zipP ds es) ρ := rfl
@[simp] theorem zipK_l {ds es : List PyData} : zipK [.d (.list ds), .d (.list es)] ρ = .ok (zipP ds es) ρ := rfl
def enuK (xs : List DV) : M (List PyData) := match xs with
  | [.d (.tuple ds)] => mret (zipP (rng 0 ds.length) ds)
  | [.d (.list ds)] => mret (zipP (rng 0 ds.length) ds)
  | _ => mbad
@[simp] theorem iEnu_ap {m : M (List DV)} : iEnu m ρ = (m ρ).bd fun x ρ1 => enuK x ρ1 := by
  rw [show iEnu m = mbind m fun x => enuK x from rfl]; simp
@[simp] theorem enuK_t {ds : List PyData} : enuK [.d (.tuple ds)] ρ = .ok (zipP (rng 0 ds.length) ds) ρ := rfl
@[simp] theorem enuK_l {ds : List PyData} : enuK [.d (.list ds)] ρ = .ok (zipP (rng 0 ds.length) ds) ρ := rfl
/-! ### slices, sorted, list -/
def partK (x : DV) : M (Option Int) := match x with
  | .d (.int i) => mret (some i)
  | _ => mbad
@[simp] theorem mPart_ap {a : M DV} : mPart a ρ = (a ρ).bd fun x ρ1 => partK x ρ1 := by
  rw [show mPart a = mbind a fun x => partK x from rfl]; simp
@[simp] theorem partK_i {i : Int} : partK (.d (.int i)) ρ = .ok (some i) ρ := rfl
@[simp] theorem mNoP_ap : mNoP ρ = .ok none ρ := rfl
@[simp] theorem mSl_ap {a : M DV} {lo hi : M (Option Int)} : mSl a lo hi ρ = (a ρ).bd fun x ρ1 => (lo ρ1).bd fun l ρ2 => (hi ρ2).bd fun h ρ3 => (oOk (rSl x l h ρ3) ρ3).bd fun p _ => .ok p.1 p.2 := by
  unfold mSl
  simp only [mbind_ap, mbind_fun]
  congr 1; funext x ρ1; congr 1; funext l ρ2; congr 1; funext h ρ3
  unfold uOp
  try dsimp only
  cases rSl x l h ρ3 <;> rfl
@[simp] theorem rSl_t {ds : List PyData} {lo hi : Option Int} : rSl (.d (.tuple ds)) lo hi ρ = some (.d (.tuple (cutD ds lo hi)), ρ) := rfl
theorem rSl_l {ds : List PyData} {lo hi : Option Int} : rSl (.d (.list ds)) lo hi ρ = some (.o ρ.ob.length, ⟨ρ.sl, ρ.ob ++ [.lst ((cutD ds lo hi).map .d)]⟩) := rfl
/-- t[a:b] of a tuple, as it is frozen -/
theorem ftSl_t (w : Wf ρ) {a : M DV} {ds : List PyData} {lo hi : M (Option Int)} {l h : Option Int} (ha : a ρ = .ok (.d (.tuple ds)) ρ) (hl : lo ρ = .ok l ρ) (hh : hi ρ = .ok h ρ) : mFT (mSl a lo hi) ρ = .ok (.d (.tuple (cutD ds l h))) ρ :=
  ft_data w (by simp [ha, hl, hh])
theorem ftSl_l (w : Wf ρ) {a : M DV} {ds : List PyData} {lo hi : M (Option Int)} {l h : Option Int} (ha : a ρ = .ok (.d (.list ds)) ρ) (hl : lo ρ = .ok l ρ) (hh : hi ρ = .ok h ρ) : mFT (mSl a lo hi) ρ = .ok (.d (.list (cutD ds l h))) ρ :=
  ft_of w (by simp [ha, hl, hh, rSl_l])
end
end FL
end

section
set_option Elab.async false
set_option linter.all false
set_option maxRecDepth 100000
set_option maxHeartbeats 1000000
set_option autoImplicit false
/-! ## More equations for simp -/
namespace FL
open PySem PySem.Spec PyProof.Rows L2 DL
section
variable {i j : Int}
@[simp] theorem gAdd_ap : DL.gAdd i j = .int (i + j) := rfl
@[simp] theorem gSub_ap : DL.gSub i j = .int (i - j) := rfl
@[simp] theorem gMul_ap : DL.gMul i j = .int (i * j) := rfl
@[simp] theorem gMod_ap : DL.gMod i j = .int (i % j) := rfl
@[simp] theorem gDiv_ap : DL.gDiv i j = .int (i / j) := rfl
@[simp] theorem gPow_ap : DL.gPow i j = .int (i ^ j.toNat) := rfl
@[simp] theorem gLt_ap : DL.gLt i j = .bool (decide (i < j)) := rfl
@[simp] theorem gLe_ap : DL.gLe i j = .bool (decide (i ≤ j)) := rfl
@[simp] theorem gGt_ap : DL.gGt i j = .bool (decide (j < i)) := rfl
@[simp] theorem gGe_ap : DL.gGe i j = .bool (decide (j ≤ i)) := rfl
end
section
variable {α β γ : Type} {ρ : S} {a b c : M DV} {t u : M Bool} {m : M (List DV)} {sl : List (Option DV)}
@[simp] theorem mChain_ap {f g : DV → DV → M DV} : mChain f g a b c ρ = (a ρ).bd fun x ρ1 => (b ρ1).bd fun y ρ2 => (f x y ρ2).bd fun z ρ3 => andK z (mbind c fun u => g y u) ρ3 := by
  rw [show mChain f g a b c = mbind a fun x => mbind b fun y => mbind (f x y) fun z => andK z (mbind c fun u => g y u) from rfl]
  simp [mbind_fun]
@[simp] theorem cmod {i j : Int} : CMod i j = (0 < j) := rfl
@[simp] theorem atI_get {α : Type} {l : List α} {n : Nat} : atI l (n : Int) = l[n]? := by
  unfold atI ixN
  rw [if_pos (by omega)]
  by_cases h : n < l.length
  · rw [if_pos (by omega), Int.toNat_natCast]
    rfl
  · rw [if_neg (by omega), List.getElem?_eq_none (by omega)]
    rfl
@[simp] theorem atI_0 {α : Type} {x : α} {r : List α} : atI (x :: r) 0 = some x := @atI_get _ _ 0
@[simp] theorem atI_1 {α : Type} {x y : α} {r : List α} : atI (x :: y :: r) 1 = some y := @atI_get _ _ 1
@[simp] theorem atI_2 {α : Type} {x y z : α} {r : List α} : atI (x :: y :: z :: r) 2 = some z := @atI_get _ _ 2
@[simp] theorem atI_3 {α : Type} {x y z v : α} {r : List α} : atI (x :: y :: z :: v :: r) 3 = some v := @atI_get _ _ 3
@[simp] theorem atI_m {α β : Type} {f : α → β} {l : List α} {i : Int} : atI (l.map f) i = (atI l i).map f := by
  unfold atI
  rw [List.length_map]
  cases ixN l.length i with
  | none => rfl
  | some j => simp
theorem atI_int {α : Type} {l : List α} {i : Int} (h0 : 0 ≤ i) : atI l i = l[i.toNat]? := by
  have := @atI_get α l i.toNat
  rwa [Int.toNat_of_nonneg h0] at this
@[simp] theorem obK_z {x : OB} {r : List OB} : obK ⟨sl, x :: r⟩ 0 = x := rfl
@[simp] theorem obK_s {x : OB} {r : List OB} {n : Nat} : obK ⟨sl, x :: r⟩ (n + 1) = obK ⟨sl, r⟩ n := rfl
@[simp] theorem dkO_eq {k : Dk} : dkO k = [deckK k, cellsO k.c] := rfl
@[simp] theorem rdDk_ap {k : Dk} {rs : List OB} : rdDk (deckK k :: cellsO k.c :: rs) = some (k, rs) := @rdDk_mk ⟨[]⟩ k rs
@[simp] theorem allD_d {x : PyData} {l : List PyData} : allD (.d x :: l.map .d) = some (x :: l) := by simp
def dkK (o : Option (List PyData)) (f : Dk → List PyData → RV (PyData × Dk)) (ρ : S) : R DV := match o with
  | some ds => match rdDk ρ.ob with
    | some q => match f q.1 ds with
      | .ok p => .ok (.d p.1) ⟨ρ.sl, dkO p.2 ++ q.2⟩
      | _ => .bad
    | none => .bad
  | none => .bad
@[simp] theorem mCallD_ap {f : Dk → List PyData → RV (PyData × Dk)} : mCallD f m ρ = (m ρ).bd fun xs ρ1 => dkK (dkArg xs) f ρ1 := by
  rw [show mCallD f m = mbind m fun xs ρ1 => dkK (dkArg xs) f ρ1 from rfl]; simp
@[simp] theorem dkArg_o {r : List DV} : dkArg (.o 0 :: r) = allD r := rfl
def rvD (r : RV (PyData × Dk)) (ρ : S) (rs : List OB) : R DV := match r with
  | .ok p => .ok (.d p.1) ⟨ρ.sl, deckK p.2 :: cellsO p.2.c :: rs⟩
  | _ => .bad
@[simp] theorem dkK_ap {f : Dk → List PyData → RV (PyData × Dk)} {ds : List PyData} {k : Dk} {rs : List OB} : dkK (some ds) f ⟨sl, deckK k :: cellsO k.c :: rs⟩ = rvD (f k ds) ⟨sl, deckK k :: cellsO k.c :: rs⟩ rs := by
  unfold dkK rvD
  try dsimp only
  rw [rdDk_ap]
  try dsimp only
  cases f k ds <;> rfl
@[simp] theorem rvD_ok {y : PyData} {k : Dk} {rs : List OB} : rvD (.ok (y, k)) ρ rs = .ok (.d y) ⟨ρ.sl, deckK k :: cellsO k.c :: rs⟩ := rfl
@[simp] theorem curD0_ap {f : Dk → RV (PyData × Dk)} {k : Dk} : curD0 f k [] = f k := rfl
@[simp] theorem curD1_ap {f : Dk → PyData → RV (PyData × Dk)} {k : Dk} {x : PyData} : curD1 f k [x] = f k x := rfl
@[simp] theorem curK1_ap {f : PyData → RV Dk} {x : PyData} : curK1 f [x] = f x := rfl
/-! ### a def that draws -/
def endD (r : R FL.Flow) : RV (PyData × Dk) := match r with
  | .ok .nx ρ => match rdDk ρ.ob with
    | some (k', _) => .ok (.none, k')
    | none => .bad
  | .ok (.rt (.d y)) ρ => match rdDk ρ.ob with
    | some (k', _) => .ok (y, k')
    | none => .bad
  | _ => .bad
theorem runD_eq {n : Nat} {p : M FL.Flow} {k : Dk} {as : List PyData} : runD n p k as = endD (p ⟨some (.o 0) :: (as.map (fun x => some (.d x)) ++ List.replicate (n - (as.length + 1)) none), [deckK k, cellsO k.c]⟩) := rfl
@[simp] theorem endD_rt {y : PyData} {k : Dk} {rs : List OB} : endD (.ok (.rt (.d y)) ⟨sl, deckK k :: cellsO k.c :: rs⟩) = .ok (y, k) := by
  unfold endD
  try dsimp only
  rw [rdDk_ap]
@[simp] theorem endD_nx {k : Dk} {rs : List OB} : endD (.ok .nx ⟨sl, deckK k :: cellsO k.c :: rs⟩) = .ok (.none, k) := by
  unfold endD
  try dsimp only
  rw [rdDk_ap]
/-! ### methods of lists -/
def tyK (ty : String) (x : DV) (ρ : S) (r : R DV) : R DV := if tyB ty ρ x = true then r else .bad
def pairK (o : Option (DV × S)) : R DV := match o with
  | some p => .ok p.1 p.2
  | none => .bad
@[simp] theorem pairK_s {v : DV} {ρ : S} : pairK (some (v, ρ)) = .ok v ρ := rfl
@[simp] theorem pairK_n : pairK none = .bad := rfl
@[simp] theorem mBM_ap {ty : String} {r : DV → List DV → S → Option (DV × S)} {o : M DV} : mBM ty r o m ρ = (o ρ).bd fun x ρ1 => if tyB ty ρ1 x = true then (m ρ1).bd fun xs ρ2 => pairK (r x xs ρ2) else .bad := by
  unfold mBM
  rw [mbind_ap]
  congr 1
@[simp] theorem mBM0_ap {ty : String} {r : DV → List DV → S → Option (DV × S)} {o : M DV} : mBM0 ty r o ρ = (o ρ).bd fun x ρ1 => if tyB ty ρ1 x = true then pairK (r x [] ρ1) else .bad := by
  unfold mBM0
  rw [mbind_ap]
  congr 1
theorem tyB_l {k : Nat} {xs : List DV} (h : obK ρ k = .lst xs) : tyB "list" ρ (.o k) = true := by
  show (match obK ρ k with | .lst _ => ("list" : String) == "list" | .dk _ => ("list" : String) == "dict" | .dt _ => ("list" : String) == "dict" | .st _ => ("list" : String) == "set" | .gone => false) = true
  rw [h]
  rfl
@[simp] theorem tyB_list {ds : List PyData} : tyB "list" ρ (.d (.list ds)) = true := rfl
theorem rApp_of {k : Nat} {xs : List DV} {y : DV} (h : obK ρ k = .lst xs) (hl : xs.length < sizeLine) : rApp (.o k) [y] ρ = some (.d .none, ⟨ρ.sl, ρ.ob.set k (.lst (xs ++ [y]))⟩) := by
  unfold rApp
  try dsimp only
  rw [h]
  try dsimp only
  rw [if_pos hl]
def cpK (o : Option (DV × S)) : R DV := pairK o
theorem cOp_ap {r : List DV → S → Option (DV × S)} {xs : List DV} : cOp r xs ρ = pairK (r xs ρ) := by
  unfold cOp
  cases r xs ρ <;> rfl
theorem oOp_ap {r : DV → DV → S → Option (DV × S)} {x y : DV} : oOp r x y ρ = pairK (r x y ρ) := by
  unfold oOp
  cases r x y ρ <;> rfl
theorem uOp_ap {r : DV → S → Option (DV × S)} {x : DV} : uOp r x ρ = pairK (r x ρ) := by
  unfold uOp
  cases r x ρ <;> rfl
@[simp] theorem cdivw {i j : Int} : CDivW i j = (0 < j ∧ j.natAbs.log2 < 9000) := rfl
def putK (x y z : DV) (ρ : S) : R FL.Flow := if fewD ρ x = true then match putR ρ x y z with
  | some ρ4 => .ok .nx ρ4
  | none => .bad else .bad
@[simp] theorem mPutK_ap {wo wi wv : M DV} : mPutK wo wi wv ρ = (wv ρ).bd fun z ρ1 => (wo ρ1).bd fun x ρ2 => (wi ρ2).bd fun y ρ3 => putK x y z ρ3 := by
  rw [show mPutK wo wi wv = mbind wv fun z => mbind wo fun x => mbind wi fun y ρ3 => putK x y z ρ3 from rfl]
  simp [mbind_fun]
theorem putK_of {x y z : DV} {ρ4 : S} (h1 : fewD ρ x = true) (h2 : putR ρ x y z = some ρ4) : putK x y z ρ = .ok .nx ρ4 := by
  unfold putK
  rw [if_pos h1, h2]
def getK1 (x y : DV) (d : DV) (ρ : S) : R DV := match getR ρ x y with
  | some oz => .ok (oz.getD d) ρ
  | none => .bad
@[simp] theorem mGet1_ap {o i : M DV} : mGet1 o i ρ = (o ρ).bd fun x ρ1 => if isDc ρ1 x = true then (i ρ1).bd fun y ρ2 => getK1 x y (.d .none) ρ2 else .bad := by
  rw [show mGet1 o i = mbind o fun x ρ1 => if isDc ρ1 x = true then mbind i (fun y ρ2 => getK1 x y (.d .none) ρ2) ρ1 else .bad from rfl]
  simp [mbind_fun]
@[simp] theorem mGet2_ap {o i d : M DV} : mGet2 o i d ρ = (o ρ).bd fun x ρ1 => if isDc ρ1 x = true then (i ρ1).bd fun y ρ2 => (d ρ2).bd fun z ρ3 => getK1 x y z ρ3 else .bad := by
  rw [show mGet2 o i d = mbind o fun x ρ1 => if isDc ρ1 x = true then mbind i (fun y => mbind d fun z ρ3 => getK1 x y z ρ3) ρ1 else .bad from rfl]
  simp [mbind_fun]
@[simp] theorem mNewT_ap : mNewT ρ = .ok (.o ρ.ob.length) ⟨ρ.sl, ρ.ob ++ [.dt []]⟩ := rfl
@[simp] theorem isDc_d {l : List (PyData × PyData)} : isDc ρ (.d (.dict l)) = true := rfl
theorem oLtA_t {xs ys : List PyData} (h : lts (.tuple xs) (.tuple ys) = true) : oLtA (.d (.tuple xs)) (.d (.tuple ys)) ρ = .ok (.d (.bool (PySem.W.dataLt (.tuple xs) (.tuple ys)))) ρ := by
  show oLtD (.d (.tuple xs)) (.d (.tuple ys)) ρ = _
  show pairK (if lts (.tuple xs) (.tuple ys) = true then some (DV.d (.bool (PySem.W.dataLt (.tuple xs) (.tuple ys))), ρ) else none) = _
  rw [if_pos h]
  rfl
theorem lts_of {x y : PyData} (h : Lts x y) : lts x y = true := by
  unfold lts
  obtain ⟨h1, h2, h3, h4, h5⟩ := h
  simp [h1, h2, h3, h4, h5]
@[simp] theorem oTuple_o {k : Nat} : oTuple [.o k] ρ = pairK (rTuple [.o k] ρ) := cOp_ap
end
end FL
end

section
set_option Elab.async false
set_option linter.all false
set_option maxRecDepth 100000
set_option maxHeartbeats 1000000
set_option autoImplicit false
/-! ## Comprehensions, in a form for simp -/
namespace FL
open PySem PySem.Spec PyProof.Rows L2 DL
def prj {α : Type} (r : R α) : Option (α × List OB) := match r with
  | .ok a ρ => some (a, ρ.ob)
  | _ => none
section
variable {α β γ : Type} {ρ : S} {i i1 : M (List PyData)} {g g1 : DV → M Unit} {t : M Bool} {e : M DV} {vs vs1 : List Nat}
@[simp] theorem prj_ok {x : α} : prj (.ok x ρ) = some (x, ρ.ob) := rfl
@[simp] theorem prj_bad : prj (R.bad : R α) = none := rfl
@[simp] theorem prj_exc {x : XV} : prj (R.exc x ρ : R α) = none := rfl
@[simp] theorem wipeS_nil {sl : List (Option DV)} : wipeS sl [] = sl := rfl
@[simp] theorem wipeS_cons {sl : List (Option DV)} {v : Nat} {vs : List Nat} : wipeS sl (v :: vs) = (wipeS sl vs).set v none := rfl
theorem prj_inv {r : R α} {x : α} {ob : List OB} (h : prj r = some (x, ob)) : ∃ ρ', r = .ok x ρ' ∧ ρ'.ob = ob := by
  cases r with
  | ok a ρ' =>
    simp at h
    exact ⟨ρ', by rw [h.1], h.2⟩
  | exc _ _ => cases h
  | bad => cases h
theorem bd_inv {r : R α} {f : α → S → R β} {x : β} {ρ' : S} (h : r.bd f = .ok x ρ') : ∃ a ρ1, r = .ok a ρ1 ∧ f a ρ1 = .ok x ρ' := by
  cases r with
  | ok a ρ1 => exact ⟨a, ρ1, rfl, h⟩
  | exc _ _ => cases h
  | bad => cases h
theorem lcE (f : PyData → PyData) {x : PyData} {sl : List (Option DV)} {ob : List OB} (h : prj ((g (.d x) ⟨sl, ob⟩).bd fun _ ρ2 => e ρ2) = some (.d (f x), ob)) : ∃ ρ2 ρ4, g (.d x) ⟨sl, ob⟩ = .ok () ρ2 ∧ e ρ2 = .ok (.d (f x)) ρ4 ∧ ρ4.ob = ob := by
  obtain ⟨ρ4, h1, h2⟩ := prj_inv h
  obtain ⟨a, ρ2, h3, h4⟩ := bd_inv h1
  exact ⟨ρ2, ρ4, h3, h4, h2⟩
theorem mapL (f : PyData → PyData) (w : Wf ρ) {xs : List PyData} (hi : i ρ = .ok xs ρ) (hs : xs.length ≤ sizeLine)
    (h : ∀ x ∈ xs, prj ((g (.d x) ⟨wipeS ρ.sl vs, ρ.ob⟩).bd fun _ ρ2 => e ρ2) = some (.d (f x), ρ.ob)) : mFT (mLcF i g mYes e vs) ρ = .ok (.d (.list (xs.map f))) ρ :=
  ftLc_map f w hi hs fun x hx => lcE f (h x hx)
theorem mapO (f : PyData → PyData) (w : Wf ρ) {xs : List PyData} (hi : i ρ = .ok xs ρ) (hs : xs.length ≤ sizeLine)
    (h : ∀ x ∈ xs, prj ((g (.d x) ⟨wipeS ρ.sl vs, ρ.ob⟩).bd fun _ ρ2 => e ρ2) = some (.d (f x), ρ.ob)) : mLcF i g mYes e vs ρ = .ok (.o ρ.ob.length) ⟨ρ.sl, ρ.ob ++ [.lst ((xs.map f).map .d)]⟩ :=
  lcF_map f w hi hs fun x hx => lcE f (h x hx)
theorem mapA (f : PyData → PyData) (w : Wf ρ) {j : Nat} {xs : List PyData} (hi : i ρ = .ok xs ρ) (hs : xs.length ≤ sizeLine)
    (h : ∀ x ∈ xs, prj ((g (.d x) ⟨wipeS ρ.sl vs, ρ.ob⟩).bd fun _ ρ2 => e ρ2) = some (.d (f x), ρ.ob)) : sAsgFT (mLcF i g mYes e vs) j ρ = .ok .nx ⟨ρ.sl.set j (some (.d (.list (xs.map f)))), ρ.ob⟩ :=
  asgFT_of w (mapO f w hi hs h)
def tE (t : M Bool) (e : M DV) (ρ2 : S) : R (Option DV) := (t ρ2).bd fun b ρ3 => if b = true then (e ρ3).bd fun v ρ4 => .ok (some v) ρ4 else .ok none ρ3
theorem lcT (p : PyData → Bool) (f : PyData → PyData) {x : PyData} {sl : List (Option DV)} {ob : List OB} (h : prj ((g (.d x) ⟨sl, ob⟩).bd fun _ ρ2 => tE t e ρ2) = some (if p x = true then some (.d (f x)) else none, ob)) :
    ∃ ρ2 ρ3, g (.d x) ⟨sl, ob⟩ = .ok () ρ2 ∧ t ρ2 = .ok (p x) ρ3 ∧ (p x = false → ρ3.ob = ob) ∧ (p x = true → ∃ ρ4, e ρ3 = .ok (.d (f x)) ρ4 ∧ ρ4.ob = ob) := by
  obtain ⟨ρ4, h1, h2⟩ := prj_inv h
  obtain ⟨a, ρ2, h3, h4⟩ := bd_inv h1
  obtain ⟨b, ρ3, h5, h6⟩ := bd_inv h4
  cases b with
  | true =>
    rw [if_pos rfl] at h6
    obtain ⟨v, ρ5, h7, h8⟩ := bd_inv h6
    cases hp : p x with
    | true =>
      rw [hp, if_pos rfl] at h8
      cases h8
      exact ⟨ρ2, ρ3, h3, h5, (fun z => nomatch z), fun _ => ⟨_, h7, h2⟩⟩
    | false =>
      rw [hp] at h8
      cases h8
  | false =>
    rw [if_neg (by simp)] at h6
    cases hp : p x with
    | true =>
      rw [hp, if_pos rfl] at h6
      cases h6
    | false =>
      rw [hp, if_neg (by simp)] at h6
      cases h6
      exact ⟨ρ2, _, h3, h5, fun _ => h2, fun z => nomatch z⟩
theorem fltL (p : PyData → Bool) (f : PyData → PyData) (w : Wf ρ) {xs : List PyData} (hi : i ρ = .ok xs ρ) (hs : xs.length ≤ sizeLine)
    (h : ∀ x ∈ xs, prj ((g (.d x) ⟨wipeS ρ.sl vs, ρ.ob⟩).bd fun _ ρ2 => tE t e ρ2) = some (if p x = true then some (.d (f x)) else none, ρ.ob)) : mFT (mLcF i g t e vs) ρ = .ok (.d (.list ((xs.filter p).map f))) ρ :=
  ftLc_filter p f w hi hs fun x hx => lcT p f (h x hx)
theorem fltA (p : PyData → Bool) (f : PyData → PyData) (w : Wf ρ) {j : Nat} {xs : List PyData} (hi : i ρ = .ok xs ρ) (hs : xs.length ≤ sizeLine)
    (h : ∀ x ∈ xs, prj ((g (.d x) ⟨wipeS ρ.sl vs, ρ.ob⟩).bd fun _ ρ2 => tE t e ρ2) = some (if p x = true then some (.d (f x)) else none, ρ.ob)) : sAsgFT (mLcF i g t e vs) j ρ = .ok .nx ⟨ρ.sl.set j (some (.d (.list ((xs.filter p).map f)))), ρ.ob⟩ :=
  asgFT_of w (lcF_filter p f w hi hs fun x hx => lcT p f (h x hx))
theorem map2O (yf : PyData → List PyData) (f : PyData → PyData → PyData) (w : Wf ρ) {xs : List PyData} (hi : i ρ = .ok xs ρ) (hs : (xs.flatMap yf).length ≤ sizeLine)
    (h : ∀ x ∈ xs, ∃ sl', sl'.all (belO ρ.ob.length) = true ∧ ((g (.d x) ⟨wipeS ρ.sl vs, ρ.ob⟩).bd fun _ ρ2 => i1 ρ2) = .ok (yf x) ⟨sl', ρ.ob⟩ ∧ ∀ y ∈ yf x, prj ((g1 (.d y) ⟨wipeS sl' vs1, ρ.ob⟩).bd fun _ ρ4 => e ρ4) = some (.d (f x y), ρ.ob)) :
    mLc2F i g i1 g1 e vs vs1 ρ = .ok (.o ρ.ob.length) ⟨ρ.sl, ρ.ob ++ [.lst ((xs.flatMap fun x => (yf x).map (f x)).map .d)]⟩ :=
  lc2F_map yf f w hi hs fun x hx => by
    obtain ⟨sl', h0, h1, h2⟩ := h x hx
    obtain ⟨a, ρ2, h3, h4⟩ := bd_inv h1
    exact ⟨ρ2, _, h3, h4, rfl, h0, fun y hy => by
      obtain ⟨ρ4, ρ5, h5, h6, h7⟩ := lcE (f x) (h2 y hy)
      exact ⟨ρ4, ρ5, h5, h6, h7⟩⟩
theorem map2L (yf : PyData → List PyData) (f : PyData → PyData → PyData) (w : Wf ρ) {xs : List PyData} (hi : i ρ = .ok xs ρ) (hs : (xs.flatMap yf).length ≤ sizeLine)
    (h : ∀ x ∈ xs, ∃ sl', sl'.all (belO ρ.ob.length) = true ∧ ((g (.d x) ⟨wipeS ρ.sl vs, ρ.ob⟩).bd fun _ ρ2 => i1 ρ2) = .ok (yf x) ⟨sl', ρ.ob⟩ ∧ ∀ y ∈ yf x, prj ((g1 (.d y) ⟨wipeS sl' vs1, ρ.ob⟩).bd fun _ ρ4 => e ρ4) = some (.d (f x y), ρ.ob)) :
    mFT (mLc2F i g i1 g1 e vs vs1) ρ = .ok (.d (.list (xs.flatMap fun x => (yf x).map (f x)))) ρ := ft_of w (map2O yf f w hi hs h)
theorem map2A (yf : PyData → List PyData) (f : PyData → PyData → PyData) (w : Wf ρ) {j : Nat} {xs : List PyData} (hi : i ρ = .ok xs ρ) (hs : (xs.flatMap yf).length ≤ sizeLine)
    (h : ∀ x ∈ xs, ∃ sl', sl'.all (belO ρ.ob.length) = true ∧ ((g (.d x) ⟨wipeS ρ.sl vs, ρ.ob⟩).bd fun _ ρ2 => i1 ρ2) = .ok (yf x) ⟨sl', ρ.ob⟩ ∧ ∀ y ∈ yf x, prj ((g1 (.d y) ⟨wipeS sl' vs1, ρ.ob⟩).bd fun _ ρ4 => e ρ4) = some (.d (f x y), ρ.ob)) :
    sAsgFT (mLc2F i g i1 g1 e vs vs1) j ρ = .ok .nx ⟨ρ.sl.set j (some (.d (.list (xs.flatMap fun x => (yf x).map (f x))))), ρ.ob⟩ := asgFT_of w (map2O yf f w hi hs h)
/-- a made list, frozen: [..], sorted(..), xs[a:b], list(..) -/
theorem mkL {a : M DV} {xs : List PyData} (w : Wf ρ) (h : a ρ = .ok (.o ρ.ob.length) ⟨ρ.sl, ρ.ob ++ [.lst (xs.map .d)]⟩) : mFT a ρ = .ok (.d (.list xs)) ρ := ft_of w h
@[simp] theorem tE_ap {ρ2 : S} : tE t e ρ2 = (t ρ2).bd fun b ρ3 => if b = true then (e ρ3).bd fun v ρ4 => .ok (some v) ρ4 else .ok none ρ3 := rfl
end
end FL
end

section
set_option Elab.async false
set_option linter.all false
set_option maxRecDepth 100000
set_option maxHeartbeats 1000000
set_option autoImplicit false
/-! ## Own lists and the deck, for simp -/
namespace FL
open PySem PySem.Spec PyProof.Rows L2 DL
local instance : Tab0 := ⟨[]⟩
section
variable {ρ : S} {k : Nat} {l : List PyData} {sl : List (Option DV)} {rest : List OB} {m d : Int}
/-- a list of data, one's own -/
def lstB (l : List PyData) : OB := .lst (l.map .d)
@[simp] theorem bel_lstB {n : Nat} : belB n (lstB l) = true := bel_data n l
@[simp] theorem bel_cellsB {n : Nat} {c : List Int} : belB n (cellsO c) = true := bel_data n (c.map .int)
@[simp] theorem bel_gone {n : Nat} : belB n .gone = true := rfl
theorem bel_deckK {n : Nat} {k : Dk} (h : 1 < n) : belB n (deckK k) = true := by
  show (decide (1 < n) && (true && (true && true))) = true
  rw [decide_eq_true h]
  rfl
theorem wfK {k : Dk} (h1 : sl.all (belO (rest.length + 2)) = true) (h2 : rest.all (belB (rest.length + 2)) = true) : Wf ⟨sl, deckK k :: cellsO k.c :: rest⟩ := by
  rw [wf_iff]
  refine ⟨?_, h1⟩
  show (belB (rest.length + 2) (deckK k) && (belB (rest.length + 2) (cellsO k.c) && rest.all (belB (rest.length + 2)))) = true
  rw [bel_deckK (by omega), bel_cellsB, h2]
  rfl
theorem wfO {c : List Int} (h1 : sl.all (belO (rest.length + 2)) = true) (h2 : rest.all (belB (rest.length + 2)) = true) : Wf ⟨sl, deckO m d :: cellsO c :: rest⟩ :=
  wfK (k := ⟨"cells", "mixed", "draws", m, d, c⟩) h1 h2
theorem ftNil (w : Wf ρ) : mFT (mLst mNil) ρ = .ok (.d (.list [])) ρ := mkL w (by simp [size0])
/-! ### reading the deck -/
@[simp] theorem dg_c : oDG (.o 0) (.d (.str "cells")) ⟨sl, deckO m d :: rest⟩ = .ok (.o 1) ⟨sl, deckO m d :: rest⟩ := by
  unfold oDG
  rw [oOp_ap]
  show pairK (match some (lookD [((.inr ("cells" : Str) : Key), DV.o 1), (.inr ("mixed" : Str), .d (.int m)), (.inr ("draws" : Str), .d (.int d))] (.inr ("cells" : Str))) with | some (some z) => some (z, _) | _ => none) = _
  rw [look_cells]
  rfl
@[simp] theorem dg_m : oDG (.o 0) (.d (.str "mixed")) ⟨sl, deckO m d :: rest⟩ = .ok (.d (.int m)) ⟨sl, deckO m d :: rest⟩ := by
  unfold oDG
  rw [oOp_ap]
  show pairK (match some (lookD [((.inr ("cells" : Str) : Key), DV.o 1), (.inr ("mixed" : Str), .d (.int m)), (.inr ("draws" : Str), .d (.int d))] (.inr ("mixed" : Str))) with | some (some z) => some (z, _) | _ => none) = _
  rw [look_mixed]
  rfl
@[simp] theorem dg_d : oDG (.o 0) (.d (.str "draws")) ⟨sl, deckO m d :: rest⟩ = .ok (.d (.int d)) ⟨sl, deckO m d :: rest⟩ := by
  unfold oDG
  rw [oOp_ap]
  show pairK (match some (lookD [((.inr ("cells" : Str) : Key), DV.o 1), (.inr ("mixed" : Str), .d (.int m)), (.inr ("draws" : Str), .d (.int d))] (.inr ("draws" : Str))) with | some (some z) => some (z, _) | _ => none) = _
  rw [look_draws]
  rfl
@[simp] theorem put_d {e : Int} : putK (.o 0) (.d (.str "draws")) (.d (.int e)) ⟨sl, deckO m d :: rest⟩ = .ok .nx ⟨sl, deckO m e :: rest⟩ := putK_of few_deck put_draws
@[simp] theorem endD_o {c : List Int} {y : PyData} : endD (.ok (.rt (.d y)) ⟨sl, deckO m d :: cellsO c :: rest⟩) = .ok (y, ⟨"cells", "mixed", "draws", m, d, c⟩) := endD_rt (k := ⟨"cells", "mixed", "draws", m, d, c⟩)
/-! ### own lists -/
@[simp] theorem obK_ty {x : OB} {r : List OB} {n : Nat} {ty : String} : tyB ty ⟨sl, x :: r⟩ (.o (n + 1)) = tyB ty ⟨sl, r⟩ (.o n) := rfl
@[simp] theorem tyB_z {r : List OB} : tyB "list" ⟨sl, lstB l :: r⟩ (.o 0) = true := rfl
@[simp] theorem tyB_c {r : List OB} {c : List Int} : tyB "list" ⟨sl, cellsO c :: r⟩ (.o 0) = true := rfl
theorem neNil {l2 : List PyData} (h : obK ρ k = lstB l) (he : Eqs (.list l)) : oNeA (.o k) (.d (.list [])) ρ = .ok (.d (.bool (!l.isEmpty))) ρ := by
  show oOp (rEq true) _ _ ρ = _
  rw [oOp_ap]
  unfold rEq
  rw [dat_of h]
  show pairK (if (eqs (.list l) && eqs (.list [])) = true then some (DV.d (.bool (!PyData.eqv (.list l) (.list []))), ρ) else none) = _
  have e : eqs (.list l) = true := by
    obtain ⟨h1, h2⟩ := he
    unfold eqs
    rw [h1, h2]
    rfl
  rw [e, if_pos (by rfl), eqv_nil]
  rfl
theorem eqNil {l2 : List PyData} (h : obK ρ k = lstB l) (he : Eqs (.list l)) : oEqA (.o k) (.d (.list [])) ρ = .ok (.d (.bool l.isEmpty)) ρ := by
  show oOp (rEq false) _ _ ρ = _
  rw [oOp_ap]
  unfold rEq
  rw [dat_of h]
  show pairK (if (eqs (.list l) && eqs (.list [])) = true then some (DV.d (.bool (PyData.eqv (.list l) (.list []))), ρ) else none) = _
  have e : eqs (.list l) = true := by
    obtain ⟨h1, h2⟩ := he
    unfold eqs
    rw [h1, h2]
    rfl
  rw [e, if_pos (by rfl), eqv_nil]
  rfl
theorem app_of {x : PyData} (h : obK ρ k = lstB l) (hl : l.length ≤ 100000) : rApp (.o k) [.d x] ρ = some (.d .none, ⟨ρ.sl, ρ.ob.set k (lstB (l ++ [x]))⟩) := by
  rw [rApp_of h (by rw [List.length_map, sizeL]; omega)]
  unfold lstB
  rw [List.map_append]
  rfl
theorem pop_of {x : PyData} (h : obK ρ k = lstB (l ++ [x])) : rPop' (.o k) [] ρ = some (.d x, ⟨ρ.sl, ρ.ob.set k (lstB l)⟩) := by
  show (match obK ρ k with | .lst xs => (match xs[xs.length - 1]? with | some z => some (z, (⟨ρ.sl, ρ.ob.set k (.lst xs.dropLast)⟩ : S)) | none => none) | _ => none) = _
  rw [h]
  unfold lstB
  try dsimp only
  rw [List.map_append]
  rw [show (l.map DV.d ++ [x].map DV.d)[(l.map DV.d ++ [x].map DV.d).length - 1]? = some (.d x) by simp]
  rw [show (l.map DV.d ++ [x].map DV.d).dropLast = l.map DV.d by simp]
theorem popAt_of {x : PyData} {i : Int} (h : obK ρ k = lstB l) (h0 : 0 ≤ i) (h1 : i < 2 ^ 62) (hx : l[i.toNat]? = some x) : rPopAt' (.o k) [.d (.int i)] ρ = some (.d x, ⟨ρ.sl, ρ.ob.set k (lstB (l.eraseIdx i.toNat))⟩) := by
  show (match obK ρ k with | .lst xs => if 0 ≤ i ∧ i < 2 ^ 62 then (match xs[i.toNat]? with | some z => some (z, (⟨ρ.sl, ρ.ob.set k (.lst (xs.eraseIdx i.toNat))⟩ : S)) | none => none) else none | _ => none) = _
  rw [h]
  unfold lstB
  try dsimp only
  rw [if_pos ⟨h0, h1⟩, List.getElem?_map, hx]
  dsimp only [Option.map_some]
  rw [erase_map]
@[simp] theorem lenO_z {r : List OB} : oLen [.o 0] ⟨sl, lstB l :: r⟩ = .ok (.d (.int (l.length : Nat))) ⟨sl, lstB l :: r⟩ := by
  show R.ok (DV.d (.int ((l.map DV.d).length : Nat))) _ = _
  rw [List.length_map]
theorem len_o (h : obK ρ k = lstB l) : oLen [.o k] ρ = .ok (.d (.int (l.length : Nat))) ρ := by
  unfold oLen
  rw [cOp_ap]
  show pairK (ox ((match obK ρ k with | .lst xs => some xs | _ => none).map fun l : List DV => DV.d (.int (l.length : Nat))) ρ) = _
  rw [h]
  show R.ok (DV.d (.int ((l.map DV.d).length : Nat))) _ = _
  rw [List.length_map]
theorem ext_of {j : Nat} {l2 : List PyData} (h : obK ρ k = lstB l) (h2 : obK ρ j = lstB l2) (hl : l.length + l2.length ≤ 100000) : rExtA (.o k) [.o j] ρ = some (.d .none, ⟨ρ.sl, ρ.ob.set k (lstB (l ++ l2))⟩) := by
  show (match obK ρ k, obK ρ j with | .lst xs, .lst zs => if xs.length + zs.length ≤ sizeLine then some (DV.d .none, (⟨ρ.sl, ρ.ob.set k (.lst (xs ++ zs))⟩ : S)) else none | _, _ => none) = _
  rw [h, h2]
  unfold lstB
  try dsimp only
  rw [if_pos (by rw [List.length_map, List.length_map, sizeL]; omega), List.map_append]
def trimK (n : Nat) (f : FL.Flow) (ρ' : S) : R FL.Flow := match f with
  | .nx => if okTrim n ρ' = true then .ok .nx ⟨ρ'.sl, ρ'.ob.take n⟩ else .bad
  | f => .ok f ρ'
@[simp] theorem trimK_nx {n : Nat} : trimK n .nx ρ = if okTrim n ρ = true then .ok .nx ⟨ρ.sl, ρ.ob.take n⟩ else .bad := rfl
@[simp] theorem sTrim_ap {p : M FL.Flow} : sTrim p ρ = (p ρ).bd fun f ρ' => trimK ρ.ob.length f ρ' := by
  unfold sTrim
  cases p ρ with
  | ok f ρ' => cases f <;> rfl
  | _ => rfl
theorem tup_o (h : obK ρ k = lstB l) : oTuple [.o k] ρ = .ok (.d (.tuple l)) ρ := by
  rw [oTuple_o]
  show pairK (ox ((match obK ρ k with | .lst xs => allD xs | _ => none).map fun ds => DV.d (.tuple ds)) ρ) = _
  rw [h]
  show pairK (ox ((allD (l.map .d)).map _) ρ) = _
  rw [allD_dmap]
  rfl
theorem frzO (h : obK ρ k = lstB l) : FL.frzV (.o k) ρ = some (.list l, ⟨ρ.sl.map (ren k (.list l)), ρ.ob.set k .gone⟩) := @frz_of ⟨[]⟩ ρ k l h
theorem sortsB_of {ds : List PyData} (h : Sorts ds) : sortsB ds = true := by
  obtain ⟨h1, h2, h3, h4⟩ := h
  unfold sortsB
  rw [h1]
  simp only [Bool.not_false, Bool.true_and, Bool.and_eq_true, Bool.or_eq_true, List.all_eq_true, decide_eq_true_eq]
  refine ⟨fun d hd d' hd' => ?_, ?_, h4⟩
  · exact h2 d hd d' hd'
  · rcases h3 with h3 | h3
    · left
      intro d hd
      obtain ⟨x, r, rfl⟩ := h3 d hd
      rfl
    · right
      intro d hd
      have := h3 d hd
      cases d with
      | none => exact absurd rfl this.1
      | tuple xs => exact absurd rfl (this.2 xs)
      | _ => rfl
theorem sorted_v {x : DV} {xs : List PyData} (h : lstOf ρ x = some xs) (hs : Sorts xs) : oSorted [x] ρ = .ok (.o ρ.ob.length) ⟨ρ.sl, ρ.ob ++ [lstB (srt xs)]⟩ := by
  unfold oSorted
  rw [cOp_ap]
  show pairK (match lstOf ρ x with | some ds => if sortsB ds = true then some (DV.o ρ.ob.length, (⟨ρ.sl, ρ.ob ++ [.lst ((srt ds).map .d)]⟩ : S)) else none | none => none) = _
  rw [h]
  try dsimp only
  rw [if_pos (sortsB_of hs)]
  rfl
theorem ftSorted (w : Wf ρ) {m : M (List DV)} {x : DV} {xs : List PyData} (hm : m ρ = .ok [x] ρ) (h : lstOf ρ x = some xs) (hs : Sorts xs) : mFT (mCa oSorted m) ρ = .ok (.d (.list (srt xs))) ρ :=
  mkL w (by rw [mCa_ap, hm]; exact sorted_v h hs)
theorem ftLst (w : Wf ρ) {m : M (List DV)} {xs : List PyData} (hm : m ρ = .ok (xs.map .d) ρ) (hl : xs.length ≤ 100000) : mFT (mLst m) ρ = .ok (.d (.list xs)) ρ :=
  mkL w (by rw [mLst_ap, hm, bd_ok, if_pos (by rw [List.length_map, sizeL]; omega)])
theorem mkL' {ρ' : S} {a : M DV} {xs : List PyData} (w : Wf ρ') (hn : ρ'.ob.length = ρ.ob.length) (h : a ρ = .ok (.o ρ'.ob.length) ⟨ρ'.sl, ρ'.ob ++ [.lst (xs.map .d)]⟩) : mFT a ρ = .ok (.d (.list xs)) ρ' := by
  rw [mFT_ap, h, bd_ok, ← hn]
  exact ft_last w
/-- the items change the deck -/
theorem ftLstD {ρ' : S} (w : Wf ρ') (hn : ρ'.ob.length = ρ.ob.length) {m : M (List DV)} {xs : List PyData} (hm : m ρ = .ok (xs.map .d) ρ') (hl : xs.length ≤ 100000) : mFT (mLst m) ρ = .ok (.d (.list xs)) ρ' :=
  mkL' w hn (by rw [mLst_ap, hm, bd_ok, if_pos (by rw [List.length_map, sizeL]; omega)])
theorem lstOf_o (h : obK ρ k = lstB l) : lstOf ρ (.o k) = some l := by
  show (match obK ρ k with | .lst xs => allD xs | _ => none) = some l
  rw [h]
  exact allD_dmap
end
end FL
end

section
set_option Elab.async false
set_option linter.all false
set_option maxRecDepth 100000
set_option maxHeartbeats 1000000
set_option autoImplicit false
namespace Mt
open PySem PySem.Spec PyProof.Rows L2 DL
local instance : Tab0 := ⟨[]⟩
/-! ### what the program says of values, in plain words -/
def isWh : PyData → Bool
  | .int _ => true
  | _ => false
def isBel (e : Int) : PyData → Bool
  | .int i => decide (0 ≤ i ∧ i < e)
  | _ => false
def isPr : PyData → Bool
  | .tuple [_, _] => true
  | _ => false
def isPl (rs : List Int) : PyData → Bool
  | .tuple [.int u, i] => decide (0 ≤ u ∧ u < rs.length) && isBel (rs.getD u.toNat 0) i
  | _ => false
theorem pr_of {x : PyData} (h : isPr x = true) : ∃ u i, x = .tuple [u, i] := by
  match x, h with
  | .tuple [u, i], _ => exact ⟨u, i, rfl⟩
theorem isPl_not {rs : List Int} {x : PyData} (h : isPr x = false) : isPl rs x = false := by
  match x, h with
  | .none, _ => rfl
  | .bool _, _ => rfl
  | .int _, _ => rfl
  | .str _, _ => rfl
  | .list _, _ => rfl
  | .dict _, _ => rfl
  | .tuple [], _ => rfl
  | .tuple [.none], _ => rfl
  | .tuple [.bool _], _ => rfl
  | .tuple [.int _], _ => rfl
  | .tuple [.str _], _ => rfl
  | .tuple [.list _], _ => rfl
  | .tuple [.dict _], _ => rfl
  | .tuple [.tuple _], _ => rfl
  | .tuple (.none :: _ :: _ :: _), _ => rfl
  | .tuple (.bool _ :: _ :: _ :: _), _ => rfl
  | .tuple (.int _ :: _ :: _ :: _), _ => rfl
  | .tuple (.str _ :: _ :: _ :: _), _ => rfl
  | .tuple (.list _ :: _ :: _ :: _), _ => rfl
  | .tuple (.dict _ :: _ :: _ :: _), _ => rfl
  | .tuple (.tuple _ :: _ :: _ :: _), _ => rfl
theorem isPl_no2 {rs : List Int} {u i : PyData} (h : isBel (rs.length : Nat) u = false) : isPl rs (.tuple [u, i]) = false := by
  cases u with
  | int u =>
    show (decide (0 ≤ u ∧ u < rs.length) && isBel (rs.getD u.toNat 0) i) = false
    have h : decide (0 ≤ u ∧ u < (rs.length : Nat)) = false := h
    rw [h]
    rfl
  | _ => rfl
theorem bel_of {e : Nat} {u : PyData} (h : isBel (e : Nat) u = true) : ∃ n : Nat, u = .int n ∧ n < e := by
  cases u with
  | int u =>
    have h := of_decide_eq_true (show decide (0 ≤ u ∧ u < (e : Nat)) = true from h)
    exact ⟨u.toNat, by rw [Int.toNat_of_nonneg h.1], by omega⟩
  | _ => cases h
theorem isPl_yes {rs : List Int} {n : Nat} {i : PyData} (h : n < rs.length) : isPl rs (.tuple [.int n, i]) = isBel rs[n] i := by
  show (decide (0 ≤ (n : Int) ∧ (n : Int) < rs.length) && isBel (rs.getD (n : Int).toNat 0) i) = _
  rw [decide_eq_true (by omega), Bool.true_and, Int.toNat_natCast, List.getD_eq_getElem?_getD, List.getElem?_eq_getElem h]
  rfl
theorem atI_map {α : Type} {f : α → PyData} {l : List α} {n : Nat} (h : n < l.length) : atI (l.map f) (n : Int) = some (f l[n]) := atI_nat (by rw [List.getElem?_map, List.getElem?_eq_getElem h]; rfl)
theorem u_ix {ds : List PyData} {i : Int} {z : PyData} {ρ : S} {Q : QD} (e : atI ds i = some z) (q : Q (.d z) ρ) : dIx (.d (.tuple ds)) (.d (.int i)) ρ Q := ⟨z, e, q⟩
theorem u_ixL {ds : List PyData} {i : Int} {z : PyData} {ρ : S} {Q : QD} (e : atI ds i = some z) (q : Q (.d z) ρ) : dIx (.d (.list ds)) (.d (.int i)) ρ Q := ⟨z, e, q⟩
theorem u_len {ds : List PyData} {ρ : S} {Q : QD} (q : Q (.d (.int (ds.length : Nat))) ρ) : dLen [.d (.tuple ds)] ρ Q := ⟨ds.map .d, rfl, by rw [List.length_map]; exact q⟩
theorem u_lenL {ds : List PyData} {ρ : S} {Q : QD} (q : Q (.d (.int (ds.length : Nat))) ρ) : dLen [.d (.list ds)] ρ Q := ⟨ds.map .d, rfl, by rw [List.length_map]; exact q⟩
def isTch (rs : List Int) : PyData → Bool
  | .tuple [x, y] => isPl rs x && isPl rs y && PySem.W.dataLt x y
  | _ => false
theorem isTch_not {rs : List Int} {x : PyData} (h : isPr x = false) : isTch rs x = false := by
  match x, h with
  | .none, _ => rfl
  | .bool _, _ => rfl
  | .int _, _ => rfl
  | .str _, _ => rfl
  | .list _, _ => rfl
  | .dict _, _ => rfl
  | .tuple [], _ => rfl
  | .tuple [_], _ => rfl
  | .tuple (_ :: _ :: _ :: _), _ => rfl
/-- what a place is -/
theorem pl_of {rs : List Int} {x : PyData} (h : isPl rs x = true) : ∃ u i : Int, x = .tuple [.int u, .int i] := by
  match x, h with
  | .tuple [.int u, .int i], _ => exact ⟨u, i, rfl⟩
  | .tuple [.int u, .none], h => simp [isPl, isBel] at h
  | .tuple [.int u, .bool _], h => simp [isPl, isBel] at h
  | .tuple [.int u, .str _], h => simp [isPl, isBel] at h
  | .tuple [.int u, .list _], h => simp [isPl, isBel] at h
  | .tuple [.int u, .tuple _], h => simp [isPl, isBel] at h
  | .tuple [.int u, .dict _], h => simp [isPl, isBel] at h
theorem pl_lts {rs : List Int} {x y : PyData} (h1 : isPl rs x = true) (h2 : isPl rs y = true) : Lts x y := by
  obtain ⟨u, i, rfl⟩ := pl_of h1
  obtain ⟨v, j, rfl⟩ := pl_of h2
  exact ⟨by simp [PySem.W.alike, PySem.W.alikeAll], by simp [PyData.hasDict, PyData.hasDictAll], by simp [PyData.hasDict, PyData.hasDictAll], rfl, by simp [PyData.depth, PyData.depthAll]⟩
def isLen : PyData → Bool
  | .int i => decide (1 ≤ i)
  | _ => false
def areRg : PyData → Bool
  | .tuple ds => decide (1 ≤ ds.length ∧ ds.length ≤ 40) && ds.all isLen
  | _ => false
def asc : List PyData → Bool
  | x :: y :: r => PySem.W.dataLt x y && asc (y :: r)
  | _ => true
def nbr : List PyData → Prop
  | x :: y :: r => Lts x y ∧ nbr (y :: r)
  | _ => True
/-- neighbours -/
def prs : List PyData → List PyData
  | x :: y :: r => .tuple [x, y] :: prs (y :: r)
  | _ => []
def ltP : PyData → Bool
  | .tuple [x, y] => PySem.W.dataLt x y
  | _ => false
theorem prs_len : ∀ xs : List PyData, (prs xs).length ≤ xs.length
  | [] => Nat.le_refl _
  | [_] => Nat.zero_le _
  | x :: y :: r => Nat.succ_le_succ (prs_len (y :: r))
theorem zip_drop : ∀ xs : List PyData, zipP xs (xs.drop 1) = prs xs
  | [] => rfl
  | [_] => rfl
  | x :: y :: r => by
    show .tuple [x, y] :: zipP (y :: r) r = .tuple [x, y] :: prs (y :: r)
    rw [← zip_drop (y :: r)]
    rfl
theorem cut_from1 {α : Type} (xs : List α) : DL.cutD xs (some 1) none = xs.drop 1 := by
  unfold DL.cutD
  rw [show HT.sIx xs.length 0 (some 1) = min 1 xs.length from HT.sIx_nat xs.length 0 1, HT.sIx_none]
  cases xs with
  | nil => rfl
  | cons x r =>
    rw [show min 1 (x :: r).length = 1 by rw [List.length_cons]; omega]
    show List.take ((x :: r).length - 1) r = r
    rw [List.length_cons, Nat.add_sub_cancel]
    exact List.take_length
theorem zip_tail (xs : List PyData) : zipP xs (DL.cutD xs (some 1) none) = prs xs := by rw [cut_from1, zip_drop]
theorem asc_prs : ∀ xs : List PyData, asc xs = (prs xs).all ltP
  | [] => rfl
  | [_] => rfl
  | x :: y :: r => by
    show (PySem.W.dataLt x y && asc (y :: r)) = (ltP (.tuple [x, y]) && (prs (y :: r)).all ltP)
    rw [asc_prs (y :: r)]
    rfl
theorem prs_mem : ∀ {xs : List PyData} {x : PyData}, nbr xs → x ∈ prs xs → ∃ u v, x = .tuple [u, v] ∧ Lts u v
  | [], _, _, h => nomatch h
  | [_], _, _, h => nomatch h
  | a :: b :: r, x, n, h => by
    rcases List.mem_cons.mp h with e | h
    · exact ⟨a, b, e, n.1⟩
    · exact prs_mem n.2 h
def sides : PyData → List PyData
  | .tuple ds => ds
  | _ => []
def dist (l : List PyData) : Bool := match rowsI l with
  | some ws => decide (dcn ws = ws.length)
  | none => false
def isFlT (ns : List Int) (ts : List PyData) : Bool := ts.all (isTch ns) && (asc ts && dist (ts.flatMap sides))
def isFl : PyData → Bool
  | .tuple [.tuple rs, .tuple ts] => areRg (.tuple rs) && (match intsOf rs with
    | some ns => isFlT ns ts
    | none => false)
  | _ => false
theorem rg_tup {x : PyData} (h : areRg x = true) : ∃ ns : List Int, x = .tuple (ns.map .int) := by
  cases x with
  | tuple rs =>
    have h : (decide (1 ≤ rs.length ∧ rs.length ≤ 40) && rs.all isLen) = true := h
    rw [Bool.and_eq_true] at h
    have h2 := h.2
    clear h
    clear h
    have : ∃ ns : List Int, rs = ns.map .int := by
      induction rs with
      | nil => exact ⟨[], rfl⟩
      | cons r rs ih =>
        rw [List.all_cons, Bool.and_eq_true] at h2
        obtain ⟨ns, rfl⟩ := ih h2.2
        cases r with
        | int i => exact ⟨i :: ns, rfl⟩
        | _ => cases h2.1
    obtain ⟨ns, rfl⟩ := this
    exact ⟨ns, rfl⟩
  | _ => cases h
theorem tch_of {ns : List Int} {t : PyData} (h : isTch ns t = true) : ∃ u i v j : Int, t = .tuple [.tuple [.int u, .int i], .tuple [.int v, .int j]] := by
  cases hp : isPr t with
  | false =>
    rw [isTch_not hp] at h
    cases h
  | true =>
    obtain ⟨x, y, rfl⟩ := pr_of hp
    have h : (isPl ns x && isPl ns y && PySem.W.dataLt x y) = true := h
    rw [Bool.and_eq_true, Bool.and_eq_true] at h
    obtain ⟨u, i, rfl⟩ := pl_of h.1.1
    obtain ⟨v, j, rfl⟩ := pl_of h.1.2
    exact ⟨u, i, v, j, rfl⟩
theorem tch_nbr {ns : List Int} : ∀ {ts : List PyData}, ts.all (isTch ns) = true → nbr ts
  | [], _ => trivial
  | [_], _ => trivial
  | x :: y :: r, h => by
    rw [List.all_cons, Bool.and_eq_true] at h
    have h2 := h.2
    rw [List.all_cons, Bool.and_eq_true] at h2
    obtain ⟨u, i, v, j, rfl⟩ := tch_of h.1
    obtain ⟨u', i', v', j', rfl⟩ := tch_of h2.1
    exact ⟨⟨by simp [PySem.W.alike, PySem.W.alikeAll], by simp [PyData.hasDict, PyData.hasDictAll], by simp [PyData.hasDict, PyData.hasDictAll], rfl, by simp [PyData.depth, PyData.depthAll]⟩, tch_nbr h.2⟩
theorem tch_rows {ns : List Int} : ∀ {ts : List PyData}, ts.all (isTch ns) = true → ∃ ws, rowsI (ts.flatMap sides) = some ws ∧ ws.length = 2 * ts.length ∧ (ts.flatMap sides).length = ws.length
  | [], _ => ⟨[], rfl, rfl, rfl⟩
  | x :: r, h => by
    rw [List.all_cons, Bool.and_eq_true] at h
    obtain ⟨ws, e, l, l2⟩ := tch_rows h.2
    obtain ⟨u, i, v, j, rfl⟩ := tch_of h.1
    refine ⟨[u, i] :: [v, j] :: ws, ?_, by simp [l]; omega, by simp [l2, sides]⟩
    show rowsI (.tuple [.int u, .int i] :: .tuple [.int v, .int j] :: r.flatMap sides) = _
    simp only [rowsI, rowI, intsOf, Option.map_some, e]
theorem isFl_no1 {x : PyData} (h : isPr x = false) : isFl x = false := by
  match x, h with
  | .none, _ => rfl
  | .bool _, _ => rfl
  | .int _, _ => rfl
  | .str _, _ => rfl
  | .list _, _ => rfl
  | .dict _, _ => rfl
  | .tuple [], _ => rfl
  | .tuple [.none], _ => rfl
  | .tuple [.bool _], _ => rfl
  | .tuple [.int _], _ => rfl
  | .tuple [.str _], _ => rfl
  | .tuple [.list _], _ => rfl
  | .tuple [.dict _], _ => rfl
  | .tuple [.tuple _], _ => rfl
  | .tuple (_ :: _ :: _ :: _), _ => simp [isFl]
theorem isFl_no2 {r t : PyData} (h : areRg r = false) : isFl (.tuple [r, t]) = false := by
  cases r with
  | tuple rs =>
    cases t with
    | tuple ts =>
      show (areRg (.tuple rs) && _) = false
      rw [h]
      rfl
    | _ => rfl
  | _ => rfl
theorem isFl_no3 {r t : PyData} (h : isTup t = false) : isFl (.tuple [r, t]) = false := by
  cases r <;> cases t <;> first | rfl | cases h
theorem tup_of {t : PyData} (h : isTup t = true) : ∃ ts, t = .tuple ts := by
  cases t with
  | tuple ts => exact ⟨ts, rfl⟩
  | _ => cases h
theorem isFl_eq {ns : List Int} {ts : List PyData} (h : areRg (.tuple (ns.map .int)) = true) : isFl (.tuple [.tuple (ns.map .int), .tuple ts]) = isFlT ns ts := by
  show (areRg (.tuple (ns.map .int)) && (match intsOf (ns.map .int) with | some ns => isFlT ns ts | none => false)) = _
  rw [h, intsOf_map]
  rfl
def few (x : PyData) : Prop := ∀ r ts, x = .tuple [r, .tuple ts] → ts.length ≤ 31
/-! ### right floors -/
abbrev Tc := Int × Int × Int × Int
def plD (u i : Int) : PyData := .tuple [.int u, .int i]
def tD (t : Tc) : PyData := .tuple [plD t.1 t.2.1, plD t.2.2.1 t.2.2.2]
def flD (ns : List Int) (tl : List Tc) : PyData := .tuple [.tuple (ns.map .int), .tuple (tl.map tD)]
structure FlOk (ns : List Int) (tl : List Tc) : Prop where
  fl : isFl (flD ns tl) = true
  fw31 : tl.length ≤ 31
theorem FlOk.fw {ns : List Int} {tl : List Tc} (h : FlOk ns tl) : few (flD ns tl) := fun r ts e => by
  injection e with e
  injection e with _ e
  injection e with e _
  injection e with e
  rw [← e, List.length_map]
  exact h.fw31
/-! ### partners -/
abbrev Tab := List (List Key × PyData)
def plK (u i : Int) : List Key := [.inl u, .inl i]
def mapV (l : Tab) : List (List Key × DV) := l.map fun p => (p.1, .d p.2)
theorem putD_map (l : Tab) (k : List Key) (v : PyData) : putD (mapV l) k (.d v) = mapV (putD l k v) := by
  unfold putD mapV
  rw [List.any_map]
  have e : ((fun p : List Key × DV => decide (p.1 = k)) ∘ fun p : List Key × PyData => (p.1, DV.d p.2)) = fun p => decide (p.1 = k) := rfl
  rw [e]
  by_cases h : (l.any fun p => decide (p.1 = k)) = true
  · rw [if_pos h, if_pos h, List.map_map, List.map_map]
    refine List.map_congr_left fun p _ => ?_
    by_cases hp : p.1 = k
    · simp [hp]
    · simp [hp]
  · rw [if_neg h, if_neg h, List.map_append]
    rfl
theorem putD_len {κ α : Type} [DecidableEq κ] (l : List (κ × α)) (k : κ) (v : α) : (putD l k v).length ≤ l.length + 1 := by
  unfold putD
  by_cases h : (l.any fun p => decide (p.1 = k)) = true
  · rw [if_pos h, List.length_map]
    omega
  · rw [if_neg h, List.length_append]
    simp
def par1 (l : Tab) (t : Tc) : Tab := putD (putD l (plK t.1 t.2.1) (plD t.2.2.1 t.2.2.2)) (plK t.2.2.1 t.2.2.2) (plD t.1 t.2.1)
def parP (tl : List Tc) : Tab := tl.foldl par1 []
theorem parP_len (tl : List Tc) : (parP tl).length ≤ 2 * tl.length := by
  have : ∀ (tl : List Tc) (l : Tab), (tl.foldl par1 l).length ≤ l.length + 2 * tl.length := by
    intro tl
    induction tl with
    | nil => intro l; simp
    | cons t r ih =>
      intro l
      have h1 := ih (par1 l t)
      have h2 := putD_len (putD l (plK t.1 t.2.1) (plD t.2.2.1 t.2.2.2)) (plK t.2.2.1 t.2.2.2) (plD t.1 t.2.1)
      have h3 := putD_len l (plK t.1 t.2.1) (plD t.2.2.1 t.2.2.2)
      rw [List.foldl_cons, List.length_cons]
      unfold par1 at h1 ⊢
      omega
  have h := this tl []
  rw [List.length_nil] at h
  unfold parP
  omega
theorem parP_take {tl : List Tc} {i : Nat} {t : Tc} (h : tl[i]? = some t) : parP (tl.take (i + 1)) = par1 (parP (tl.take i)) t := by
  unfold parP
  rw [List.take_succ, h, List.foldl_append]
  rfl
def dtD (l : Tab) : PyData := .dict ((.none, .none) :: (l.map fun p => .tuple (p.1.map kP)).zip (l.map (·.2)))
theorem mapV_snd (l : Tab) : (mapV l).map (·.2) = (l.map (·.2)).map .d := by
  unfold mapV
  rw [List.map_map, List.map_map]
  rfl
theorem mapV_fst (l : Tab) : ((mapV l).map fun p => PyData.tuple (p.1.map kP)) = l.map fun p => .tuple (p.1.map kP) := by
  unfold mapV
  rw [List.map_map]
  rfl
theorem frz_last {sl : List (Option DV)} {ob : List OB} {l : Tab} : ∃ ρ2, frz ⟨sl, ob ++ [.dt (mapV l)]⟩ ob.length = some (dtD l, ρ2) := by
  unfold frz
  rw [obK_last]
  show ∃ ρ2, (allD ((mapV l).map (·.2))).map _ = _
  rw [mapV_snd, allD_map, mapV_fst]
  exact ⟨_, rfl⟩
theorem set_last {α : Type} (l : List α) (x y : α) : (l ++ [x]).set l.length y = l ++ [y] := by
  rw [List.set_append_right _ _ (Nat.le_refl _), Nat.sub_self]
  rfl
/-- d[place] = place on the dict made last -/
theorem put_last {sl : List (Option DV)} {ob : List OB} {l : Tab} {u i : Int} {v : PyData} : putR ⟨sl, ob ++ [.dt (mapV l)]⟩ (.o ob.length) (.d (plD u i)) (.d v) = some ⟨sl, ob ++ [.dt (mapV (putD l (plK u i) v))]⟩ := by
  show (match obK ⟨sl, ob ++ [.dt (mapV l)]⟩ ob.length with
    | .dk kvs => (toK (plD u i)).map fun kk => (⟨sl, (ob ++ [OB.dt (mapV l)]).set ob.length (.dk (putD kvs kk (.d v)))⟩ : S)
    | .dt kvs => (tkey (plD u i)).map fun kl => ⟨sl, (ob ++ [OB.dt (mapV l)]).set ob.length (.dt (putD kvs kl (.d v)))⟩
    | _ => none) = _
  rw [obK_last]
  show some (⟨sl, (ob ++ [OB.dt (mapV l)]).set ob.length (.dt (putD (mapV l) (plK u i) (.d v)))⟩ : S) = _
  rw [set_last, putD_map]
theorem few_last {sl : List (Option DV)} {ob : List OB} {l : Tab} (h : l.length ≤ 1000) : fewD ⟨sl, ob ++ [.dt (mapV l)]⟩ (.o ob.length) = true := by
  show (match obK ⟨sl, ob ++ [.dt (mapV l)]⟩ ob.length with | .dk kvs => decide (kvs.length < sizeLine) | .dt kvs => decide (kvs.length < sizeLine) | _ => false) = true
  rw [obK_last]
  refine decide_eq_true ?_
  unfold mapV
  rw [List.length_map]
  exact small1000 h
/-! ### the places of rings -/
theorem sz2 : 2 ≤ sizeLine := by decide
def spF : PyData → List PyData
  | .tuple [.int u, .int l] => (rng 0 l.toNat).map fun i => .tuple [.int u, i]
  | _ => []
def enuN (ns : List Int) : List PyData := zipP (rng 0 (ns.map PyData.int).length) (ns.map .int)
def spots (ns : List Int) : List PyData := (enuN ns).flatMap spF
theorem enu_mem {ns : List Int} {x : PyData} (h : x ∈ enuN ns) : ∃ (u : Nat) (l : Int), x = .tuple [.int u, .int l] ∧ ns[u]? = some l := by
  obtain ⟨j, hj⟩ := List.getElem?_of_mem h
  obtain ⟨a, b, h1, h2, rfl⟩ := DL.zip_get hj
  obtain ⟨_, rfl⟩ := rng_get h1
  rw [List.getElem?_map] at h2
  cases e : ns[j]? with
  | none => rw [e] at h2; cases h2
  | some l =>
    rw [e] at h2
    obtain rfl := Option.some.inj h2
    exact ⟨j, l, by rw [Int.zero_add], e⟩
def Small (ns : List Int) : Prop := (∀ l ∈ ns, l ≤ 1000) ∧ (spots ns).length ≤ 1000 ∧ ∀ l ∈ ns, 1 ≤ l
theorem Small.rg {ns : List Int} (h : Small ns) {u : Nat} {l : Int} (e : ns[u]? = some l) : RgB l := by
  have h1 := h.1 l (List.mem_of_getElem? e)
  have h2 := h.2.2 l (List.mem_of_getElem? e)
  unfold RgB
  omega
/-- an item of a row that is a place -/
theorem pl_in {ns : List Int} {u i : Int} (h : isPl ns (plD u i) = true) : ∃ (n : Nat) (hn : n < ns.length), u = n ∧ 0 ≤ i ∧ i < ns[n] := by
  have h : (decide (0 ≤ u ∧ u < ns.length) && decide (0 ≤ i ∧ i < ns.getD u.toNat 0)) = true := h
  rw [Bool.and_eq_true, decide_eq_true_eq, decide_eq_true_eq] at h
  obtain ⟨⟨h1, h2⟩, h3, h4⟩ := h
  have hn : u.toNat < ns.length := by omega
  refine ⟨u.toNat, hn, by omega, h3, ?_⟩
  rw [List.getD_eq_getElem?_getD, List.getElem?_eq_getElem hn] at h4
  exact h4
def seatN (ns : List Int) (u i : Int) : Int := (ns.take u.toNat).sum + i
theorem cut_to {α : Type} (l : List α) (n : Nat) (h : n ≤ l.length) : DL.cutD l none (some (n : Int)) = l.take n := by
  unfold DL.cutD
  rw [HT.sIx_none, show HT.sIx l.length l.length (some (n : Int)) = min n l.length from HT.sIx_nat l.length l.length n, Nat.min_eq_left h]
  rfl
theorem lookT_dt (l : Tab) (k : List Key) : lookT ((l.map fun p => PyData.tuple (p.1.map kP)).zip (l.map (·.2))) k = lookD l k := by
  induction l with
  | nil => rfl
  | cons p r ih =>
    show (if tkey (.tuple (p.1.map kP)) = some k then some p.2 else lookT ((r.map fun p => PyData.tuple (p.1.map kP)).zip (r.map (·.2))) k) = if p.1 = k then some p.2 else lookD r k
    rw [tkey_kP, ih]
    by_cases h : p.1 = k
    · rw [if_pos h, if_pos (by rw [h])]
    · rw [if_neg h, if_neg (fun z => h (Option.some.inj z))]
def parOf (tl : List Tc) (u i : Int) : PyData := (lookD (parP tl) (plK u i)).getD .none
theorem getR_par {ρ : S} {tl : List Tc} {u i : Int} : getR ρ (.d (dtD (parP tl))) (.d (plD u i)) = some ((lookD (parP tl) (plK u i)).map .d) := by
  show some ((lookT _ (plK u i)).map DV.d) = _
  rw [lookT_dt]
theorem getD_map (o : Option PyData) : ((o.map DV.d).getD (.d .none)) = .d (o.getD .none) := by cases o <;> rfl
/-! ### the places in their order -/
def spI : Int → List Int → List (Int × Int)
  | _, [] => []
  | k, l :: r => ((List.range l.toNat).map fun i : Nat => (k, (i : Int))) ++ spI (k + 1) r
def plP (p : Int × Int) : PyData := plD p.1 p.2
theorem rng_cons (lo : Int) (n : Nat) : rng lo (n + 1) = .int lo :: rng (lo + 1) n := by
  unfold rng
  rw [List.range_succ_eq_map, List.map_cons, List.map_map]
  congr 1
  · simp
  · refine List.map_congr_left fun i _ => ?_
    show PyData.int (lo + ((i + 1 : Nat) : Int)) = PyData.int (lo + 1 + (i : Int))
    congr 1
    omega
theorem spots_spI : ∀ (ns : List Int) (k : Int), (zipP (rng k ns.length) (ns.map .int)).flatMap spF = (spI k ns).map plP
  | [], _ => rfl
  | l :: r, k => by
    rw [List.length_cons, rng_cons]
    show spF (.tuple [.int k, .int l]) ++ (zipP (rng (k + 1) r.length) (r.map .int)).flatMap spF = _
    rw [spots_spI r (k + 1)]
    show _ = (((List.range l.toNat).map fun i : Nat => (k, (i : Int))) ++ spI (k + 1) r).map plP
    rw [List.map_append, List.map_map]
    congr 1
    show (rng 0 l.toNat).map _ = _
    unfold rng
    rw [List.map_map]
    refine List.map_congr_left fun i _ => ?_
    show PyData.tuple [.int k, .int (0 + (i : Int))] = plD k i
    rw [Int.zero_add]
    rfl
theorem spots_eq (ns : List Int) : spots ns = (spI 0 ns).map plP := by
  unfold spots enuN
  rw [List.length_map]
  exact spots_spI ns 0
theorem mem_spI : ∀ {ns : List Int} {k : Int} {p : Int × Int}, p ∈ spI k ns ↔ ∃ n : Nat, p.1 = k + n ∧ 0 ≤ p.2 ∧ ∃ l, ns[n]? = some l ∧ p.2 < l
  | [], k, p => by simp [spI]
  | l :: r, k, p => by
    unfold spI
    rw [List.mem_append, mem_spI (ns := r) (k := k + 1), List.mem_map]
    constructor
    · rintro (⟨i, hi, rfl⟩ | ⟨n, h1, h2, z, h3, h4⟩)
      · rw [List.mem_range] at hi
        exact ⟨0, by simp, by simp, l, rfl, by show (i : Int) < l; omega⟩
      · exact ⟨n + 1, by omega, h2, z, h3, h4⟩
    · rintro ⟨n, h1, h2, z, h3, h4⟩
      cases n with
      | zero =>
        obtain rfl : l = z := Option.some.inj h3
        refine .inl ⟨p.2.toNat, by rw [List.mem_range]; omega, ?_⟩
        rw [Int.toNat_of_nonneg h2]
        exact Prod.ext (by rw [h1]; simp) rfl
      | succ n => exact .inr ⟨n, by omega, h2, z, h3, h4⟩
def ltI (p q : Int × Int) : Prop := p.1 < q.1 ∨ (p.1 = q.1 ∧ p.2 < q.2)
theorem asc_spI : ∀ (ns : List Int) (k : Int), (spI k ns).Pairwise ltI
  | [], _ => .nil
  | l :: r, k => by
    unfold spI
    rw [List.pairwise_append]
    refine ⟨?_, asc_spI r (k + 1), ?_⟩
    · rw [List.pairwise_map]
      exact (List.pairwise_lt_range (n := l.toNat)).imp fun {a b} h => Or.inr ⟨rfl, by show ((a : Nat) : Int) < ((b : Nat) : Int); omega⟩
    · intro p hp q hq
      obtain ⟨i, _, rfl⟩ := List.mem_map.mp hp
      obtain ⟨n, h1, _⟩ := mem_spI.mp hq
      exact .inl (by show k < q.1; omega)
theorem len_spI : ∀ (ns : List Int) (k : Int), (∀ l ∈ ns, 1 ≤ l) → ((spI k ns).length : Int) = ns.sum
  | [], _, _ => rfl
  | l :: r, k, h => by
    unfold spI
    rw [List.length_append, List.length_map, List.length_range, List.sum_cons]
    have h1 := len_spI r (k + 1) fun x hx => h x (List.mem_cons_of_mem _ hx)
    have h2 := h l List.mem_cons_self
    omega
theorem at_spI : ∀ (ns : List Int) (k : Int) (n : Nat) (i l : Int), (∀ l ∈ ns, 1 ≤ l) → ns[n]? = some l → 0 ≤ i → i < l → (spI k ns)[((ns.take n).sum + i).toNat]? = some (k + n, i) ∧ 0 ≤ (ns.take n).sum
  | [], _, _, _, _, _, h, _, _ => by simp at h
  | a :: r, k, 0, i, l, hp, h, h0, h1 => by
    obtain rfl : a = l := Option.some.inj h
    refine ⟨?_, Int.le_refl _⟩
    show (((List.range a.toNat).map fun i : Nat => (k, (i : Int))) ++ spI (k + 1) r)[(0 + i).toNat]? = _
    rw [Int.zero_add, List.getElem?_append_left (by rw [List.length_map, List.length_range]; omega), List.getElem?_map, List.getElem?_range (by omega)]
    show some (k, ((i.toNat : Nat) : Int)) = some (k + ((0 : Nat) : Int), i)
    rw [Int.toNat_of_nonneg h0]
    simp
  | a :: r, k, n + 1, i, l, hp, h, h0, h1 => by
    obtain ⟨e1, e2⟩ := at_spI r (k + 1) n i l (fun x hx => hp x (List.mem_cons_of_mem _ hx)) h h0 h1
    have ha := hp a List.mem_cons_self
    refine ⟨?_, by rw [List.take_succ_cons, List.sum_cons]; omega⟩
    rw [List.take_succ_cons, List.sum_cons]
    show (((List.range a.toNat).map fun i : Nat => (k, (i : Int))) ++ spI (k + 1) r)[(a + (r.take n).sum + i).toNat]? = _
    rw [List.getElem?_append_right (by rw [List.length_map, List.length_range]; omega), List.length_map, List.length_range, show (a + (r.take n).sum + i).toNat - a.toNat = ((r.take n).sum + i).toNat by omega, e1]
    congr 2
    omega
theorem ltI_ne {p q : Int × Int} (h : ltI p q) : p ≠ q := by
  rintro rfl
  unfold ltI at h
  omega
theorem nd_spI (ns : List Int) (k : Int) : (spI k ns).Nodup := (asc_spI ns k).imp ltI_ne
/-! ### right rings -/
structure RG (ns : List Int) : Prop where
  ne : ns ≠ []
  pos : ∀ l ∈ ns, 1 ≤ l
  sum : ns.sum ≤ 40
theorem sum_ge : ∀ {ns : List Int}, (∀ l ∈ ns, 1 ≤ l) → (ns.length : Int) ≤ ns.sum ∧ ∀ l ∈ ns, l ≤ ns.sum
  | [], _ => ⟨Int.le_refl _, fun _ h => nomatch h⟩
  | a :: r, h => by
    obtain ⟨h1, h2⟩ := sum_ge (ns := r) fun x hx => h x (List.mem_cons_of_mem _ hx)
    have ha := h a List.mem_cons_self
    rw [List.sum_cons, List.length_cons]
    refine ⟨by omega, fun l hl => ?_⟩
    rcases List.mem_cons.mp hl with rfl | hl
    · omega
    · have := h2 l hl
      omega
theorem RG.small {ns : List Int} (h : RG ns) : Small ns := by
  obtain ⟨h1, h2⟩ := sum_ge h.pos
  refine ⟨fun l hl => ?_, ?_, h.pos⟩
  · have := h2 l hl
    have := h.sum
    omega
  · rw [spots_eq, List.length_map]
    have := len_spI ns 0 h.pos
    have := h.sum
    omega
theorem RG.spl {ns : List Int} (h : RG ns) : ((spots ns).length : Int) = ns.sum := by
  rw [spots_eq, List.length_map]
  exact len_spI ns 0 h.pos
theorem RG.rg {ns : List Int} (h : RG ns) : areRg (.tuple (ns.map .int)) = true := by
  obtain ⟨h1, h2⟩ := sum_ge h.pos
  have h3 := h.sum
  have h4 : 0 < ns.length := List.length_pos_iff.mpr h.ne
  show (decide (1 ≤ (ns.map PyData.int).length ∧ (ns.map PyData.int).length ≤ 40) && (ns.map PyData.int).all isLen) = true
  rw [List.length_map, decide_eq_true (by omega), Bool.true_and, List.all_map, List.all_eq_true]
  exact fun l hl => decide_eq_true (h.pos l hl)
theorem pl_iff {ns : List Int} {u i : Int} : isPl ns (plD u i) = true ↔ (u, i) ∈ spI 0 ns := by
  rw [mem_spI]
  constructor
  · intro h
    obtain ⟨n, hn, rfl, h0, h1⟩ := pl_in h
    exact ⟨n, by simp, h0, ns[n], List.getElem?_eq_getElem hn, h1⟩
  · rintro ⟨n, h1, h2, l, h3, h4⟩
    have hn : n < ns.length := (List.getElem?_eq_some_iff.mp h3).1
    have e : u = (n : Int) := by simpa using h1
    subst e
    show (decide (0 ≤ (n : Int) ∧ (n : Int) < ns.length) && decide (0 ≤ i ∧ i < ns.getD (n : Int).toNat 0)) = true
    rw [Int.toNat_natCast, List.getD_eq_getElem?_getD, h3]
    rw [Bool.and_eq_true, decide_eq_true_eq, decide_eq_true_eq]
    exact ⟨by omega, h2, h4⟩
theorem pick_small {xs : List PyData} {b : Int} {y : PyData} (h : ∃ zs : List PyData, ([PyData.tuple xs] = [.tuple zs] ∨ [PyData.tuple xs] = [.list zs]) ∧ y ∈ zs) (hb : xs.all (fun x => match x with | .int j => decide (1 ≤ j ∧ j ≤ b) | _ => false) = true) : ∃ j : Int, y = .int j ∧ 1 ≤ j ∧ j ≤ b := by
  obtain ⟨zs, hz, hy⟩ := h
  rcases hz with e | e
  · injection e with e
    injection e with e
    subst e
    have := List.all_eq_true.mp hb y hy
    cases y with
    | int j => exact ⟨j, rfl, of_decide_eq_true this⟩
    | _ => cases this
  · injection e with e
    cases e
/-! ### touches -/
def p1 (t : Tc) : Int × Int := (t.1, t.2.1)
def p2 (t : Tc) : Int × Int := (t.2.2.1, t.2.2.2)
def sd (t : Tc) : List (Int × Int) := [p1 t, p2 t]
theorem le_trans' {β : Type} (k : β → PyData) : ∀ a b c : β, PySem.W.dataLe false k a b = true → PySem.W.dataLe false k b c = true → PySem.W.dataLe false k a c = true := (PySem.W.sortLe_total _ _ _).trans
theorem le_total' {β : Type} (k : β → PyData) : ∀ a b : β, (PySem.W.dataLe false k a b || PySem.W.dataLe false k b a) = true := fun a b => by
  rw [Bool.or_eq_true]
  exact (PySem.W.sortLe_total _ _ _).total a b
instance {p q : Int × Int} : Decidable (ltI p q) := by unfold ltI; exact inferInstance
theorem lt_pl (p q : Int × Int) : PySem.W.dataLt (plP p) (plP q) = decide (ltI p q) := PySem.W.dataLt_ii p.1 p.2 q.1 q.2
theorem le_pl (p q : Int × Int) : PySem.W.dataLe false id (plP p) (plP q) = decide (¬ ltI q p) := by
  show (!PySem.W.dataLt (plP q) (plP p)) = _
  rw [lt_pl]
  by_cases h : ltI q p <;> simp [h]
theorem ltI_tri {p q : Int × Int} (h : p ≠ q) : ltI p q ∨ ltI q p := by
  unfold ltI
  rcases Int.lt_trichotomy p.1 q.1 with a | a | a
  · exact .inl (.inl a)
  · rcases Int.lt_trichotomy p.2 q.2 with b | b | b
    · exact .inl (.inr ⟨a, b⟩)
    · exact absurd (Prod.ext a b) h
    · exact .inr (.inr ⟨a.symm, b⟩)
  · exact .inr (.inl a)
/-- two places sorted -/
theorem srt_two {p q : Int × Int} (h : p ≠ q) : ∃ t : Tc, srt [plP p, plP q] = [plP (p1 t), plP (p2 t)] ∧ ltI (p1 t) (p2 t) ∧ (sd t).Perm [p, q] := by
  have e : srt [plP p, plP q] = if PySem.W.dataLe false id (plP p) (plP q) = true then [plP p, plP q] else [plP q, plP p] := by
    simp [srt, List.mergeSort, List.MergeSort.Internal.splitInTwo, List.merge]
  rw [le_pl] at e
  by_cases hq : ltI q p
  · rw [if_neg (by simp [hq])] at e
    exact ⟨(q.1, q.2, p.1, p.2), e, hq, List.Perm.swap p q []⟩
  · rw [if_pos (by simp [hq])] at e
    exact ⟨(p.1, p.2, q.1, q.2), e, (ltI_tri h).resolve_right hq, .refl _⟩
theorem tD_eq (t : Tc) : tD t = .tuple [plP (p1 t), plP (p2 t)] := rfl
theorem eqv_pl (p q : Int × Int) : PyData.eqv (plP p) (plP q) = decide (p = q) := by
  show PyData.eqv (.tuple [.int p.1, .int p.2]) (.tuple [.int q.1, .int q.2]) = _
  simp only [PyData.eqv, PyData.eqvAll, Bool.and_true]
  rw [Bool.eq_iff_iff]
  simp [Prod.ext_iff]
theorem alike_pl (p q : Int × Int) : PySem.W.alike (plP p) (plP q) = true := by simp [plP, plD, PySem.W.alike, PySem.W.alikeAll]
theorem lt_tc {s t : Tc} (h : p1 s ≠ p1 t) : PySem.W.dataLt (tD s) (tD t) = decide (ltI (p1 s) (p1 t)) := by
  rw [tD_eq, tD_eq, PySem.W.dataLt_pair (alike_pl _ _) (alike_pl _ _), eqv_pl, if_neg (by simp [h]), lt_pl]
/-- what a right floor is, in numbers -/
structure VF (ns : List Int) (tl : List Tc) : Prop where
  rg : RG ns
  lt : ∀ t ∈ tl, ltI (p1 t) (p2 t)
  mem : ∀ p ∈ tl.flatMap sd, p ∈ spI 0 ns
  nd : (tl.flatMap sd).Nodup
  asc : tl.Pairwise fun s t => ltI (p1 s) (p1 t)
  few : tl.length ≤ 20
theorem tch_tD {ns : List Int} {t : Tc} (h : ltI (p1 t) (p2 t)) (h1 : p1 t ∈ spI 0 ns) (h2 : p2 t ∈ spI 0 ns) : isTch ns (tD t) = true := by
  show (isPl ns (plP (p1 t)) && isPl ns (plP (p2 t)) && PySem.W.dataLt (plP (p1 t)) (plP (p2 t))) = true
  rw [show isPl ns (plP (p1 t)) = true from pl_iff.mpr h1, show isPl ns (plP (p2 t)) = true from pl_iff.mpr h2, lt_pl, decide_eq_true h]
  rfl
theorem asc_tl : ∀ {tl : List Tc}, (tl.Pairwise fun s t => ltI (p1 s) (p1 t)) → asc (tl.map tD) = true
  | [], _ => rfl
  | [_], _ => rfl
  | s :: t :: r, h => by
    have h1 : ltI (p1 s) (p1 t) := (List.pairwise_cons.mp h).1 t List.mem_cons_self
    show (PySem.W.dataLt (tD s) (tD t) && asc ((t :: r).map tD)) = true
    rw [lt_tc (ltI_ne h1), decide_eq_true h1, asc_tl (List.pairwise_cons.mp h).2]
    rfl
def rowP (p : Int × Int) : List Int := [p.1, p.2]
theorem rows_pl : ∀ l : List (Int × Int), rowsI (l.map plP) = some (l.map rowP)
  | [] => rfl
  | p :: r => by
    show (match rowI (plP p), rowsI (r.map plP) with | some x, some l => some (x :: l) | _, _ => none) = _
    rw [rows_pl r]
    rfl
theorem sides_tl : ∀ tl : List Tc, (tl.map tD).flatMap sides = (tl.flatMap sd).map plP
  | [] => rfl
  | t :: r => by
    rw [List.map_cons, List.flatMap_cons, List.flatMap_cons, List.map_append, sides_tl r]
    rfl
theorem dcn_nd : ∀ {l : List (List Int)}, l.Nodup → dcn l = l.length
  | [], _ => rfl
  | x :: r, h => by
    rw [List.nodup_cons] at h
    unfold dcn
    rw [if_neg h.1, dcn_nd h.2, List.length_cons]
theorem rowP_inj {p q : Int × Int} (h : rowP p = rowP q) : p = q := by
  injection h with h1 h2
  injection h2 with h2 _
  exact Prod.ext h1 h2
theorem dist_tl {tl : List Tc} (h : (tl.flatMap sd).Nodup) : dist ((tl.map tD).flatMap sides) = true := by
  unfold dist
  rw [sides_tl, rows_pl]
  refine decide_eq_true (dcn_nd ?_)
  exact List.pairwise_map.mpr (h.imp fun hne he => hne (rowP_inj he))
theorem VF.fl {ns : List Int} {tl : List Tc} (h : VF ns tl) : FlOk ns tl := by
  refine ⟨?_, Nat.le_trans h.few (by decide)⟩
  rw [show flD ns tl = .tuple [.tuple (ns.map .int), .tuple (tl.map tD)] from rfl, isFl_eq h.rg.rg]
  have ht : (tl.map tD).all (isTch ns) = true := by
    rw [List.all_map, List.all_eq_true]
    intro t htm
    exact tch_tD (h.lt t htm) (h.mem _ (List.mem_flatMap.mpr ⟨t, htm, List.mem_cons_self⟩)) (h.mem _ (List.mem_flatMap.mpr ⟨t, htm, List.mem_cons_of_mem _ List.mem_cons_self⟩))
  unfold isFlT
  rw [ht, asc_tl h.asc, dist_tl h.nd]
  rfl
theorem ne_of_nd : ∀ {tl : List Tc}, (tl.flatMap sd).Nodup → tl.Pairwise fun s t => p1 s ≠ p1 t
  | [], _ => .nil
  | t :: r, h => by
    rw [List.flatMap_cons, List.nodup_append] at h
    refine .cons (fun s hs => ?_) (ne_of_nd h.2.1)
    exact h.2.2 _ List.mem_cons_self _ (List.mem_flatMap.mpr ⟨s, hs, List.mem_cons_self⟩)
/-- touches that are found, sorted -/
theorem srt_tl {tl : List Tc} (hlt : ∀ t ∈ tl, ltI (p1 t) (p2 t)) (nd : (tl.flatMap sd).Nodup) : ∃ tl' : List Tc, srt (tl.map tD) = tl'.map tD ∧ tl'.Perm tl ∧ tl'.Pairwise (fun s t => ltI (p1 s) (p1 t)) := by
  have e : (tl.mergeSort (PySem.W.dataLe false tD)).map tD = srt (tl.map tD) := List.map_mergeSort fun a _ b _ => rfl
  have pm := List.mergeSort_perm tl (PySem.W.dataLe false tD)
  refine ⟨_, e.symm, pm, ?_⟩
  have pw := List.pairwise_mergeSort (le_trans' tD) (le_total' tD) tl
  have ne : (tl.mergeSort (PySem.W.dataLe false tD)).Pairwise fun s t => p1 s ≠ p1 t := ne_of_nd ((pm.flatMap_right sd).nodup_iff.mpr nd)
  refine (pw.and ne).imp fun {s t} ⟨h1, h2⟩ => ?_
  have h1 : (!PySem.W.dataLt (tD t) (tD s)) = true := h1
  rw [lt_tc (Ne.symm h2)] at h1
  refine (ltI_tri h2).resolve_right fun z => ?_
  rw [decide_eq_true z] at h1
  cases h1
theorem sorts_of {l : List PyData} (h1 : PyData.hasDictAll l = false) (h2 : PySem.W.AllAlike l) (h3 : ∀ d ∈ l, (∃ x r, d = .tuple (x :: r)) ∧ d.depth ≤ 60) : Sorts l := ⟨h1, h2, .inl fun d hd => (h3 d hd).1, fun d hd => (h3 d hd).2⟩
theorem noDict_map {α : Type} {f : α → PyData} (h : ∀ a, (f a).hasDict = false) : ∀ l : List α, PyData.hasDictAll (l.map f) = false
  | [] => rfl
  | x :: r => by simp [PyData.hasDictAll, h x, noDict_map h r]
theorem dict_pl (p : Int × Int) : (plP p).hasDict = false := by simp [plP, plD, PyData.hasDict, PyData.hasDictAll]
theorem dict_tc (t : Tc) : (tD t).hasDict = false := by simp [tD, plD, PyData.hasDict, PyData.hasDictAll]
theorem depth_pl (p : Int × Int) : (plP p).depth ≤ 60 := by simp [plP, plD, PyData.depth, PyData.depthAll]
theorem depth_tc (t : Tc) : (tD t).depth ≤ 60 := by simp [tD, plD, PyData.depth, PyData.depthAll]
theorem alike_tc (s t : Tc) : PySem.W.alike (tD s) (tD t) = true := by simp [tD, plD, PySem.W.alike, PySem.W.alikeAll]
theorem sorts_pl (l : List (Int × Int)) : Sorts (l.map plP) := sorts_of (noDict_map dict_pl l) (PySem.W.AllAlike.of fun a b => alike_pl a b) fun d hd => by
  obtain ⟨p, _, rfl⟩ := List.mem_map.mp hd
  exact ⟨⟨_, _, rfl⟩, depth_pl p⟩
theorem sorts_tc (l : List Tc) : Sorts (l.map tD) := sorts_of (noDict_map dict_tc l) (PySem.W.AllAlike.of fun a b => alike_tc a b) fun d hd => by
  obtain ⟨p, _, rfl⟩ := List.mem_map.mp hd
  exact ⟨⟨_, _, rfl⟩, depth_tc p⟩
theorem wg_lst {n : Nat} {wr : WGs} {ρ : S} {k : Nat} {l : List PyData} {Q : S → Prop} (h : obK ρ k = .lst (l.map .d)) (hl : l.length = n) (q : wr l ρ Q) : wgLst n wr (.o k) ρ Q := by
  show (match obK ρ k with | .lst xs => (match allD xs with | some ds => ds.length = n ∧ wr ds ρ Q | none => False) | _ => False)
  rw [h]
  show (match allD (l.map .d) with | some ds => ds.length = n ∧ wr ds ρ Q | none => False)
  rw [allD_map]
  exact ⟨hl, q⟩
/-- a drawn order of the places -/
theorem order_idx {p : List PyData} {N : Nat} (h : p.Perm (rng 0 N)) : ∃ idx : List Nat, p = idx.map (fun k : Nat => .int (k : Int)) ∧ idx.Perm (List.range N) := by
  have hr : rng 0 N = (List.range N).map fun k : Nat => PyData.int (k : Int) := by
    unfold rng
    exact List.map_congr_left fun k _ => by rw [Int.zero_add]
  rw [hr] at h
  let g : PyData → Nat := fun x => match x with | .int i => i.toNat | _ => 0
  refine ⟨p.map g, ?_, ?_⟩
  · rw [List.map_map]
    conv => lhs; rw [← List.map_id p]
    refine List.map_congr_left fun x hx => ?_
    obtain ⟨k, _, rfl⟩ := List.mem_map.mp (h.mem_iff.mp hx)
    rfl
  · have := h.map g
    rw [List.map_map] at this
    have e : (List.range N).map (g ∘ fun k : Nat => PyData.int (k : Int)) = List.range N := by
      conv => rhs; rw [← List.map_id (List.range N)]
      exact List.map_congr_left fun k _ => rfl
    rwa [e] at this
/-- the places in a drawn order -/
structure Ord (ns : List Int) (p : List PyData) (sp : List (Int × Int)) : Prop where
  at_ : ∀ (m : Nat) (h : m < sp.length), ∃ k : Int, atI p (m : Int) = some (.int k) ∧ atI (spots ns) k = some (plP sp[m])
  pm : sp.Perm (spI 0 ns)
theorem ord_of {ns : List Int} {p : List PyData} (h : p.Perm (rng 0 (spots ns).length)) : ∃ sp, Ord ns p sp := by
  have hN : (spots ns).length = (spI 0 ns).length := by rw [spots_eq, List.length_map]
  rw [hN] at h
  obtain ⟨idx, rfl, hp⟩ := order_idx h
  refine ⟨idx.map fun k => (spI 0 ns).getD k (0, 0), fun m hm => ?_, ?_⟩
  · rw [List.length_map] at hm
    have hk : idx[m] < (spI 0 ns).length := List.mem_range.mp (hp.mem_iff.mp (List.getElem_mem hm))
    refine ⟨idx[m], atI_nat (by rw [List.getElem?_map, List.getElem?_eq_getElem hm]; rfl), atI_nat ?_⟩
    rw [spots_eq, List.getElem?_map, List.getElem?_eq_getElem hk, List.getElem_map, List.getD_eq_getElem?_getD, List.getElem?_eq_getElem hk]
    rfl
  · refine (hp.map _).trans ?_
    have : (List.range (spI 0 ns).length).map (fun k => (spI 0 ns).getD k (0, 0)) = spI 0 ns := by
      apply List.ext_getElem?
      intro k
      rw [List.getElem?_map]
      by_cases hk : k < (spI 0 ns).length
      · rw [List.getElem?_range hk, List.getElem?_eq_getElem hk]
        show some ((spI 0 ns).getD k (0, 0)) = _
        rw [List.getD_eq_getElem?_getD, List.getElem?_eq_getElem hk]
        rfl
      · rw [List.getElem?_eq_none (by rw [List.length_range]; omega), List.getElem?_eq_none (by omega)]
        rfl
    rw [this]
theorem Ord.len {ns : List Int} {p : List PyData} {sp : List (Int × Int)} (h : Ord ns p sp) : sp.length = (spots ns).length := by
  rw [h.pm.length_eq, spots_eq, List.length_map]
/-- the touches after some turns -/
structure TT (sp : List (Int × Int)) (i : Nat) (tl : List Tc) : Prop where
  lt : ∀ t ∈ tl, ltI (p1 t) (p2 t)
  pm : (tl.flatMap sd).Perm (sp.take (2 * i))
  len : tl.length = i
theorem tt_nil (sp : List (Int × Int)) : TT sp 0 [] := ⟨fun _ h => (nomatch h), by simp, rfl⟩
theorem take_two {α : Type} {l : List α} {n : Nat} (h : n + 1 < l.length) : l.take (n + 2) = l.take n ++ [l[n], l[n + 1]] := by
  rw [show n + 2 = (n + 1) + 1 from rfl, List.take_succ, List.take_succ, List.getElem?_eq_getElem h, List.getElem?_eq_getElem (Nat.lt_of_succ_lt h), List.append_assoc]
  rfl
theorem TT.step {sp : List (Int × Int)} {i : Nat} {tl : List Tc} {t : Tc} (h : TT sp i tl) (hi : 2 * i + 1 < sp.length) (h1 : ltI (p1 t) (p2 t)) (h2 : (sd t).Perm [sp[2 * i], sp[2 * i + 1]]) : TT sp (i + 1) (tl ++ [t]) := by
  refine ⟨fun s hs => ?_, ?_, by rw [List.length_append, h.len]; rfl⟩
  · rcases List.mem_append.mp hs with hs | hs
    · exact h.lt s hs
    · rw [List.mem_singleton.mp hs]
      exact h1
  · rw [List.flatMap_append, show 2 * (i + 1) = 2 * i + 2 by omega, take_two hi]
    exact h.pm.append (by simpa using h2)
theorem TT.vf {ns : List Int} {p : List PyData} {sp : List (Int × Int)} {i : Nat} {tl : List Tc} (h : TT sp i tl) (ho : Ord ns p sp) (hr : RG ns) (hi : i ≤ 20) : ∃ tl', srt (tl.map tD) = tl'.map tD ∧ VF ns tl' := by
  have nd0 : sp.Nodup := ho.pm.nodup_iff.mpr (nd_spI ns 0)
  have nd : (tl.flatMap sd).Nodup := h.pm.nodup_iff.mpr (nd0.sublist (List.take_sublist _ _))
  obtain ⟨tl', e, pm, ps⟩ := srt_tl h.lt nd
  have pf := pm.flatMap_right sd
  refine ⟨tl', e, hr, fun t ht => h.lt t (pm.mem_iff.mp ht), fun q hq => ?_, pf.nodup_iff.mpr nd, ps, by rw [pm.length_eq, h.len]; exact hi⟩
  exact ho.pm.mem_iff.mp (List.mem_of_mem_take (h.pm.mem_iff.mp (pf.mem_iff.mp hq)))
theorem nd_two {sp : List (Int × Int)} (h : sp.Nodup) {i : Nat} (hi : i + 1 < sp.length) : sp[i] ≠ sp[i + 1] := fun e => by
  have := (List.getElem_inj h).mp e
  omega
/-! ### partners in numbers -/
def kK (p : Int × Int) : List Key := plK p.1 p.2
theorem kK_inj {p q : Int × Int} (h : kK p = kK q) : p = q := by
  injection h with h1 h2
  injection h2 with h2 _
  injection h1 with h1
  injection h2 with h2
  exact Prod.ext h1 h2
def tabE (t : Tc) : Tab := [(kK (p1 t), plP (p2 t)), (kK (p2 t), plP (p1 t))]
theorem putD_new {l : Tab} {k : List Key} {v : PyData} (h : k ∉ l.map (·.1)) : putD l k v = l ++ [(k, v)] := by
  unfold putD
  rw [if_neg]
  intro z
  obtain ⟨p, hp, e⟩ := List.any_eq_true.mp z
  exact h (List.mem_map.mpr ⟨p, hp, of_decide_eq_true e⟩)
theorem par_fold : ∀ (tl : List Tc) (l : Tab), (l.map (·.1) ++ (tl.flatMap sd).map kK).Nodup → tl.foldl par1 l = l ++ tl.flatMap tabE
  | [], l, _ => by simp
  | t :: r, l, h => by
    have e : (l.map (·.1) ++ ((t :: r).flatMap sd).map kK) = (l.map (·.1) ++ [kK (p1 t), kK (p2 t)]) ++ (r.flatMap sd).map kK := by
      rw [List.flatMap_cons, List.map_append, ← List.append_assoc]
      rfl
    rw [e] at h
    have h1 := (List.nodup_append.mp h).1
    have n1 : kK (p1 t) ∉ l.map (·.1) := fun z => (List.nodup_append.mp h1).2.2 _ z _ List.mem_cons_self rfl
    have n2 : kK (p2 t) ∉ (l ++ [(kK (p1 t), plP (p2 t))]).map (·.1) := fun z => by
      rw [List.map_append, List.mem_append] at z
      rcases z with z | z
      · exact (List.nodup_append.mp h1).2.2 _ z _ (List.mem_cons_of_mem _ List.mem_cons_self) rfl
      · have := (List.nodup_append.mp h1).2.1
        simp at z this
        exact this z.symm
    have ep : par1 l t = l ++ tabE t := by
      show putD (putD l (kK (p1 t)) (plP (p2 t))) (kK (p2 t)) (plP (p1 t)) = _
      rw [putD_new n1, putD_new n2, List.append_assoc]
      rfl
    rw [List.foldl_cons, ep, par_fold r (l ++ tabE t) (by rw [List.map_append]; exact h), List.flatMap_cons, List.append_assoc]
theorem par_eq {tl : List Tc} (h : (tl.flatMap sd).Nodup) : parP tl = tl.flatMap tabE := by
  unfold parP
  rw [par_fold tl [] (by
    rw [List.map_nil, List.nil_append]
    exact List.pairwise_map.mpr (h.imp fun hne he => hne (kK_inj he)))]
  rfl
theorem par_keys {tl : List Tc} (h : (tl.flatMap sd).Nodup) : (parP tl).map (·.1) = (tl.flatMap sd).map kK := by
  rw [par_eq h]
  clear h
  induction tl with
  | nil => rfl
  | cons t r ih =>
    rw [List.flatMap_cons, List.flatMap_cons, List.map_append, List.map_append, ih]
    rfl
def mateI : List Tc → Int × Int → Option (Int × Int)
  | [], _ => none
  | t :: r, p => if p1 t = p then some (p2 t) else if p2 t = p then some (p1 t) else mateI r p
theorem look_tab : ∀ (tl : List Tc) (p : Int × Int), lookD (tl.flatMap tabE) (kK p) = (mateI tl p).map plP
  | [], _ => rfl
  | t :: r, p => by
    show (if kK (p1 t) = kK p then some (plP (p2 t)) else if kK (p2 t) = kK p then some (plP (p1 t)) else lookD (r.flatMap tabE) (kK p)) = (if p1 t = p then some (p2 t) else if p2 t = p then some (p1 t) else mateI r p).map plP
    by_cases h1 : p1 t = p
    · rw [if_pos (by rw [h1]), if_pos h1]
      rfl
    · rw [if_neg (fun z => h1 (kK_inj z)), if_neg h1]
      by_cases h2 : p2 t = p
      · rw [if_pos (by rw [h2]), if_pos h2]
        rfl
      · rw [if_neg (fun z => h2 (kK_inj z)), if_neg h2, look_tab r p]
theorem par_of {tl : List Tc} (h : (tl.flatMap sd).Nodup) (u i : Int) : parOf tl u i = ((mateI tl (u, i)).map plP).getD .none := by
  unfold parOf
  rw [par_eq h, show plK u i = kK (u, i) from rfl, look_tab]
theorem mate_mem : ∀ {tl : List Tc} {p : Int × Int}, (mateI tl p).isSome = true ↔ p ∈ tl.flatMap sd
  | [], p => by simp [mateI]
  | t :: r, p => by
    rw [List.flatMap_cons, List.mem_append]
    unfold mateI
    by_cases h1 : p1 t = p
    · rw [if_pos h1]
      exact ⟨fun _ => .inl (by rw [← h1]; exact List.mem_cons_self), fun _ => rfl⟩
    · rw [if_neg h1]
      by_cases h2 : p2 t = p
      · rw [if_pos h2]
        exact ⟨fun _ => .inl (by rw [← h2]; exact List.mem_cons_of_mem _ List.mem_cons_self), fun _ => rfl⟩
      · rw [if_neg h2, mate_mem]
        refine ⟨.inr, fun z => z.resolve_left fun z => ?_⟩
        rcases List.mem_cons.mp z with z | z
        · exact h1 z.symm
        · exact h2 (List.mem_singleton.mp z).symm
theorem mate_back : ∀ {tl : List Tc} {p q : Int × Int}, (tl.flatMap sd).Nodup → mateI tl p = some q → q ∈ tl.flatMap sd ∧ mateI tl q = some p
  | [], _, _, _, h => nomatch h
  | t :: r, p, q, nd, h => by
    rw [List.flatMap_cons, List.nodup_append] at nd
    obtain ⟨n1, n2, n3⟩ := nd
    have n12 : p1 t ≠ p2 t := by
      have := (List.nodup_cons.mp n1).1
      intro z
      exact this (by rw [z]; exact List.mem_cons_self)
    rw [List.flatMap_cons, List.mem_append]
    unfold mateI at h ⊢
    by_cases h1 : p1 t = p
    · rw [if_pos h1] at h
      obtain rfl := Option.some.inj h
      exact ⟨.inl (List.mem_cons_of_mem _ List.mem_cons_self), by rw [if_neg n12, if_pos rfl, h1]⟩
    · rw [if_neg h1] at h
      by_cases h2 : p2 t = p
      · rw [if_pos h2] at h
        obtain rfl := Option.some.inj h
        exact ⟨.inl List.mem_cons_self, by rw [if_pos rfl, h2]⟩
      · rw [if_neg h2] at h
        obtain ⟨m, b⟩ := mate_back n2 h
        refine ⟨.inr m, ?_⟩
        rw [if_neg (fun z => n3 _ List.mem_cons_self _ m z), if_neg (fun z => n3 _ (List.mem_cons_of_mem _ List.mem_cons_self) _ m z)]
        exact b
end Mt
end

section
set_option Elab.async false
set_option linter.all false
set_option maxRecDepth 100000
set_option maxHeartbeats 1000000
set_option autoImplicit false
namespace Mt
open PySem PySem.Spec PyProof.Rows L2 DL FL
theorem is_whole (x : PyData) : MP.m_is_whole x = .ok (.bool (isWh x)) := by
  unfold MP.m_is_whole MP.b_is_whole
  rw [runP_eq]
  cases x <;> simp [isWh, DL.isInt, DL.isBool]
theorem is_below (x : PyData) (e : Int) : MP.m_is_below x (.int e) = .ok (.bool (isBel e x)) := by
  unfold MP.m_is_below MP.b_is_below
  rw [runP_eq]
  cases x with
  | int i =>
    by_cases h : 0 ≤ i
    · simp [isBel, is_whole, isWh, h]
    · simp [isBel, is_whole, isWh, h]
  | _ => simp [isBel, is_whole, isWh]
theorem is_pair (x : PyData) : MP.m_is_pair x = .ok (.bool (isPr x)) := by
  unfold MP.m_is_pair MP.b_is_pair
  rw [runP_eq]
  cases x with
  | tuple xs =>
    match xs with
      | [] => simp [isPr, DL.isTup]
      | [_] => simp [isPr, DL.isTup]
      | [_, _] => simp [isPr, DL.isTup]
      | _ :: _ :: _ :: r => simp [isPr, DL.isTup]; omega
  | _ => simp [isPr, DL.isTup]
theorem is_place_on (rs : List Int) (x : PyData) : MP.m_is_place_on (.tuple (rs.map .int)) x = .ok (.bool (isPl rs x)) := by
  unfold MP.m_is_place_on MP.b_is_place_on
  rw [runP_eq]
  cases hp : isPr x with
  | false => simp [is_pair, hp, isPl_not hp]
  | true =>
    obtain ⟨u, i, rfl⟩ := pr_of hp
    cases hu : isBel (rs.length : Nat) u with
    | false => simp [is_pair, hp, isPl_no2 hu, is_below, hu]
    | true =>
      obtain ⟨n, rfl, hn⟩ := bel_of hu
      simp [is_pair, hp, isPl_yes hn, is_below, hu, hn, -atI_m]
theorem is_touch (ns : List Int) (x : PyData) : MP.m_p_is_touch (.tuple (ns.map .int)) x = .ok (.bool (isTch ns x)) := by
  unfold MP.m_p_is_touch MP.b_p_is_touch
  rw [runP_eq]
  cases hp : isPr x with
  | false => simp [is_pair, hp, isTch_not hp]
  | true =>
    obtain ⟨a, b, rfl⟩ := pr_of hp
    have e : isTch ns (.tuple [a, b]) = (isPl ns a && isPl ns b && PySem.W.dataLt a b) := rfl
    rw [e]
    cases ha : isPl ns a with
    | false => simp [is_pair, hp, is_place_on, ha]
    | true =>
      cases hb : isPl ns b with
      | false => simp [is_pair, hp, is_place_on, ha, hb]
      | true =>
        obtain ⟨u, i, rfl⟩ := pl_of ha
        obtain ⟨v, j, rfl⟩ := pl_of hb
        have hl : lts (.tuple [.int u, .int i]) (.tuple [.int v, .int j]) = true := by simp [lts, PySem.W.alike, PySem.W.alikeAll, PyData.hasDict, PyData.hasDictAll, isNn, PyData.depth, PyData.depthAll]
        simp [is_pair, hp, is_place_on, ha, hb, oLtA_t hl]
theorem is_from (x : PyData) : MP.m_is_from x (.int 1) = .ok (.bool (isLen x)) := by
  unfold MP.m_is_from MP.b_is_from
  rw [runP_eq]
  cases x <;> simp [is_whole, isWh, isLen]
theorem are_rings (x : PyData) : MP.m_are_rings x = .ok (.bool (areRg x)) := by
  unfold MP.m_are_rings MP.b_are_rings
  rw [runP_eq]
  cases x with
  | tuple xs =>
    have e : areRg (.tuple xs) = (decide (1 ≤ xs.length ∧ xs.length ≤ 40) && xs.all isLen) := rfl
    rw [e]
    by_cases h1 : (1 : Int) ≤ xs.length
    · by_cases h2 : (xs.length : Int) ≤ 40
      · have e := mapL (ρ := ⟨[some (.d (.tuple xs)), none], []⟩) (i := iA (mVar 0)) (g := FL.gName 1) (e := mCall (cur2 MP.m_is_from) (mCons (mVar 1) (mCons (mC (.int 1)) mNil))) (vs := [1]) (fun x => .bool (isLen x)) (wf_pure rfl) (xs := xs) (by simp) (by rw [sizeL]; omega) (fun x hx => by simp [is_from])
        rw [decide_eq_true (by omega : 1 ≤ xs.length ∧ xs.length ≤ 40)]
        simp [DL.isTup, h1, h2, e]
      · rw [decide_eq_false (by omega : ¬ (1 ≤ xs.length ∧ xs.length ≤ 40))]
        simp [DL.isTup, h1, h2]
    · rw [decide_eq_false (by omega : ¬ (1 ≤ xs.length ∧ xs.length ≤ 40))]
      simp [DL.isTup, h1]
  | _ => simp [DL.isTup, areRg]
theorem lts_tc {ns : List Int} {x y : PyData} (hx : isTch ns x = true) (hy : isTch ns y = true) : ∃ xs ys, x = .tuple xs ∧ y = .tuple ys ∧ lts (.tuple xs) (.tuple ys) = true := by
  obtain ⟨u, i, v, j, rfl⟩ := tch_of hx
  obtain ⟨u', i', v', j', rfl⟩ := tch_of hy
  exact ⟨_, _, rfl, rfl, by simp [lts, PySem.W.alike, PySem.W.alikeAll, PyData.hasDict, PyData.hasDictAll, isNn, PyData.depth, PyData.depthAll]⟩
/-- neighbours are tuples that can be compared, or ints -/
def Nb (xs : List PyData) : Prop := ∀ x ∈ prs xs, ∃ u v, x = .tuple [u, v] ∧ ((∃ i j, u = .int i ∧ v = .int j) ∨ ∃ us vs, u = .tuple us ∧ v = .tuple vs ∧ lts (.tuple us) (.tuple vs) = true)
theorem oLtA_nb {u v : PyData} {ρ : S} (h : (∃ i j, u = .int i ∧ v = .int j) ∨ ∃ us vs, u = .tuple us ∧ v = .tuple vs ∧ lts (.tuple us) (.tuple vs) = true) : oLtA (.d u) (.d v) ρ = .ok (.d (.bool (PySem.W.dataLt u v))) ρ := by
  rcases h with ⟨i, j, rfl, rfl⟩ | ⟨us, vs, rfl, rfl, h⟩
  · rw [oLtA_i, PySem.W.dataLt_int]
  · exact oLtA_t h
theorem is_ascending {xs : List PyData} (hn : Nb xs) (hz : xs.length ≤ 1000) : MP.m_is_ascending (.tuple xs) = .ok (.bool (asc xs)) := by
  unfold MP.m_is_ascending MP.b_is_ascending
  rw [runP_eq]
  have e := mapL (ρ := ⟨[some (.d (.tuple xs)), none, none], []⟩) (i := iZip (mCons (mVar 0) (mCons (mFT (mSl (mVar 0) (mPart (mC (.int 1))) mNoP)) mNil))) (g := gSeq 2 (gCons (FL.gName 1) (gCons (FL.gName 2) gNil))) (e := mOp oLtA (mVar 1) (mVar 2)) (vs := [1, 2]) (fun x => .bool (ltP x)) (wf_pure rfl) (xs := prs xs) (by
      have := ftSl_t (ρ := ⟨[some (.d (.tuple xs)), none, none], []⟩) (a := mVar 0) (ds := xs) (lo := mPart (mC (.int 1))) (hi := mNoP) (l := some 1) (h := none) (wf_pure rfl) (by simp) (by simp) (by simp)
      simp [this, zip_tail]) (by have := prs_len xs; rw [sizeL]; omega) (fun x hx => by
      obtain ⟨u, v, rfl, h⟩ := hn x hx
      simp [oLtA_nb h, ltP])
  simp [e, asc_prs]
theorem nb_tch {ns : List Int} : ∀ {ts : List PyData}, ts.all (isTch ns) = true → Nb ts
  | [], _ => fun _ h => nomatch h
  | [_], _ => fun _ h => nomatch h
  | x :: y :: r, h => by
    rw [List.all_cons, Bool.and_eq_true] at h
    have h2 := h.2
    rw [List.all_cons, Bool.and_eq_true] at h2
    intro z hz
    rcases List.mem_cons.mp hz with rfl | hz
    · exact ⟨x, y, rfl, .inr (lts_tc h.1 h2.1)⟩
    · exact nb_tch h.2 z hz
theorem is_floor {x : PyData} (hfew : few x) : MP.m_is_floor x = .ok (.bool (isFl x)) := by
  unfold MP.m_is_floor MP.b_is_floor
  rw [runP_eq]
  cases hp : isPr x with
  | false =>
    rw [show isFl x = false from isFl_no1 hp]
    simp [is_pair, hp]
  | true =>
    obtain ⟨r, t, rfl⟩ := pr_of hp
    cases hr : areRg r with
    | false =>
      rw [show isFl (.tuple [r, t]) = false from isFl_no2 hr]
      simp [is_pair, hp, are_rings, hr]
    | true =>
      obtain ⟨ns, rfl⟩ := rg_tup hr
      cases ht : isTup t with
      | false =>
        rw [show isFl (.tuple [.tuple (ns.map .int), t]) = false from isFl_no3 ht]
        simp [is_pair, hp, are_rings, hr, ht]
      | true =>
        obtain ⟨ts, rfl⟩ := tup_of ht
        rw [show isFl (.tuple [.tuple (ns.map .int), .tuple ts]) = isFlT ns ts from isFl_eq hr]
        have hlen : ts.length ≤ 31 := hfew _ _ rfl
        have e := mapL (ρ := ⟨[some (.d (.tuple [.tuple (ns.map .int), .tuple ts])), some (.d (.tuple (ns.map .int))), some (.d (.tuple ts)), none, none, none], []⟩) (i := iA (mVar 2)) (g := FL.gName 4) (e := mCall (cur2 MP.m_p_is_touch) (mCons (mVar 1) (mCons (mVar 4) mNil))) (vs := [4]) (fun x => .bool (isTch ns x)) (wf_pure rfl) (xs := ts) (by simp) (by rw [sizeL]; omega) (fun x hx => by simp [is_touch])
        have eT : isFlT ns ts = (ts.all (isTch ns) && (asc ts && dist (ts.flatMap sides))) := rfl
        rw [eT]
        cases ha : ts.all (isTch ns) with
        | false => simp [is_pair, hp, are_rings, hr, ht, e, ha]
        | true =>
          obtain ⟨ws, hws, hwl, hsl⟩ := tch_rows ha
          have e2 := map2A (j := 3) (ρ := ⟨[some (.d (.tuple [.tuple (ns.map .int), .tuple ts])), some (.d (.tuple (ns.map .int))), some (.d (.tuple ts)), none, none, none], []⟩) (i := iA (mVar 2)) (g := FL.gName 4) (i1 := iA (mVar 4)) (g1 := FL.gName 5) (e := mVar 5) (vs := [4, 5]) (vs1 := [5]) sides (fun _ y => y) (wf_pure rfl) (xs := ts) (by simp) (by rw [sizeL]; omega) (fun x hx => by
            obtain ⟨u, i, v, j, rfl⟩ := tch_of (List.all_eq_true.mp ha x hx)
            refine ⟨[some (.d (.tuple [.tuple (ns.map .int), .tuple ts])), some (.d (.tuple (ns.map .int))), some (.d (.tuple ts)), none, some (.d (.tuple [.tuple [.int u, .int i], .tuple [.int v, .int j]])), none], rfl, by simp [sides], fun y hy => by simp⟩)
          simp only [List.map_id_fun', id_eq] at e2
          have e3 := is_ascending (nb_tch ha) (by omega)
          have ed : dist (ts.flatMap sides) = decide (((dcn ws : Nat) : Int) = ((ws.length : Nat) : Int)) := by
            unfold dist
            rw [hws]
            show decide (dcn ws = ws.length) = _
            rw [decide_eq_decide]
            omega
          have e4 : ∀ ρ : S, oLenSet (.d (.list (ts.flatMap sides))) ρ = .ok (.d (.int (dcn ws : Nat))) ρ := fun ρ => by
            show uOp rLenSet _ _ = _
            rw [uOp_ap]
            show pairK (match rowsI (ts.flatMap sides) with | some rs => if rs.length < 64 then some (DV.d (.int (dcn rs : Nat)), ρ) else none | none => none) = _
            rw [hws]
            dsimp only
            rw [if_pos (by omega)]
            rfl
          rw [ed]
          cases hc : asc ts with
          | false => simp [is_pair, hp, are_rings, hr, ht, e, ha, e2, e3, hc]
          | true => simp [is_pair, hp, are_rings, hr, ht, e, ha, e2, e3, hc, e4, hsl]
theorem need_floor {x : PyData} (hfew : few x) : MP.m_need_floor x = if isFl x = true then .ok .none else .exc ⟨"BadFloor", some [("thing", x)]⟩ := by
  unfold MP.m_need_floor MP.b_need_floor
  rw [runP_eq]
  cases h : isFl x <;> simp [is_floor hfew, h]
end Mt
end

section
set_option Elab.async false
set_option linter.all false
set_option maxRecDepth 100000
set_option maxHeartbeats 1000000
set_option autoImplicit false
namespace Mt
open PySem PySem.Spec PyProof.Rows L2 DL FL
section
variable {ns : List Int} {tl : List Tc}
theorem need_flOk (h : FlOk ns tl) : MP.m_need_floor (flD ns tl) = .ok .none := by
  rw [need_floor h.fw, h.fl, if_pos rfl]
theorem is_place (h : FlOk ns tl) (p : PyData) : MP.m_is_place (flD ns tl) p = .ok (.bool (isPl ns p)) := by
  unfold MP.m_is_place MP.b_is_place
  rw [runP_eq]
  have e := need_flOk h
  unfold flD at e ⊢
  simp [e, is_place_on]
theorem need_place (h : FlOk ns tl) (p : PyData) : MP.m_need_place (flD ns tl) p = if isPl ns p = true then .ok .none else .exc ⟨"BadPlace", some [("thing", p)]⟩ := by
  unfold MP.m_need_place MP.b_need_place
  rw [runP_eq]
  cases hp : isPl ns p <;> simp [is_place h, hp]
theorem need_placeT (h : FlOk ns tl) {p : PyData} (hp : isPl ns p = true) : MP.m_need_place (flD ns tl) p = .ok .none := by rw [need_place h, hp, if_pos rfl]
def enY : PyData → List PyData
  | .tuple [_, .int l] => rng 0 l.toNat
  | _ => []
def enP : PyData → PyData → PyData
  | .tuple [.int u, _], i => .tuple [.int u, i]
  | _, _ => .none
theorem spots_en : ((enuN ns).flatMap fun x => (enY x).map (enP x)) = spots ns := by
  unfold spots
  rw [List.flatMap, List.flatMap]
  congr 1
  refine List.map_congr_left fun x hx => ?_
  obtain ⟨u, len, rfl, e⟩ := enu_mem hx
  rfl
theorem len_en : ((enuN ns).flatMap enY).length = (spots ns).length := by
  rw [← spots_en, List.length_flatMap, List.length_flatMap]
  congr 1
  refine List.map_congr_left fun x hx => ?_
  rw [List.length_map]
theorem places (h : FlOk ns tl) (hs : Small ns) : MP.m_places (flD ns tl) = .ok (.tuple (spots ns)) := by
  unfold MP.m_places MP.b_places
  rw [runP_eq]
  have e := need_flOk h
  unfold flD at e ⊢
  have e2 := map2L (ρ := ⟨[some (.d (.tuple [.tuple (ns.map .int), .tuple (tl.map tD)])), none, none, none], []⟩) (i := iEnu (mCons (mOp oIx (mVar 0) (mC (.int 0))) mNil)) (g := gSeq 2 (gCons (FL.gName 1) (gCons (FL.gName 2) gNil))) (i1 := iR1 (mCons (mVar 2) mNil)) (g1 := FL.gName 3) (e := mTup (mCons (mVar 1) (mCons (mVar 3) mNil))) (vs := [1, 2, 3]) (vs1 := [3])
    enY enP (wf_pure rfl) (xs := enuN ns) (by simp [enuN]) (by
      have := hs.2.1
      rw [len_en, sizeL]; omega) (fun x hx => by
      obtain ⟨u, len, rfl, e⟩ := enu_mem hx
      refine ⟨[some (.d (.tuple [.tuple (ns.map .int), .tuple (tl.map tD)])), some (.d (.int u)), some (.d (.int len)), none], rfl, by simp [hs.rg e, enY], fun y hy => by simp [sizeL, enP]⟩)
  rw [spots_en] at e2
  simp [e, e2]
theorem seat (h : FlOk ns tl) {u i : Int} (hp : isPl ns (plD u i) = true) : MP.m_seat (flD ns tl) (plD u i) = .ok (.int (seatN ns u i)) := by
  unfold MP.m_seat MP.b_seat
  rw [runP_eq]
  have e := need_placeT h hp
  obtain ⟨n, hn, rfl, h0, h1⟩ := pl_in hp
  unfold flD plD at e ⊢
  have e2 := ftSl_t (ρ := ⟨[some (.d (.tuple [.tuple (ns.map .int), .tuple (tl.map tD)])), some (.d (.tuple [.int (n : Int), .int i])), some (.d (.int (n : Int))), some (.d (.int i))], []⟩) (a := mOp oIx (mVar 0) (mC (.int 0))) (ds := ns.map .int) (lo := mNoP) (hi := mPart (mVar 2)) (l := none) (h := some (n : Int)) (wf_pure rfl) (by simp) (by simp) (by simp)
  rw [cut_to _ _ (by rw [List.length_map]; omega)] at e2
  have e3 : ∀ ρ : S, oSumA [.d (.tuple ((ns.map .int).take n))] ρ = .ok (.d (.int (ns.take n).sum)) ρ := fun ρ => by
    show cOp rSumAny _ _ = _
    rw [cOp_ap, ← List.map_take]
    show pairK (match intsOf ((ns.take n).map PyData.int) with | some ns => some (DV.d (.int ns.sum), ρ) | none => none) = _
    rw [@intsOf_map ⟨[]⟩]
    rfl
  simp [e, e2, e3, seatN]
theorem behind (h : FlOk ns tl) {u i : Int} (hp : isPl ns (plD u i) = true) (k : Int) : MP.m_behind (flD ns tl) (plD u i) (.int k) = .ok (plD u ((i + k) % ns.getD u.toNat 0)) := by
  unfold MP.m_behind MP.b_behind
  rw [runP_eq]
  have e := need_placeT h hp
  obtain ⟨n, hn, rfl, h0, h1⟩ := pl_in hp
  have eg : ns.getD ((n : Nat) : Int).toNat 0 = ns[n] := by
    rw [Int.toNat_natCast, List.getD_eq_getElem?_getD, List.getElem?_eq_getElem hn]
    rfl
  rw [eg]
  have hp : (0 : Int) < ns[n] := by omega
  unfold flD plD at e ⊢
  simp [e, is_whole, isWh, -atI_m, hn, hp, sizeL]
/-! ### partners -/
theorem put_r {sl : List (Option DV)} {ob : List OB} {k : Nat} {l : Tab} {u i : Int} {v : PyData} (h : obK ⟨sl, ob⟩ k = .dt (mapV l)) (hs : l.length ≤ 1000) : fewD ⟨sl, ob⟩ (.o k) = true ∧ putR ⟨sl, ob⟩ (.o k) (.d (plD u i)) (.d v) = some ⟨sl, ob.set k (.dt (mapV (putD l (plK u i) v)))⟩ := by
  constructor
  · show (match obK ⟨sl, ob⟩ k with | .dk kvs => decide (kvs.length < sizeLine) | .dt kvs => decide (kvs.length < sizeLine) | _ => false) = true
    rw [h]
    refine decide_eq_true ?_
    unfold mapV
    rw [List.length_map, sizeL]
    omega
  · show (match obK ⟨sl, ob⟩ k with
      | .dk kvs => (toK (plD u i)).map fun kk => (⟨sl, ob.set k (.dk (putD kvs kk (.d v)))⟩ : S)
      | .dt kvs => (tkey (plD u i)).map fun kl => ⟨sl, ob.set k (.dt (putD kvs kl (.d v)))⟩
      | _ => none) = _
    rw [h]
    show some (⟨sl, ob.set k (.dt (putD (mapV l) (plK u i) (.d v)))⟩ : S) = _
    rw [putD_map]
theorem put_rK {sl : List (Option DV)} {ob ob' : List OB} {k : Nat} {l : Tab} {u i : Int} {v : PyData} (h : obK ⟨sl, ob⟩ k = .dt (mapV l)) (hs : l.length ≤ 1000) (e : ob.set k (.dt (mapV (putD l (plK u i) v))) = ob') : putK (.o k) (.d (plD u i)) (.d v) ⟨sl, ob⟩ = .ok .nx ⟨sl, ob'⟩ := by
  obtain ⟨h1, h2⟩ := put_r (v := v) (u := u) (i := i) h hs
  rw [putK_of h1 h2, e]
theorem loop_par {tl : List Tc} (hl : tl.length ≤ 31) (b : M FL.Flow) (hb : b = sSeq (mPutK (mVar 1) (mVar 2) (mVar 3)) (mPutK (mVar 1) (mVar 3) (mVar 2))) (fl : PyData) : ∃ ρ2, forGo (gSeq 2 (gCons (FL.gName 2) (gCons (FL.gName 3) gNil))) b (tl.map tD) ⟨[some (.d fl), some (.o 0), none, none], [.dt []]⟩ = .ok .nx ρ2 ∧ ∃ a b, ρ2 = ⟨[some (.d fl), some (.o 0), a, b], [.dt (mapV (parP tl))]⟩ := by
  subst hb
  have H := for_inv (g := gSeq 2 (gCons (FL.gName 2) (gCons (FL.gName 3) gNil))) (b := sSeq (mPutK (mVar 1) (mVar 2) (mVar 3)) (mPutK (mVar 1) (mVar 3) (mVar 2))) (ρ := ⟨[some (.d fl), some (.o 0), none, none], [.dt []]⟩) (fun pre ρ => ∃ ts : List Tc, pre = ts.map tD ∧ ts.length ≤ 31 ∧ ∃ a b, ρ = ⟨[some (.d fl), some (.o 0), a, b], [.dt (mapV (parP ts))]⟩) (xs := tl.map tD) ⟨[], rfl, by simp, none, none, rfl⟩ (fun pre x post ρ' hx hI => by
    obtain ⟨ts, rfl, hts, a, b, rfl⟩ := hI
    have : ∃ t : Tc, x = tD t ∧ ts.length + 1 ≤ tl.length := by
      have h1 : x ∈ tl.map tD := by rw [hx]; simp
      obtain ⟨t, _, rfl⟩ := List.mem_map.mp h1
      have h2 := congrArg List.length hx
      simp at h2
      exact ⟨t, rfl, by omega⟩
    obtain ⟨t, rfl, ht⟩ := this
    have hl1 : (parP ts).length ≤ 62 := Nat.le_trans (parP_len _) (by omega)
    have hl2 := putD_len (parP ts) (plK t.1 t.2.1) (plD t.2.2.1 t.2.2.2)
    have p1 := put_rK (ob' := [.dt (mapV (putD (parP ts) (plK t.1 t.2.1) (plD t.2.2.1 t.2.2.2)))]) (sl := [some (.d fl), some (.o 0), some (.d (plD t.1 t.2.1)), some (.d (plD t.2.2.1 t.2.2.2))]) (ob := [.dt (mapV (parP ts))]) (k := 0) (l := parP ts) (u := t.1) (i := t.2.1) (v := plD t.2.2.1 t.2.2.2) rfl (by omega) rfl
    have p2 := put_rK (ob' := [.dt (mapV (par1 (parP ts) t))]) (sl := [some (.d fl), some (.o 0), some (.d (plD t.1 t.2.1)), some (.d (plD t.2.2.1 t.2.2.2))]) (ob := [.dt (mapV (putD (parP ts) (plK t.1 t.2.1) (plD t.2.2.1 t.2.2.2)))]) (k := 0) (l := putD (parP ts) (plK t.1 t.2.1) (plD t.2.2.1 t.2.2.2)) (u := t.2.2.1) (i := t.2.2.2) (v := plD t.1 t.2.1) rfl (by omega) rfl
    refine ⟨_, ?_, ts ++ [t], by simp, by simp; omega, some (.d (plD t.1 t.2.1)), some (.d (plD t.2.2.1 t.2.2.2)), rfl⟩
    unfold tD
    have e : par1 (parP ts) t = parP (ts ++ [t]) := by
      unfold parP
      rw [List.foldl_append]
      rfl
    rw [e] at p2
    simp [p1, p2])
  obtain ⟨ρ2, h1, ts, h2, _, a, b, h3⟩ := H
  refine ⟨ρ2, h1, a, b, ?_⟩
  rw [h3]
  have : parP ts = parP tl := by
    have : ts = tl := by
      have inj : ∀ s t : Tc, tD s = tD t → s = t := fun s t h => by
        obtain ⟨a, b, c, d⟩ := s
        obtain ⟨a', b', c', d'⟩ := t
        simp [tD, plD] at h
        simp [h]
      exact (List.map_inj_right inj).mp h2.symm
    rw [this]
  rw [this]
theorem partners (hl : tl.length ≤ 31) : MP.m_partners (flD ns tl) = .ok (dtD (parP tl)) := by
  unfold MP.m_partners MP.b_partners
  rw [runP_eq]
  obtain ⟨ρ2, h1, a, b, rfl⟩ := loop_par hl _ rfl (flD ns tl)
  obtain ⟨ρ3, e⟩ := frz_last (sl := [some (.d (flD ns tl)), some (.o 0), a, b]) (ob := []) (l := parP tl)
  have e : FL.frzV (.o 0) ⟨[some (.d (flD ns tl)), some (.o 0), a, b], [.dt (mapV (parP tl))]⟩ = some (dtD (parP tl), ρ3) := e
  unfold flD at h1 e ⊢
  simp [h1, e]
theorem partner (h : FlOk ns tl) {u i : Int} (hp : isPl ns (plD u i) = true) : MP.m_partner (flD ns tl) (plD u i) = .ok (parOf tl u i) := by
  unfold MP.m_partner MP.b_partner
  rw [runP_eq]
  have e := need_placeT h hp
  have e2 : ∀ ρ : S, getK1 (.d (dtD (parP tl))) (.d (plD u i)) (.d .none) ρ = .ok (.d (parOf tl u i)) ρ := fun ρ => by
    unfold getK1
    rw [getR_par]
    dsimp only
    rw [getD_map]
    rfl
  have e3 := partners (ns := ns) h.fw31
  have e4 : ∀ ρ : S, isDc ρ (.d (dtD (parP tl))) = true := fun ρ => rfl
  simp [e, e2, e3, e4]
end
end Mt
end

section
set_option Elab.async false
set_option linter.all false
set_option maxRecDepth 100000
set_option maxHeartbeats 1000000
set_option autoImplicit false
namespace Mt

open PySem PySem.Spec PyProof.Rows L2 DL FL
local instance : Tab0 := ⟨[]⟩
theorem erase_perm {α : Type} : ∀ {l : List α} {n : Nat} (h : n < l.length), (l[n] :: l.eraseIdx n).Perm l
  | x :: r, 0, _ => .refl _
  | x :: r, n + 1, h => (List.Perm.swap x (r[n]'(Nat.lt_of_succ_lt_succ h)) (r.eraseIdx n)).trans ((erase_perm (l := r) (Nat.lt_of_succ_lt_succ h)).cons x)
/-! ### the law's deck -/
structure Gd (k : Dk) : Prop where
  ka : k.ka = "cells"
  kb : k.kb = "mixed"
  kc : k.kc = "draws"
  len : k.c.length ≤ 63
theorem cmul_r {i j : Int} (h : -(2 ^ 64) < j ∧ j < 2 ^ 64) : CMul i j ∨ CMulW i j := .inl (.inr h)
theorem cmul_l {i j : Int} (h : -(2 ^ 64) < i ∧ i < 2 ^ 64) : CMul i j ∨ CMulW i j := .inl (.inl h)
@[simp] theorem mod_p {i n : Int} {ρ : S} (h : 0 < n) : oMod (.d (.int i)) (.d (.int n)) ρ = .ok (.d (.int (i % n))) ρ := by simp [h]
def DrOk (dr : Dk → PyData → RV (PyData × Dk)) : Prop := ∀ k n, Gd k → 1 ≤ n → n ≤ 1000000000 → ∃ r k', dr k (.int n) = .ok (.int r, k') ∧ 0 ≤ r ∧ r < n ∧ Gd k'
theorem draw (c1 c2 : Int) : DrOk (ML.m_law_draw_600f c1 c2) := by
  rintro ⟨_, _, _, m, d, c⟩ n ⟨rfl, rfl, rfl, hc⟩ h1 h2
  unfold ML.m_law_draw_600f ML.b_law_draw_600f
  rw [runD_eq]
  have hn : 0 < n := by omega
  have ek : deckK ⟨"cells", "mixed", "draws", m, d, c⟩ = deckO m d := rfl
  have p9 : ∀ x : Int, (60373 : Int) = 60373 := fun _ => rfl
  have mulA : ∀ (i : Int) (ρ : S), oMulA (.d (.int 60373)) (.d (.int i)) ρ = .ok (.d (.int (60373 * i))) ρ := fun i ρ => by rw [oMulA_i, if_pos (cmul_l (by decide))]
  have mulB : ∀ (i : Int) (ρ : S), oMulA (.d (.int i)) (.d (.int 69621)) ρ = .ok (.d (.int (i * 69621))) ρ := fun i ρ => by rw [oMulA_i, if_pos (cmul_r (by decide))]
  have mulC : ∀ (i : Int) (ρ : S), oMulA (.d (.int 50021)) (.d (.int i)) ρ = .ok (.d (.int (50021 * i))) ρ := fun i ρ => by rw [oMulA_i, if_pos (cmul_l (by decide))]
  have mulD : ∀ (i : Int) (ρ : S), oMulA (.d (.int i)) (.d (.int 40014)) ρ = .ok (.d (.int (i * 40014))) ρ := fun i ρ => by rw [oMulA_i, if_pos (cmul_r (by decide))]
  have mulE : ∀ (i : Int) (ρ : S), oMulA (.d (.int (i % 2147483579))) (.d (.int (i % 2147483579))) ρ = .ok (.d (.int (i % 2147483579 * (i % 2147483579)))) ρ := fun i ρ => by rw [oMulA_i, if_pos (cmul_r (by omega))]
  have pw : ∀ ρ : S, oPow (.d (.int 10)) (.d (.int 18)) ρ = .ok (.d (.int (10 ^ 18))) ρ := fun ρ => by
    rw [show oPow (.d (.int 10)) (.d (.int 18)) ρ = _ from oIIc_i, if_pos (by decide)]
    rfl
  have e0 : ∀ (x : Int) (m d : Int), mFT (mLst mNil) ⟨[some (.o 0), some (.d (.int n)), some (.d (.int x)), none], [deckO m d, cellsO c]⟩ = .ok (.d (.list [])) ⟨[some (.o 0), some (.d (.int n)), some (.d (.int x)), none], [deckO m d, cellsO c]⟩ := fun x m d => ftNil (wfO rfl rfl)
  have e1 : ∀ (sl : List (Option DV)) (m d : Int), oNeA (.o 1) (.d (.list [])) ⟨sl, [deckO m d, cellsO c]⟩ = .ok (.d (.bool (!c.isEmpty))) ⟨sl, [deckO m d, cellsO c]⟩ := fun sl m d => by
    have := neNil (l2 := []) (ρ := ⟨sl, [deckO m d, cellsO c]⟩) (k := 1) (l := c.map .int) rfl (@eqs_ints ⟨[]⟩ c)
    rw [this]
    cases c <;> rfl
  have fin : ∀ z : Int, 0 ≤ z % n ∧ z % n < n := fun z => ⟨Int.emod_nonneg _ (by omega), Int.emod_lt_of_pos _ hn⟩
  have l64 : Nat.log2 64 < 9000 := by decide +kernel
  by_cases hc0 : c = []
  · subst hc0
    simp [ek, mulA, mulB, mulC, mulD, mulE, e0, e1, hn, l64]
    exact ⟨_, _, ⟨rfl, rfl⟩, (fin _).1, (fin _).2, rfl, rfl, rfl, Nat.zero_le _⟩
  · obtain ⟨c0, x, rfl⟩ := snoc_of hc0
    have hl : c0.length + 1 ≤ 63 := by simpa using hc
    have ep : ∀ (sl : List (Option DV)) (m d : Int), rPop' (.o 1) [] ⟨sl, [deckO m d, cellsO (c0 ++ [x])]⟩ = some (.d (.int x), ⟨sl, [deckO m d, cellsO c0]⟩) := fun sl m d => by
      rw [pop_of (l := c0.map .int) (x := .int x) (by show cellsO (c0 ++ [x]) = lstB _; unfold cellsO lstB; simp)]
      rfl
    have ea : ∀ (sl : List (Option DV)) (m d y : Int), rApp (.o 1) [.d (.int y)] ⟨sl, [deckO m d, cellsO c0]⟩ = some (.d .none, ⟨sl, [deckO m d, cellsO (c0 ++ [y])]⟩) := fun sl m d y => by
      rw [app_of (l := c0.map .int) (x := .int y) rfl (by rw [List.length_map]; omega)]
      show some (DV.d .none, (⟨sl, [deckO m d, lstB (c0.map .int ++ [.int y])]⟩ : S)) = _
      have : lstB (c0.map PyData.int ++ [.int y]) = cellsO (c0 ++ [y]) := by unfold cellsO lstB; simp
      rw [this]
    by_cases hb : (1000000000000000000 : Int) ≤ x
    · have hd : 0 < (if n > 2 then n else 2) ∧ (if n > 2 then n else (2 : Int)).natAbs.log2 < 9000 := by
        have : ∀ y : Int, 0 < y → y ≤ 1000000000 → y.natAbs.log2 < 9000 := fun y h0 h1 => by
          have : y.natAbs < 2 ^ 9000 := Nat.lt_of_le_of_lt (by omega : y.natAbs ≤ 1000000000) (by decide +kernel)
          exact (Nat.log2_lt (by omega)).mpr this
        split
        · exact ⟨hn, this _ hn h2⟩
        · exact ⟨by decide, this _ (by decide) (by decide)⟩
      simp [ek, mulA, mulB, mulC, mulD, mulE, e0, e1, hn, l64, ep, pw, hb, ea, hd]
      exact ⟨_, _, ⟨rfl, rfl⟩, (fin _).1, (fin _).2, rfl, rfl, rfl, by simp; omega⟩
    · simp [ek, mulA, mulB, mulC, mulD, mulE, e0, e1, hn, l64, ep, pw, hb, ea]
      exact ⟨_, _, ⟨rfl, rfl⟩, (fin _).1, (fin _).2, rfl, rfl, rfl, by simp; omega⟩
theorem pick {dr : Dk → PyData → RV (PyData × Dk)} (hd : DrOk dr) {k : Dk} (hk : Gd k) {xs : List PyData} (h1 : 1 ≤ xs.length) (h2 : xs.length ≤ 1000) {x : PyData} (hx : x = .tuple xs ∨ x = .list xs) : ∃ y k', ML.m_law_pick_0769 dr k x = .ok (y, k') ∧ y ∈ xs ∧ Gd k' := by
  unfold ML.m_law_pick_0769 ML.b_law_pick_0769
  rw [runD_eq]
  obtain ⟨r, k', e, h3, h4, hk'⟩ := hd k xs.length hk (by omega) (by omega)
  have hr : r.toNat < xs.length := by omega
  have ea : atI xs r = some xs[r.toNat] := by rw [atI_int h3, List.getElem?_eq_getElem hr]
  rcases hx with rfl | rfl
  · simp [e, ea]
    exact ⟨_, _, ⟨rfl, rfl⟩, List.getElem_mem hr, hk'⟩
  · simp [e, ea]
    exact ⟨_, _, ⟨rfl, rfl⟩, List.getElem_mem hr, hk'⟩
theorem lrg {n : Int} {ρ : S} (h0 : 0 ≤ n) (h1 : n ≤ 100000) : oLrg (.d (.int n)) ρ = .ok (.o ρ.ob.length) ⟨ρ.sl, ρ.ob ++ [lstB (rng 0 n.toNat)]⟩ := by
  unfold oLrg
  rw [uOp_ap]
  show pairK (if RgOk 0 n then some (.o ρ.ob.length, ⟨ρ.sl, ρ.ob ++ [.lst ((rng 0 n.toNat).map .d)]⟩) else none) = _
  rw [if_pos (by unfold RgOk; omega)]
  rfl
@[simp] theorem lstB_nil : (OB.lst [] : OB) = lstB [] := rfl
theorem order {dr : Dk → PyData → RV (PyData × Dk)} (hd : DrOk dr) {k : Dk} (hk : Gd k) {n : Int} (h1 : 0 ≤ n) (h2 : n ≤ 1000) : ∃ p k', ML.m_law_order_0df0 dr k (.int n) = .ok (.tuple p, k') ∧ p.Perm (rng 0 n.toNat) ∧ Gd k' := by
  unfold ML.m_law_order_0df0 ML.b_law_order_0df0
  rw [runD_eq]
  have H := for_inv (g := FL.gName 4) (b := sExp (mBM "list" rApp (mVar 3) (mCons (mBM "list" rPopAt' (mVar 2) (mCons (mCallD (curD1 dr) (mCons (mVar 0) (mCons (mCa oLen (mCons (mVar 2) mNil)) mNil))) mNil)) mNil)))
    (ρ := ⟨[some (.o 0), some (.d (.int n)), some (.o 2), some (.o 3), none], [deckK k, cellsO k.c, lstB (rng 0 n.toNat), lstB []]⟩)
    (fun pre ρ => ∃ k' l f x, Gd k' ∧ ρ = ⟨[some (.o 0), some (.d (.int n)), some (.o 2), some (.o 3), x], [deckK k', cellsO k'.c, lstB l, lstB f]⟩ ∧ (f ++ l).Perm (rng 0 n.toNat) ∧ f.length = pre.length)
    (xs := rng 0 n.toNat) ⟨k, _, [], none, hk, rfl, by simp, rfl⟩ (by
      rintro pre x post _ hx ⟨k1, l, f, x0, hk1, rfl, hp, hf⟩
      have e1 := congrArg List.length hx
      have e2 := hp.length_eq
      rw [rng_len] at e1 e2
      simp at e1 e2
      have hl : 1 ≤ l.length := by omega
      obtain ⟨r, k2, e, h3, h4, hk2⟩ := hd k1 l.length hk1 (by omega) (by omega)
      have hr : r.toNat < l.length := by omega
      have el := len_o (ρ := ⟨[some (.o 0), some (.d (.int n)), some (.o 2), some (.o 3), some (.d x)], [deckK k1, cellsO k1.c, lstB l, lstB f]⟩) (k := 2) (l := l) rfl
      have ep := popAt_of (ρ := ⟨[some (.o 0), some (.d (.int n)), some (.o 2), some (.o 3), some (.d x)], [deckK k2, cellsO k2.c, lstB l, lstB f]⟩) (k := 2) (l := l) (i := r) rfl h3 (by omega) (List.getElem?_eq_getElem hr)
      have ea := app_of (ρ := ⟨[some (.o 0), some (.d (.int n)), some (.o 2), some (.o 3), some (.d x)], [deckK k2, cellsO k2.c, lstB (l.eraseIdx r.toNat), lstB f]⟩) (k := 3) (l := f) (x := l[r.toNat]) rfl (by omega)
      refine ⟨⟨[some (.o 0), some (.d (.int n)), some (.o 2), some (.o 3), some (.d x)], [deckK k2, cellsO k2.c, lstB (l.eraseIdx r.toNat), lstB (f ++ [l[r.toNat]])]⟩, by
        simp at el ep ea
        simp [el, e, ep, ea], k2, _, _, _, hk2, rfl, ?_, by simp [hf]⟩
      rw [List.append_assoc]
      exact ((Mt.erase_perm hr).append_left f).trans hp)
  obtain ⟨ρ2, e, k', l, f, x, hk', rfl, hp, hf⟩ := H
  rw [rng_len] at hf
  have e2 := hp.length_eq
  rw [rng_len] at e2
  simp at e2
  have : l = [] := List.length_eq_zero_iff.mp (by omega)
  subst this
  have er := lrg (ρ := ⟨[some (.o 0), some (.d (.int n)), none, none, none], [deckK k, cellsO k.c]⟩) h1 (by omega)
  have et := tup_o (ρ := ⟨[some (.o 0), some (.d (.int n)), some (.o 2), some (.o 3), x], [deckK k', cellsO k'.c, lstB [], lstB f]⟩) (k := 3) (l := f) rfl
  have hR : RgB n := by unfold RgB; omega
  simp at er e
  simp [er, hR, e, et]
  exact ⟨_, _, ⟨rfl, rfl⟩, by simpa using hp, hk'⟩
theorem spots_step {xs pre post : List PyData} {x : PyData} (h : xs = pre ++ x :: post) (hx : (xs.flatMap spF).length ≤ 1000) : (pre.flatMap spF).length + (spF x).length ≤ 1000 := by
  rw [h, List.flatMap_append, List.flatMap_cons, List.length_append, List.length_append] at hx
  omega
theorem law_spots {ns : List Int} (hs : Small ns) {x : PyData} (hx : x = .tuple (ns.map .int) ∨ x = .list (ns.map .int)) : ML.m_law_spots_91d2 x = .ok (.list (spots ns)) := by
  unfold ML.m_law_spots_91d2 ML.b_law_spots_91d2
  rw [runP_eq]
  have H := for_inv (g := gSeq 2 (gCons (FL.gName 2) (gCons (FL.gName 3) gNil))) (b := sTrim (sExp (mBM "list" rExtA (mVar 1) (mCons (mLcF (iR1 (mCons (mVar 3) mNil)) (FL.gName 4) mYes (mTup (mCons (mVar 2) (mCons (mVar 4) mNil))) [4]) mNil))))
    (ρ := ⟨[some (.d x), some (.o 0), none, none, none], [lstB []]⟩)
    (fun pre ρ => ∃ a b : Option PyData, ρ = ⟨[some (.d x), some (.o 0), a.map .d, b.map .d, none], [lstB (pre.flatMap spF)]⟩)
    (xs := enuN ns) ⟨none, none, rfl⟩ (by
      rintro pre y post _ hy ⟨a, b, rfl⟩
      obtain ⟨u, len, rfl, eu⟩ := enu_mem (show y ∈ enuN ns by rw [hy]; simp)
      have h1 := spots_step hy hs.2.1
      have hr := hs.rg eu
      have em := mapO (ρ := ⟨[some (.d x), some (.o 0), some (.d (.int u)), some (.d (.int len)), none], [lstB (pre.flatMap spF)]⟩) (i := iR1 (mCons (mVar 3) mNil)) (g := FL.gName 4) (e := mTup (mCons (mVar 2) (mCons (mVar 4) mNil))) (vs := [4]) (fun i => .tuple [.int u, i]) (by
        rw [wf_iff]
        exact ⟨by simp, rfl⟩) (xs := rng 0 len.toNat) (by simp [hr]) (by
        simp [spF] at h1
        rw [sizeL]; omega) (fun y hy => by simp [sizeL])
      have ee := ext_of (ρ := ⟨[some (.d x), some (.o 0), some (.d (.int u)), some (.d (.int len)), none], [lstB (pre.flatMap spF), lstB ((rng 0 len.toNat).map fun i => .tuple [.int u, i])]⟩) (k := 0) (j := 1) (l := pre.flatMap spF) (l2 := (rng 0 len.toNat).map fun i => .tuple [.int u, i]) rfl rfl (by
        simp [spF] at h1 ⊢
        omega)
      refine ⟨⟨[some (.d x), some (.o 0), some (.d (.int u)), some (.d (.int len)), none], [lstB (pre.flatMap spF ++ spF (.tuple [.int u, .int len]))]⟩, ?_, some (.int u), some (.int len), by simp⟩
      have em' : mLcF (iR1 (mCons (mVar 3) mNil)) (FL.gName 4) mYes (mTup (mCons (mVar 2) (mCons (mVar 4) mNil))) [4] ⟨[some (.d x), some (.o 0), some (.d (.int u)), some (.d (.int len)), none], [lstB (pre.flatMap spF)]⟩ = .ok (.o 1) ⟨[some (.d x), some (.o 0), some (.d (.int u)), some (.d (.int len)), none], [lstB (pre.flatMap spF), lstB ((rng 0 len.toNat).map fun i => .tuple [.int u, i])]⟩ := em
      have et : okTrim 1 ⟨[some (.d x), some (.o 0), some (.d (.int u)), some (.d (.int len)), none], [lstB (pre.flatMap spF ++ (rng 0 len.toNat).map fun i => .tuple [.int u, i]), lstB ((rng 0 len.toNat).map fun i => .tuple [.int u, i])]⟩ = true := by
        unfold okTrim
        simp
        exact ⟨rfl, rfl, rfl, rfl, rfl⟩
      have ee' : rExt (.o 0) [.o 1] ⟨[some (.d x), some (.o 0), some (.d (.int u)), some (.d (.int len)), none], [lstB (pre.flatMap spF), lstB ((rng 0 len.toNat).map fun i => .tuple [.int u, i])]⟩ = some (.d .none, ⟨[some (.d x), some (.o 0), some (.d (.int u)), some (.d (.int len)), none], [lstB (pre.flatMap spF ++ (rng 0 len.toNat).map fun i => .tuple [.int u, i]), lstB ((rng 0 len.toNat).map fun i => .tuple [.int u, i])]⟩) := ee
      have e5 : spF (.tuple [.int u, .int len]) = (rng 0 len.toNat).map fun i => .tuple [.int u, i] := rfl
      rw [e5]
      simp [em', ee', et])
  obtain ⟨ρ2, e, a, b, rfl⟩ := H
  have ef := frzO (ρ := ⟨[some (.d x), some (.o 0), a.map .d, b.map .d, none], [lstB ((enuN ns).flatMap spF)]⟩) (k := 0) (l := (enuN ns).flatMap spF) rfl
  have ez : enuN ns = zipP (rng 0 ns.length) (ns.map .int) := by simp [enuN]
  rcases hx with rfl | rfl
  · simp [← ez, e, ef]
    rfl
  · simp [← ez, e, ef]
    rfl
end Mt
end

section
set_option Elab.async false
set_option linter.all false
set_option maxRecDepth 100000
set_option maxHeartbeats 1000000
set_option autoImplicit false
namespace Mt
open PySem PySem.Spec PyProof.Rows L2 DL FL
local instance : Tab0 := ⟨[]⟩
def boundD (b : Int) (x : PyData) : Bool := match x with | .int j => decide (1 ≤ j ∧ j ≤ b) | _ => false
theorem pickB {dr : Dk → PyData → RV (PyData × Dk)} (hd : DrOk dr) {k : Dk} (hk : Gd k) {xs : List PyData} {b : Int} (h1 : 1 ≤ xs.length) (h2 : xs.length ≤ 1000) {x : PyData} (hx : x = .tuple xs ∨ x = .list xs) (hb : xs.all (boundD b) = true) : ∃ (j : Int) (k' : Dk), ML.m_law_pick_0769 dr k x = .ok (.int j, k') ∧ 1 ≤ j ∧ j ≤ b ∧ Gd k' := by
  obtain ⟨y, k', e, hy, hk'⟩ := pick hd hk h1 h2 hx
  have := List.all_eq_true.mp hb y hy
  cases y with
  | int j =>
    have := of_decide_eq_true this
    exact ⟨j, k', e, this.1, this.2, hk'⟩
  | _ => cases this
theorem rings {dr : Dk → PyData → RV (PyData × Dk)} (hd : DrOk dr) {k : Dk} (hk : Gd k) {n : Int} (h1 : 1 ≤ n) (h2 : n ≤ 40) : ∃ (ns : List Int) (k' : Dk), ML.m_law_rings_72bf dr k (.int n) = .ok (.tuple (ns.map .int), k') ∧ RG ns ∧ ns.sum ≤ n ∧ Gd k' := by
  unfold ML.m_law_rings_72bf ML.b_law_rings_72bf
  rw [runD_eq]
  obtain ⟨j, k1, e1, hj1, hj2, hk1⟩ := pickB hd hk (b := 5) (xs := [.int 2, .int 3, .int 2, .int 1, .int 3, .int 4, .int 2, .int 5]) (by simp) (by simp) (.inl rfl) (by decide)
  have hjR : RgB j := by unfold RgB; omega
  have H := for_inv (g := FL.gName 4) (b := (sSeq (sAsg (mCallD (curD1 (ML.m_law_pick_0769 dr)) (mCons (mVar 0) (mCons (mTup (mCons (mC (.int 2)) (mCons (mC (.int 3)) (mCons (mC (.int 4)) (mCons (mC (.int 1)) (mCons (mC (.int 3)) (mCons (mC (.int 5)) (mCons (mC (.int 2)) (mCons (mC (.int 6)) mNil))))))))) mNil))) (FL.gName 5))
  (sIf (mB (mOp oLe (mVar 5) (mVar 3))) (sSeq (sExp (mBM "list" rApp (mVar 2) (mCons (mVar 5) mNil)))
  (sAsg (mOp oSub (mVar 3) (mVar 5)) (FL.gName 3))) sNext)))
    (ρ := ⟨[some (.o 0), some (.d (.int n)), some (.o 2), some (.d (.int n)), none, none], [deckK k1, cellsO k1.c, lstB []]⟩)
    (fun pre ρ => ∃ (k' : Dk) (f : List Int) (a b : Option PyData), Gd k' ∧ ρ = ⟨[some (.o 0), some (.d (.int n)), some (.o 2), some (.d (.int (n - f.sum))), a.map .d, b.map .d], [deckK k', cellsO k'.c, lstB (f.map .int)]⟩ ∧ (∀ l ∈ f, 1 ≤ l) ∧ 0 ≤ n - f.sum ∧ f.length ≤ pre.length)
    (xs := rng 0 j.toNat) ⟨k1, [], none, none, hk1, by simp, by simp, by simp; omega, by simp⟩ (by
      rintro pre x post _ hx ⟨k2, f, a, b, hk2, rfl, hp, h0, hf⟩
      have hlen := congrArg List.length hx
      rw [rng_len] at hlen
      simp at hlen
      obtain ⟨i, k3, e3, hi1, hi2, hk3⟩ := pickB hd hk2 (b := 6) (xs := [.int 2, .int 3, .int 4, .int 1, .int 3, .int 5, .int 2, .int 6]) (by simp) (by simp) (.inl rfl) (by decide)
      by_cases hc : i ≤ n - f.sum
      · have ea := app_of (ρ := ⟨[some (.o 0), some (.d (.int n)), some (.o 2), some (.d (.int (n - f.sum))), some (.d x), some (.d (.int i))], [deckK k3, cellsO k3.c, lstB (f.map .int)]⟩) (k := 2) (l := f.map .int) (x := .int i) rfl (by rw [List.length_map]; omega)
        simp at ea
        refine ⟨⟨[some (.o 0), some (.d (.int n)), some (.o 2), some (.d (.int (n - (f ++ [i]).sum))), some (.d x), some (.d (.int i))], [deckK k3, cellsO k3.c, lstB ((f ++ [i]).map .int)]⟩, ?_, k3, f ++ [i], some x, some (.int i), hk3, rfl, ?_, ?_, ?_⟩
        · simp [sizeL, e3, hc, ea]
          omega
        · intro l hl
          rcases List.mem_append.mp hl with hl | hl
          · exact hp l hl
          · rw [List.mem_singleton.mp hl]
            exact hi1
        · simp
          omega
        · simp [hf]
      · refine ⟨⟨[some (.o 0), some (.d (.int n)), some (.o 2), some (.d (.int (n - f.sum))), some (.d x), some (.d (.int i))], [deckK k3, cellsO k3.c, lstB (f.map .int)]⟩, ?_, k3, f, some x, some (.int i), hk3, rfl, hp, h0, by simp; omega⟩
        simp [sizeL, e3, hc])
  obtain ⟨ρ2, e, k', f, a, b, hk', rfl, hp, h0, hf⟩ := H
  have eN := ftNil (ρ := ⟨[some (.o 0), some (.d (.int n)), some (.o 2), some (.d (.int (n - f.sum))), a.map .d, b.map .d], [deckK k', cellsO k'.c, lstB (f.map .int)]⟩) (wfK (by cases a <;> cases b <;> rfl) (by simp))
  have eC := neNil (l2 := []) (ρ := ⟨[some (.o 0), some (.d (.int n)), some (.o 2), some (.d (.int (n - f.sum))), a.map .d, b.map .d], [deckK k', cellsO k'.c, lstB (f.map .int)]⟩) (k := 2) (l := f.map .int) rfl (eqs_ints f)
  have eT := tup_o (ρ := ⟨[some (.o 0), some (.d (.int n)), some (.o 2), some (.d (.int (n - f.sum))), a.map .d, b.map .d], [deckK k', cellsO k'.c, lstB (f.map .int)]⟩) (k := 2) (l := f.map .int) rfl
  cases f with
  | nil =>
    simp at eN eC eT e
    simp [sizeL, e1, hjR, e, eN, eC, eT]
    exact ⟨[1], k', ⟨by simp, rfl⟩, ⟨by simp, by simp, by simp⟩, by simpa using h1, hk'⟩
  | cons l r =>
    simp at eN eC eT e
    simp [sizeL, e1, hjR, e, eN, eC, eT]
    exact ⟨l :: r, k', ⟨by simp, rfl⟩, ⟨by simp, hp, by omega⟩, by omega, hk'⟩
end Mt
end

section
set_option Elab.async false
set_option linter.all false
set_option maxRecDepth 100000
set_option maxHeartbeats 1000000
set_option autoImplicit false
namespace Mt
open PySem PySem.Spec PyProof.Rows L2 DL FL
local instance : Tab0 := ⟨[]⟩
/-- a turn of the loop that takes two places -/
structure Two (sp : List (Int × Int)) (ns : List Int) (p : List PyData) (i : Nat) where
  t : Tc
  a : PyData
  b : PyData
  ha : ∃ k1 : Int, atI p (2 * (i : Int)) = some (.int k1) ∧ atI (spots ns) k1 = some a
  hb : ∃ k1 : Int, atI p (2 * (i : Int) + 1) = some (.int k1) ∧ atI (spots ns) k1 = some b
  so : Sorts [a, b]
  st : srt [a, b] = [plP (p1 t), plP (p2 t)]
  lt : ltI (p1 t) (p2 t)
theorem two_of {ns : List Int} {p : List PyData} {sp : List (Int × Int)} (ho : Ord ns p sp) {i : Nat} (h : 2 * i + 1 < sp.length) {tl : List Tc} (ht : TT sp i tl) : ∃ w : Two sp ns p i, TT sp (i + 1) (tl ++ [w.t]) := by
  have hnd : sp.Nodup := ho.pm.nodup_iff.mpr (nd_spI ns 0)
  have hm1 : 2 * i < sp.length := by omega
  obtain ⟨k1, a1, a2⟩ := ho.at_ (2 * i) hm1
  obtain ⟨k2, b1, b2⟩ := ho.at_ (2 * i + 1) h
  rw [Int.natCast_mul] at a1
  rw [Int.natCast_add, Int.natCast_mul] at b1
  obtain ⟨t, es, et1, et2⟩ := srt_two (nd_two hnd h)
  exact ⟨⟨t, plP sp[2 * i], plP sp[2 * i + 1], ⟨k1, a1, a2⟩, ⟨k2, b1, b2⟩, sorts_pl [sp[2 * i], sp[2 * i + 1]], es, et1⟩, ht.step h et1 et2⟩

theorem floor {dr : Dk → PyData → RV (PyData × Dk)} (hd : DrOk dr) {k : Dk} (hk : Gd k) {n : Int} (h1 : 1 ≤ n) (h2 : n ≤ 40) : ∃ (ns : List Int) (tl : List Tc) (k' : Dk), ML.m_law_floor_532c dr k (.int n) = .ok (flD ns tl, k') ∧ VF ns tl ∧ ns.sum ≤ n ∧ Gd k' := by
  unfold ML.m_law_floor_532c ML.b_law_floor_532c
  rw [runD_eq]
  obtain ⟨ns, k1, e1, hr, hsum, hk1⟩ := rings hd hk h1 h2
  have hN : (spots ns).length ≤ 1000 := hr.small.2.1
  have es := law_spots hr.small (.inl rfl)
  obtain ⟨p, k2, e2, hp, hk2⟩ := order hd hk1 (n := (spots ns).length) (by omega) (by omega)
  rw [Int.toNat_natCast] at hp
  obtain ⟨sp, ho⟩ := ord_of hp
  have hsp := ho.len
  obtain ⟨w, k3, e3, hw0, hw1, hk3⟩ := hd k2 5 hk2 (by omega) (by omega)
  have H : ∀ (j : Int) (k4 : Dk), Gd k4 → 0 ≤ j → j ≤ 20 → 2 * j ≤ (spots ns).length → ∃ (k' : Dk) (tl : List Tc) (a b c : Option PyData), Gd k' ∧ TT sp j.toNat tl ∧
    forGo (FL.gName 7) (sSeq (sAsg (mFT (mCa oSorted (mCons (mFT (mLst (mCons (mOp oIx (mVar 4) (mOp oIx (mVar 5) (mOp oMulA (mC (.int 2)) (mVar 7)))) (mCons (mOp oIx (mVar 4) (mOp oIx (mVar 5) (mOp oAddA (mOp oMulA (mC (.int 2)) (mVar 7)) (mC (.int 1))))) mNil)))) mNil))) (gSeq 2 (gCons (FL.gName 8) (gCons (FL.gName 9) gNil))))
  (sExp (mBM "list" rApp (mVar 3) (mCons (mTup (mCons (mVar 8) (mCons (mVar 9) mNil))) mNil)))) (rng 0 j.toNat) ⟨[some (.o 0), some (.d (.int n)), some (.d (.tuple (ns.map .int))), some (.o 2), some (.d (.list (spots ns))), some (.d (.tuple p)), some (.d (.int w)), none, none, none], [deckK k4, cellsO k4.c, lstB []]⟩ = .ok .nx ⟨[some (.o 0), some (.d (.int n)), some (.d (.tuple (ns.map .int))), some (.o 2), some (.d (.list (spots ns))), some (.d (.tuple p)), some (.d (.int w)), a.map .d, b.map .d, c.map .d], [deckK k', cellsO k'.c, lstB (tl.map tD)]⟩ := by
    intro j k4 hk4 j0 j1 j2
    have H := for_inv (g := FL.gName 7) (b := (sSeq (sAsg (mFT (mCa oSorted (mCons (mFT (mLst (mCons (mOp oIx (mVar 4) (mOp oIx (mVar 5) (mOp oMulA (mC (.int 2)) (mVar 7)))) (mCons (mOp oIx (mVar 4) (mOp oIx (mVar 5) (mOp oAddA (mOp oMulA (mC (.int 2)) (mVar 7)) (mC (.int 1))))) mNil)))) mNil))) (gSeq 2 (gCons (FL.gName 8) (gCons (FL.gName 9) gNil))))
  (sExp (mBM "list" rApp (mVar 3) (mCons (mTup (mCons (mVar 8) (mCons (mVar 9) mNil))) mNil)))))
      (ρ := ⟨[some (.o 0), some (.d (.int n)), some (.d (.tuple (ns.map .int))), some (.o 2), some (.d (.list (spots ns))), some (.d (.tuple p)), some (.d (.int w)), none, none, none], [deckK k4, cellsO k4.c, lstB []]⟩)
      (fun pre ρ => ∃ (tl : List Tc) (a b c : Option PyData), TT sp pre.length tl ∧ ρ = ⟨[some (.o 0), some (.d (.int n)), some (.d (.tuple (ns.map .int))), some (.o 2), some (.d (.list (spots ns))), some (.d (.tuple p)), some (.d (.int w)), a.map .d, b.map .d, c.map .d], [deckK k4, cellsO k4.c, lstB (tl.map tD)]⟩)
      (xs := rng 0 j.toNat) ⟨[], none, none, none, tt_nil sp, rfl⟩ (by
        rintro pre x post _ hx ⟨tl, a, b, c, ht, rfl⟩
        have hlen := congrArg List.length hx
        rw [rng_len] at hlen
        simp at hlen
        obtain rfl : x = .int (pre.length : Nat) := by
          have : (rng 0 j.toNat)[pre.length]? = some x := by rw [hx]; simp
          obtain ⟨_, rfl⟩ := rng_get this
          rw [Int.zero_add]
        obtain ⟨⟨t, a1, b1, ⟨q1, ha1, ha2⟩, ⟨q2, hb1, hb2⟩, so, st, lt⟩, ht'⟩ := two_of ho (i := pre.length) (by omega) ht
        have W : Wf ⟨[some (.o 0), some (.d (.int n)), some (.d (.tuple (ns.map .int))), some (.o 2), some (.d (.list (spots ns))), some (.d (.tuple p)), some (.d (.int w)), some (.d (.int (pre.length : Nat))), b.map .d, c.map .d], [deckK k4, cellsO k4.c, lstB (tl.map tD)]⟩ := wfK (by cases b <;> cases c <;> rfl) (by simp)
        have mulA : ∀ (i : Int) (ρ : S), oMulA (.d (.int 2)) (.d (.int i)) ρ = .ok (.d (.int (2 * i))) ρ := fun i ρ => by rw [oMulA_i, if_pos (cmul_l (by decide))]
        have eL := ftLst W (m := mCons (mOp oIx (mVar 4) (mOp oIx (mVar 5) (mOp oMulA (mC (.int 2)) (mVar 7)))) (mCons (mOp oIx (mVar 4) (mOp oIx (mVar 5) (mOp oAddA (mOp oMulA (mC (.int 2)) (mVar 7)) (mC (.int 1))))) mNil)) (xs := [a1, b1]) (by simp [mulA, ha1, ha2, hb1, hb2]) (by simp)
        have eS := ftSorted W (m := mCons (mFT (mLst (mCons (mOp oIx (mVar 4) (mOp oIx (mVar 5) (mOp oMulA (mC (.int 2)) (mVar 7)))) (mCons (mOp oIx (mVar 4) (mOp oIx (mVar 5) (mOp oAddA (mOp oMulA (mC (.int 2)) (mVar 7)) (mC (.int 1))))) mNil)))) mNil) (x := .d (.list [a1, b1])) (xs := [a1, b1]) (by simp [eL]) rfl so
        rw [st] at eS
        have ea := app_of (ρ := ⟨[some (.o 0), some (.d (.int n)), some (.d (.tuple (ns.map .int))), some (.o 2), some (.d (.list (spots ns))), some (.d (.tuple p)), some (.d (.int w)), some (.d (.int (pre.length : Nat))), some (.d (plP (p1 t))), some (.d (plP (p2 t)))], [deckK k4, cellsO k4.c, lstB (tl.map tD)]⟩) (k := 2) (l := tl.map tD) (x := tD t) rfl (by rw [List.length_map, ht.len]; omega)
        refine ⟨⟨[some (.o 0), some (.d (.int n)), some (.d (.tuple (ns.map .int))), some (.o 2), some (.d (.list (spots ns))), some (.d (.tuple p)), some (.d (.int w)), some (.d (.int (pre.length : Nat))), some (.d (plP (p1 t))), some (.d (plP (p2 t)))], [deckK k4, cellsO k4.c, lstB ((tl ++ [t]).map tD)]⟩, ?_, tl ++ [t], some _, some _, some _, by simpa using ht', rfl⟩
        rw [tD_eq] at ea
        simp at ea
        simp [eS, sizeL, ea, tD_eq])
    obtain ⟨ρ2, e, tl, a, b, c, ht, rfl⟩ := H
    rw [rng_len] at ht
    exact ⟨k4, tl, a, b, c, hk4, ht, e⟩
  have l2 : Nat.log2 2 < 9000 := by decide +kernel
  have hm : ∃ M : Int, (if ((spots ns).length : Int) / 2 < 20 then ((spots ns).length : Int) / 2 else 20) = M ∧ 0 ≤ M ∧ M ≤ 20 ∧ 2 * M ≤ (spots ns).length := by
    refine ⟨_, rfl, ?_⟩
    split <;> omega
  obtain ⟨M, eM, M0, M1, M2⟩ := hm
  have es' : ∀ ρ : S, rvR (ML.m_law_spots_91d2 (.tuple (ns.map .int))) ρ = .ok (.d (.list (spots ns))) ρ := fun ρ => by rw [es]; rfl
  have fin : ∀ (j : Int) (k4 : Dk), Gd k4 → 0 ≤ j → j ≤ 20 → 2 * j ≤ (spots ns).length →
      ((mIfE (mB (mOp oGt (mVar 6) (mC (.int 0)))) (mCallD (curD1 dr) (mCons (mVar 0) (mCons (mOp oAddA (mCa oMin (mCons (mC (.int 20)) (mCons (mOp oDivW (mCa oLen (mCons (mVar 4) mNil)) (mC (.int 2))) mNil))) (mC (.int 1))) mNil))) (mCa oMin (mCons (mC (.int 20)) (mCons (mOp oDivW (mCa oLen (mCons (mVar 4) mNil)) (mC (.int 2))) mNil)))) ⟨[some (.o 0), some (.d (.int n)), some (.d (.tuple (ns.map .int))), some (.o 2), some (.d (.list (spots ns))), some (.d (.tuple p)), some (.d (.int w)), none, none, none], [deckK k3, cellsO k3.c, lstB []]⟩) = .ok (.d (.int j)) ⟨[some (.o 0), some (.d (.int n)), some (.d (.tuple (ns.map .int))), some (.o 2), some (.d (.list (spots ns))), some (.d (.tuple p)), some (.d (.int w)), none, none, none], [deckK k4, cellsO k4.c, lstB []]⟩ →
      ∃ (ns : List Int) (tl : List Tc) (k' : Dk), endD (ML.b_law_floor_532c dr ⟨[some (.o 0), some (.d (.int n)), none, none, none, none, none, none, none, none], [deckK k, cellsO k.c]⟩) = .ok (flD ns tl, k') ∧ VF ns tl ∧ ns.sum ≤ n ∧ Gd k' := by
    intro j k4 hk4 j0 j1 j2 he
    obtain ⟨k', tl, a, b, c, hk', ht, eF⟩ := H j k4 hk4 j0 j1 j2
    obtain ⟨tl', est, hv⟩ := ht.vf ho hr (by omega)
    have hR : RgB j := by unfold RgB; omega
    have W : Wf ⟨[some (.o 0), some (.d (.int n)), some (.d (.tuple (ns.map .int))), some (.o 2), some (.d (.list (spots ns))), some (.d (.tuple p)), some (.d (.int w)), a.map .d, b.map .d, c.map .d], [deckK k', cellsO k'.c, lstB (tl.map tD)]⟩ := wfK (by cases a <;> cases b <;> cases c <;> rfl) (by simp)
    have eS := ftSorted W (m := mCons (mVar 3) mNil) (x := .o 2) (xs := tl.map tD) (by simp) (lstOf_o rfl) (sorts_tc tl)
    rw [est] at eS
    refine ⟨ns, tl', k', ?_, hv, hsum, hk'⟩
    unfold ML.b_law_floor_532c
    have hz : ((spots ns).length : Int) ≤ 1000 := by omega
    simp -implicitDefEqProofs [-mIfE_ap, e1, es', e2, e3, he, hR, eF, eS, sizeL, flD]
  by_cases hw : (0 : Int) < w
  · obtain ⟨r, k4, e4, r0, r1, hk4⟩ := hd k3 (M + 1) hk3 (by omega) (by omega)
    exact fin r k4 hk4 r0 (by omega) (by omega) (by simp [hw, l2, eM, e4])
  · exact fin M k3 hk3 M0 M1 M2 (by simp [hw, l2, eM])
end Mt
end

section
set_option Elab.async false
set_option linter.all false
set_option maxRecDepth 100000
set_option maxHeartbeats 1000000
set_option autoImplicit false
namespace Mt
open PySem PySem.Spec PyProof.Rows L2 DL FL
local instance : Tab0 := ⟨[]⟩
theorem obK_end {sl : List (Option DV)} {a b x : OB} {G : List OB} : obK ⟨sl, a :: b :: (G ++ [x])⟩ (G.length + 2) = x := by
  unfold obK
  simp
theorem set_end {a b x y : OB} {G : List OB} : (a :: b :: (G ++ [x])).set (G.length + 2) y = a :: b :: (G ++ [y]) := by
  simp
theorem tyB_end {sl : List (Option DV)} {a b : OB} {l : List PyData} {G : List OB} : tyB "list" ⟨sl, a :: b :: (G ++ [lstB l])⟩ (.o (G.length + 2)) = true := tyB_l obK_end
theorem app_end {sl : List (Option DV)} {a b : OB} {l : List PyData} {x : PyData} {G : List OB} (hl : l.length ≤ 100000) : rApp (.o (G.length + 2)) [.d x] ⟨sl, a :: b :: (G ++ [lstB l])⟩ = some (.d .none, ⟨sl, a :: b :: (G ++ [lstB (l ++ [x])])⟩) := by
  rw [app_of obK_end hl, set_end]
section
variable {dr : Dk → PyData → RV (PyData × Dk)}
theorem wide_loop {ns : List Int} {p : List PyData} {sp : List (Int × Int)} (ho : Ord ns p sp) {k : Dk} {j : Int} (j0 : 0 ≤ j) (j1 : j ≤ 20) (j2 : 2 * j ≤ (spots ns).length) (G : List OB) (hG : G.all (belB (G.length + 3)) = true) (s1 s2 : Int) (s3 s4 : Option PyData) :
    ∃ (tl : List Tc) (a : Option PyData), TT sp j.toNat tl ∧ forGo (FL.gName 3) (sExp (mBM "list" rApp (mVar 7) (mCons (mCa oTuple (mCons (mFT (mCa oSorted (mCons (mFT (mLst (mCons (mOp oIx (mVar 5) (mOp oIx (mVar 6) (mOp oMulA (mC (.int 2)) (mVar 3)))) (mCons (mOp oIx (mVar 5) (mOp oIx (mVar 6) (mOp oAddA (mOp oMulA (mC (.int 2)) (mVar 3)) (mC (.int 1))))) mNil)))) mNil))) mNil)) mNil))) (rng 0 j.toNat)
      ⟨[some (.o 0), some (.d (.list (ns.map .int))), some (.d (.int s2)), s3.map .d, s4.map .d, some (.d (.list (spots ns))), some (.d (.tuple p)), some (.o (G.length + 2))], deckK k :: cellsO k.c :: (G ++ [lstB []])⟩ =
      .ok .nx ⟨[some (.o 0), some (.d (.list (ns.map .int))), some (.d (.int s2)), a.map .d, s4.map .d, some (.d (.list (spots ns))), some (.d (.tuple p)), some (.o (G.length + 2))], deckK k :: cellsO k.c :: (G ++ [lstB (tl.map tD)])⟩ := by
  have hsp := ho.len
  have H := for_inv (g := FL.gName 3) (b := sExp (mBM "list" rApp (mVar 7) (mCons (mCa oTuple (mCons (mFT (mCa oSorted (mCons (mFT (mLst (mCons (mOp oIx (mVar 5) (mOp oIx (mVar 6) (mOp oMulA (mC (.int 2)) (mVar 3)))) (mCons (mOp oIx (mVar 5) (mOp oIx (mVar 6) (mOp oAddA (mOp oMulA (mC (.int 2)) (mVar 3)) (mC (.int 1))))) mNil)))) mNil))) mNil)) mNil)))
    (ρ := ⟨[some (.o 0), some (.d (.list (ns.map .int))), some (.d (.int s2)), s3.map .d, s4.map .d, some (.d (.list (spots ns))), some (.d (.tuple p)), some (.o (G.length + 2))], deckK k :: cellsO k.c :: (G ++ [lstB []])⟩)
    (fun pre ρ => ∃ (tl : List Tc) (a : Option PyData), TT sp pre.length tl ∧ ρ = ⟨[some (.o 0), some (.d (.list (ns.map .int))), some (.d (.int s2)), a.map .d, s4.map .d, some (.d (.list (spots ns))), some (.d (.tuple p)), some (.o (G.length + 2))], deckK k :: cellsO k.c :: (G ++ [lstB (tl.map tD)])⟩)
    (xs := rng 0 j.toNat) ⟨[], s3, tt_nil sp, rfl⟩ (by
      rintro pre x post _ hx ⟨tl, a, ht, rfl⟩
      have hlen := congrArg List.length hx
      rw [rng_len] at hlen
      simp at hlen
      obtain rfl : x = .int (pre.length : Nat) := by
        have : (rng 0 j.toNat)[pre.length]? = some x := by rw [hx]; simp
        obtain ⟨_, rfl⟩ := rng_get this
        rw [Int.zero_add]
      obtain ⟨⟨t, a1, b1, ⟨q1, ha1, ha2⟩, ⟨q2, hb1, hb2⟩, so, st, lt⟩, ht'⟩ := two_of ho (i := pre.length) (by omega) ht
      have W : Wf ⟨[some (.o 0), some (.d (.list (ns.map .int))), some (.d (.int s2)), some (.d (.int (pre.length : Nat))), s4.map .d, some (.d (.list (spots ns))), some (.d (.tuple p)), some (.o (G.length + 2))], deckK k :: cellsO k.c :: (G ++ [lstB (tl.map tD)])⟩ := wfK (by
        have h0 : belO ((G ++ [lstB (tl.map tD)]).length + 2) (some (.o 0)) = true := by show decide (0 < (G ++ [lstB (tl.map tD)]).length + 2) = true; simp
        have h2 : belO ((G ++ [lstB (tl.map tD)]).length + 2) (some (.o (G.length + 2))) = true := by show decide (G.length + 2 < (G ++ [lstB (tl.map tD)]).length + 2) = true; simp
        have hd : ∀ (n : Nat) (x : PyData), belO n (some (.d x)) = true := fun _ _ => rfl
        cases s4 with
        | none =>
          simp only [List.all_cons, List.all_nil, h0, h2, hd, Option.map_none, Bool.true_and, Bool.and_true]
          rfl
        | some z => simp only [List.all_cons, List.all_nil, h0, h2, hd, Option.map_some, Bool.true_and, Bool.and_true]) (by simpa using hG)
      have mulA : ∀ (i : Int) (ρ : S), oMulA (.d (.int 2)) (.d (.int i)) ρ = .ok (.d (.int (2 * i))) ρ := fun i ρ => by rw [oMulA_i, if_pos (cmul_l (by decide))]
      have eL := ftLst W (m := mCons (mOp oIx (mVar 5) (mOp oIx (mVar 6) (mOp oMulA (mC (.int 2)) (mVar 3)))) (mCons (mOp oIx (mVar 5) (mOp oIx (mVar 6) (mOp oAddA (mOp oMulA (mC (.int 2)) (mVar 3)) (mC (.int 1))))) mNil)) (xs := [a1, b1]) (by simp [mulA, ha1, ha2, hb1, hb2]) (by simp)
      have eS := ftSorted W (m := mCons (mFT (mLst (mCons (mOp oIx (mVar 5) (mOp oIx (mVar 6) (mOp oMulA (mC (.int 2)) (mVar 3)))) (mCons (mOp oIx (mVar 5) (mOp oIx (mVar 6) (mOp oAddA (mOp oMulA (mC (.int 2)) (mVar 3)) (mC (.int 1))))) mNil)))) mNil) (x := .d (.list [a1, b1])) (xs := [a1, b1]) (by simp [eL]) rfl so
      rw [st] at eS
      have ea := app_end (sl := [some (.o 0), some (.d (.list (ns.map .int))), some (.d (.int s2)), some (.d (.int (pre.length : Nat))), s4.map .d, some (.d (.list (spots ns))), some (.d (.tuple p)), some (.o (G.length + 2))]) (a := deckK k) (b := cellsO k.c) (l := tl.map tD) (x := tD t) (G := G) (by rw [List.length_map, ht.len]; omega)
      rw [tD_eq] at ea
      refine ⟨⟨[some (.o 0), some (.d (.list (ns.map .int))), some (.d (.int s2)), some (.d (.int (pre.length : Nat))), s4.map .d, some (.d (.list (spots ns))), some (.d (.tuple p)), some (.o (G.length + 2))], deckK k :: cellsO k.c :: (G ++ [lstB ((tl ++ [t]).map tD)])⟩, ?_, tl ++ [t], some _, by simpa using ht', rfl⟩
      simp [-obK_ty, eS, ea, tyB_end, tD_eq])
  obtain ⟨ρ2, e, tl, a, ht, rfl⟩ := H
  rw [rng_len] at ht
  exact ⟨tl, a, ht, e⟩
end
end Mt
end

section
set_option Elab.async false
set_option linter.all false
set_option maxRecDepth 100000
set_option maxHeartbeats 1000000
set_option autoImplicit false
namespace Mt
open PySem PySem.Spec PyProof.Rows L2 DL FL
local instance : Tab0 := ⟨[]⟩
section
variable {dr : Dk → PyData → RV (PyData × Dk)}
theorem wide_rings (hd : DrOk dr) {k : Dk} (hk : Gd k) {j : Int} (j0 : 0 ≤ j) (j1 : j ≤ 12) : ∃ (f : List Int) (k' : Dk) (a b : Option PyData), Gd k' ∧ (∀ l ∈ f, 1 ≤ l) ∧ 0 ≤ 40 - f.sum ∧ f.length ≤ 12 ∧
    forGo (FL.gName 3) (sSeq (sAsg (mOp oAddA (mC (.int 1)) (mCallD (curD1 dr) (mCons (mVar 0) (mCons (mCallD (curD1 (ML.m_law_pick_0769 dr)) (mCons (mVar 0) (mCons (mTup (mCons (mC (.int 3)) (mCons (mC (.int 8)) (mCons (mC (.int 20)) mNil)))) mNil))) mNil)))) (FL.gName 4))
  (sIf (mB (mOp oLe (mVar 4) (mVar 2))) (sSeq (sExp (mBM "list" rApp (mVar 1) (mCons (mVar 4) mNil)))
  (sAsg (mOp oSub (mVar 2) (mVar 4)) (FL.gName 2))) sNext)) (rng 0 j.toNat) ⟨[some (.o 0), some (.o 2), some (.d (.int 40)), none, none, none, none, none], [deckK k, cellsO k.c, lstB []]⟩ =
    .ok .nx ⟨[some (.o 0), some (.o 2), some (.d (.int (40 - f.sum))), a.map .d, b.map .d, none, none, none], [deckK k', cellsO k'.c, lstB (f.map .int)]⟩ := by
  have H := for_inv (g := FL.gName 3) (b := (sSeq (sAsg (mOp oAddA (mC (.int 1)) (mCallD (curD1 dr) (mCons (mVar 0) (mCons (mCallD (curD1 (ML.m_law_pick_0769 dr)) (mCons (mVar 0) (mCons (mTup (mCons (mC (.int 3)) (mCons (mC (.int 8)) (mCons (mC (.int 20)) mNil)))) mNil))) mNil)))) (FL.gName 4))
  (sIf (mB (mOp oLe (mVar 4) (mVar 2))) (sSeq (sExp (mBM "list" rApp (mVar 1) (mCons (mVar 4) mNil)))
  (sAsg (mOp oSub (mVar 2) (mVar 4)) (FL.gName 2))) sNext)))
    (ρ := ⟨[some (.o 0), some (.o 2), some (.d (.int 40)), none, none, none, none, none], [deckK k, cellsO k.c, lstB []]⟩)
    (fun pre ρ => ∃ (k' : Dk) (f : List Int) (a b : Option PyData), Gd k' ∧ ρ = ⟨[some (.o 0), some (.o 2), some (.d (.int (40 - f.sum))), a.map .d, b.map .d, none, none, none], [deckK k', cellsO k'.c, lstB (f.map .int)]⟩ ∧ (∀ l ∈ f, 1 ≤ l) ∧ 0 ≤ 40 - f.sum ∧ f.length ≤ pre.length)
    (xs := rng 0 j.toNat) ⟨k, [], none, none, hk, by simp, by simp, by simp, by simp⟩ (by
      rintro pre x post _ hx ⟨k2, f, a, b, hk2, rfl, hp, h0, hf⟩
      have hlen := congrArg List.length hx
      rw [rng_len] at hlen
      simp at hlen
      obtain ⟨q, k3, e3, hq1, hq2, hk3⟩ := pickB hd hk2 (b := 20) (xs := [.int 3, .int 8, .int 20]) (by simp) (by simp) (.inl rfl) (by decide)
      obtain ⟨r, k4, e4, hr1, hr2, hk4⟩ := hd k3 q hk3 (by omega) (by omega)
      by_cases hc : 1 + r ≤ 40 - f.sum
      · have ea := app_of (ρ := ⟨[some (.o 0), some (.o 2), some (.d (.int (40 - f.sum))), some (.d x), some (.d (.int (1 + r))), none, none, none], [deckK k4, cellsO k4.c, lstB (f.map .int)]⟩) (k := 2) (l := f.map .int) (x := .int (1 + r)) rfl (by rw [List.length_map]; omega)
        simp at ea
        refine ⟨⟨[some (.o 0), some (.o 2), some (.d (.int (40 - (f ++ [1 + r]).sum))), some (.d x), some (.d (.int (1 + r))), none, none, none], [deckK k4, cellsO k4.c, lstB ((f ++ [1 + r]).map .int)]⟩, ?_, k4, f ++ [1 + r], some x, some (.int (1 + r)), hk4, rfl, ?_, ?_, ?_⟩
        · simp [sizeL, e3, e4, hc, ea]
          omega
        · intro l hl
          rcases List.mem_append.mp hl with hl | hl
          · exact hp l hl
          · rw [List.mem_singleton.mp hl]
            omega
        · simp
          omega
        · simp [hf]
      · refine ⟨⟨[some (.o 0), some (.o 2), some (.d (.int (40 - f.sum))), some (.d x), some (.d (.int (1 + r))), none, none, none], [deckK k4, cellsO k4.c, lstB (f.map .int)]⟩, ?_, k4, f, some x, some (.int (1 + r)), hk4, rfl, hp, h0, by simp; omega⟩
        simp [sizeL, e3, e4, hc])
  obtain ⟨ρ2, e, k', f, a, b, hk', rfl, hp, h0, hf⟩ := H
  rw [rng_len] at hf
  exact ⟨f, k', a, b, hk', hp, h0, by omega, e⟩
def wEnd (dr : Dk → PyData → RV (PyData × Dk)) : M FL.Flow := (sSeq (sPar 6 7 (mCons (mCallD (curD1 (ML.m_law_order_0df0 dr)) (mCons (mVar 0) (mCons (mCa oLen (mCons (mVar 5) mNil)) mNil))) (mCons (mLst mNil) mNil)))
  (sSeq (sFor (iR1 (mCons (mCallD (curD1 dr) (mCons (mVar 0) (mCons (mOp oAddA (mCa oMin (mCons (mC (.int 20)) (mCons (mOp oDivW (mCa oLen (mCons (mVar 5) mNil)) (mC (.int 2))) mNil))) (mC (.int 1))) mNil))) mNil)) (FL.gName 3) (sExp (mBM "list" rApp (mVar 7) (mCons (mCa oTuple (mCons (mFT (mCa oSorted (mCons (mFT (mLst (mCons (mOp oIx (mVar 5) (mOp oIx (mVar 6) (mOp oMulA (mC (.int 2)) (mVar 3)))) (mCons (mOp oIx (mVar 5) (mOp oIx (mVar 6) (mOp oAddA (mOp oMulA (mC (.int 2)) (mVar 3)) (mC (.int 1))))) mNil)))) mNil))) mNil)) mNil))))
  (sRet (mTup (mCons (mCa oTuple (mCons (mVar 1) mNil)) (mCons (mCa oTuple (mCons (mFT (mCa oSorted (mCons (mVar 7) mNil))) mNil)) mNil))))))
/-- from the rings on -/
theorem wide_end (hd : DrOk dr) {ns : List Int} (hr : RG ns) {k : Dk} (hk : Gd k) (G : List OB) (hG : G.all (belB (G.length + 3)) = true) (s2 : Int) (s3 s4 : Option PyData) :
    ∃ (tl : List Tc) (k' : Dk), endD (wEnd dr ⟨[some (.o 0), some (.d (.list (ns.map .int))), some (.d (.int s2)), s3.map .d, s4.map .d, some (.d (.list (spots ns))), none, none], deckK k :: cellsO k.c :: G⟩) = .ok (flD ns tl, k') ∧ VF ns tl ∧ Gd k' := by
  have hN : (spots ns).length ≤ 1000 := hr.small.2.1
  obtain ⟨p, k2, e2, hp, hk2⟩ := order hd hk (n := (spots ns).length) (by omega) (by omega)
  rw [Int.toNat_natCast] at hp
  obtain ⟨sp, ho⟩ := ord_of hp
  have l2 : Nat.log2 2 < 9000 := by decide +kernel
  have hm : ∃ M : Int, (if ((spots ns).length : Int) / 2 < 20 then ((spots ns).length : Int) / 2 else 20) = M ∧ 0 ≤ M ∧ M ≤ 20 ∧ 2 * M ≤ (spots ns).length := by
    refine ⟨_, rfl, ?_⟩
    split <;> omega
  obtain ⟨M, eM, M0, M1, M2⟩ := hm
  obtain ⟨j, k3, e3, j0, j1, hk3⟩ := hd k2 (M + 1) hk2 (by omega) (by omega)
  obtain ⟨tl, a, ht, eF⟩ := wide_loop ho (k := k3) j0 (by omega : j ≤ 20) (by omega) G hG 0 s2 s3 s4
  obtain ⟨tl', est, hv⟩ := ht.vf ho hr (by omega)
  have hR : RgB j := by unfold RgB; omega
  have W : Wf ⟨[some (.o 0), some (.d (.list (ns.map .int))), some (.d (.int s2)), a.map .d, s4.map .d, some (.d (.list (spots ns))), some (.d (.tuple p)), some (.o (G.length + 2))], deckK k3 :: cellsO k3.c :: (G ++ [lstB (tl.map tD)])⟩ := wfK (by
    have h0 : belO ((G ++ [lstB (tl.map tD)]).length + 2) (some (.o 0)) = true := by show decide (0 < (G ++ [lstB (tl.map tD)]).length + 2) = true; simp
    have h2 : belO ((G ++ [lstB (tl.map tD)]).length + 2) (some (.o (G.length + 2))) = true := by show decide (G.length + 2 < (G ++ [lstB (tl.map tD)]).length + 2) = true; simp
    have hd : ∀ (n : Nat) (x : Option PyData), belO n (x.map .d) = true := fun _ x => by cases x <;> rfl
    have hd' : ∀ (n : Nat) (x : PyData), belO n (some (.d x)) = true := fun _ _ => rfl
    simp only [List.all_cons, List.all_nil, h0, h2, hd, hd', Bool.true_and, Bool.and_true]) (by simpa using hG)
  have eS := ftSorted W (m := mCons (mVar 7) mNil) (x := .o (G.length + 2)) (xs := tl.map tD) (by simp) (lstOf_o obK_end) (sorts_tc tl)
  rw [est] at eS
  refine ⟨tl', k3, ?_, hv, hk3⟩
  unfold wEnd
  simp -implicitDefEqProofs [e2, e3, l2, eM, hR, eF, eS, sizeL, flD]
theorem wide_floor (hd : DrOk dr) {k : Dk} (hk : Gd k) : ∃ (ns : List Int) (tl : List Tc) (k' : Dk), ML.m_law_wide_floor_42ef dr k = .ok (flD ns tl, k') ∧ VF ns tl ∧ Gd k' := by
  unfold ML.m_law_wide_floor_42ef
  rw [runD_eq]
  obtain ⟨j, k1, e1, j0, j1, hk1⟩ := hd k 12 hk (by omega) (by omega)
  obtain ⟨f, k2, a, b, hk2, hp, h0, hf, eL⟩ := wide_rings hd hk1 (j := 1 + j) (by omega) (by omega)
  have hR : RgB (1 + j) := by unfold RgB; omega
  have eN := ftNil (ρ := ⟨[some (.o 0), some (.o 2), some (.d (.int (40 - f.sum))), a.map .d, b.map .d, none, none, none], [deckK k2, cellsO k2.c, lstB (f.map .int)]⟩) (wfK (by cases a <;> cases b <;> rfl) (by simp))
  have eC := eqNil (l2 := []) (ρ := ⟨[some (.o 0), some (.o 2), some (.d (.int (40 - f.sum))), a.map .d, b.map .d, none, none, none], [deckK k2, cellsO k2.c, lstB (f.map .int)]⟩) (k := 2) (l := f.map .int) rfl (eqs_ints f)
  have eb : ML.b_law_wide_floor_42ef dr = (sSeq (sPar 1 2 (mCons (mLst mNil) (mCons (mC (.int 40)) mNil)))
    (sSeq (sFor (iR1 (mCons (mOp oAddA (mC (.int 1)) (mCallD (curD1 dr) (mCons (mVar 0) (mCons (mC (.int 12)) mNil)))) mNil)) (FL.gName 3) (sSeq (sAsg (mOp oAddA (mC (.int 1)) (mCallD (curD1 dr) (mCons (mVar 0) (mCons (mCallD (curD1 (ML.m_law_pick_0769 dr)) (mCons (mVar 0) (mCons (mTup (mCons (mC (.int 3)) (mCons (mC (.int 8)) (mCons (mC (.int 20)) mNil)))) mNil))) mNil)))) (FL.gName 4))
    (sIf (mB (mOp oLe (mVar 4) (mVar 2))) (sSeq (sExp (mBM "list" rApp (mVar 1) (mCons (mVar 4) mNil)))
    (sAsg (mOp oSub (mVar 2) (mVar 4)) (FL.gName 2))) sNext)))
    (sSeq (sIf (mB (mOp oEqA (mVar 1) (mFT (mLst mNil)))) (sAsg (mLst (mCons (mC (.int 7)) mNil)) (FL.gName 1)) sNext)
    (sSeq (sAsg (mCall (cur1 ML.m_law_spots_91d2) (mCons (mFrz (mVar 1)) mNil)) (FL.gName 5)) (wEnd dr))))) := rfl
  rw [eb]
  have hrn : ∀ (q : Nat) (x : PyData) (o : Option PyData), ren q x (o.map .d) = o.map .d := fun q x o => by cases o <;> rfl
  cases f with
  | nil =>
    have hr : RG [7] := ⟨by simp, by simp, by simp⟩
    have es := law_spots hr.small (.inr rfl)
    have ez := frzO (ρ := ⟨[some (.o 0), some (.o 3), some (.d (.int (40 - ([] : List Int).sum))), a.map .d, b.map .d, none, none, none], [deckK k2, cellsO k2.c, lstB [], lstB [.int 7]]⟩) (k := 3) (l := [.int 7]) rfl
    obtain ⟨tl, k', ee, hv, hk'⟩ := wide_end hd hr hk2 [lstB [], .gone] (by simp) (40 - ([] : List Int).sum) a b
    refine ⟨[7], tl, k', ?_, hv, hk'⟩
    rw [← ee]
    have es' : ∀ ρ : S, rvR (ML.m_law_spots_91d2 (.list [.int 7])) ρ = .ok (.d (.list (spots [7]))) ρ := fun ρ => by rw [show [PyData.int 7] = [7].map .int from rfl, es]; rfl
    have h30 : ren 3 (.list [.int 7]) (some (.o 0)) = some (.o 0) := rfl
    have h33 : ren 3 (.list [.int 7]) (some (.o 3)) = some (.d (.list [.int 7])) := rfl
    have h3n : ren 3 (.list [.int 7]) none = none := rfl
    have h3d : ∀ x, ren 3 (.list [.int 7]) (some (.d x)) = some (.d x) := fun _ => rfl
    have e7 : lstB [.int 7] = OB.lst [.d (.int 7)] := rfl
    simp [hrn, h30, h33, h3n, h3d] at eL eN eC ez
    simp -implicitDefEqProofs [e1, hR, eL, eN, eC, sizeL, ← e7, ez, es']
  | cons l r =>
    have hr : RG (l :: r) := ⟨by simp, hp, by omega⟩
    have es := law_spots hr.small (.inr rfl)
    have ez := frzO (ρ := ⟨[some (.o 0), some (.o 2), some (.d (.int (40 - (l :: r).sum))), a.map .d, b.map .d, none, none, none], [deckK k2, cellsO k2.c, lstB ((l :: r).map .int)]⟩) (k := 2) (l := (l :: r).map .int) rfl
    obtain ⟨tl, k', ee, hv, hk'⟩ := wide_end hd hr hk2 [.gone] (by simp) (40 - (l :: r).sum) a b
    refine ⟨l :: r, tl, k', ?_, hv, hk'⟩
    rw [← ee]
    have es' : ∀ ρ : S, rvR (ML.m_law_spots_91d2 (.list (.int l :: r.map .int))) ρ = .ok (.d (.list (spots (l :: r)))) ρ := fun ρ => by rw [show PyData.int l :: r.map .int = (l :: r).map .int from rfl, es]; rfl
    have h30 : ren 2 (.list (.int l :: r.map .int)) (some (.o 0)) = some (.o 0) := rfl
    have h33 : ren 2 (.list (.int l :: r.map .int)) (some (.o 2)) = some (.d (.list (.int l :: r.map .int))) := rfl
    have h3n : ren 2 (.list (.int l :: r.map .int)) none = none := rfl
    have h3d : ∀ x, ren 2 (.list (.int l :: r.map .int)) (some (.d x)) = some (.d x) := fun _ => rfl
    simp [hrn, h30, h33, h3n, h3d] at eL eN eC ez
    simp -implicitDefEqProofs [e1, hR, eL, eN, eC, sizeL, ez, es']
end
end Mt
end

section
set_option Elab.async false
set_option linter.all false
set_option maxRecDepth 100000
set_option maxHeartbeats 1000000
set_option autoImplicit false
namespace Mt
open PySem PySem.Spec PyProof.Rows L2 DL
local instance : Tab0 := ⟨[]⟩
structure Pc (ns : List Int) (n : Nat) (i : Int) (L : Int) : Prop where
  at_ : ns[n]? = some L
  i0 : 0 ≤ i
  iL : i < L
  n40 : n < 40
  L40 : L ≤ 40
theorem pc_of {ns : List Int} (h : RG ns) {u i : Int} (hm : (u, i) ∈ spI 0 ns) : ∃ (n : Nat) (L : Int), u = n ∧ Pc ns n i L := by
  obtain ⟨n, h1, h2, l, h3, h4⟩ := mem_spI.mp hm
  have h1 : u = 0 + (n : Int) := h1
  have hn : n < ns.length := (List.getElem?_eq_some_iff.mp h3).1
  obtain ⟨s1, s2⟩ := sum_ge h.pos
  have s3 := h.sum
  have s4 := s2 l (List.mem_of_getElem? h3)
  exact ⟨n, l, by omega, h3, h2, h4, by omega, by omega⟩
theorem Pc.pl {ns : List Int} {n : Nat} {i L : Int} (h : Pc ns n i L) : isPl ns (plD n i) = true := pl_iff.mpr (mem_spI.mpr ⟨n, by simp, h.i0, L, h.at_, h.iL⟩)
theorem Pc.g {ns : List Int} {n : Nat} {i L : Int} (h : Pc ns n i L) : ns.getD ((n : Nat) : Int).toNat 0 = L := by
  rw [Int.toNat_natCast, List.getD_eq_getElem?_getD, h.at_]
  rfl
theorem Pc.mv {ns : List Int} {n : Nat} {i L : Int} (h : Pc ns n i L) (k : Int) : Pc ns n ((i + k) % L) L := by
  have hL : 0 < L := by have := h.i0; have := h.iL; omega
  exact ⟨h.at_, Int.emod_nonneg _ (by omega), Int.emod_lt_of_pos _ hL, h.n40, h.L40⟩
theorem sh_pl {n : Nat} {i : Int} (hn : n < 40) (h0 : 0 ≤ i) (h1 : i ≤ 64) : Sh 16 1 (plD n i) := by
  refine sh_tup (w := 7) (k := 0) (xs := [.int (n : Nat), .int i]) fun x hx => ?_
  rcases List.mem_cons.mp hx with rfl | hx
  · exact sh_int (by omega) (by omega)
  · rw [List.mem_singleton.mp hx]
    exact sh_int h0 h1
theorem Pc.sh {ns : List Int} {n : Nat} {i L : Int} (h : Pc ns n i L) : Sh 16 1 (plD n i) := sh_pl h.n40 h.i0 (by have := h.iL; have := h.L40; omega)
theorem shows_two {a b : PyData} (h1 : Sh 16 1 a) (h2 : Sh 16 1 b) : Shows (.tuple [a, b]) :=
  (sh_tup (xs := [a, b]) fun x hx => by
    rcases List.mem_cons.mp hx with rfl | hx
    · exact h1
    · rw [List.mem_singleton.mp hx]
      exact h2).shows (by show (16 + 1) * 2 ≤ 1000000; decide) (by decide)
theorem seat_at {ns : List Int} (h : RG ns) {n : Nat} {i L at' : Int} (pc : Pc ns n i L) (h0 : 0 ≤ at') (ha : (spI 0 ns)[at'.toNat]? = some ((n : Int), i)) : seatN ns n i = at' ∧ at' ≤ 40 := by
  obtain ⟨e1, e2⟩ := at_spI ns 0 n i L h.pos pc.at_ pc.i0 pc.iL
  rw [Int.zero_add] at e1
  obtain ⟨l1, g1⟩ := List.getElem?_eq_some_iff.mp ha
  obtain ⟨l2, g2⟩ := List.getElem?_eq_some_iff.mp e1
  have := (List.getElem_inj (nd_spI ns 0)).mp (g1.trans g2.symm)
  have hl := len_spI ns 0 h.pos
  have hs := h.sum
  have := pc.i0
  unfold seatN
  rw [Int.toNat_natCast]
  omega
theorem mul_big : CMulW (10 ^ Int.toNat 50) (10 ^ Int.toNat 49) := by
  unfold CMulW
  decide +kernel
theorem tkeys_tab : ∀ l : Tab, tkeys ((l.map fun p => PyData.tuple (p.1.map kP)).zip (l.map (·.2))) = some (l.map (·.1))
  | [] => rfl
  | p :: r => by
    show (match tkey (.tuple (p.1.map kP)), tkeys ((r.map fun p => PyData.tuple (p.1.map kP)).zip (r.map (·.2))) with | some k, some l => some (k :: l) | _, _ => none) = _
    rw [tkey_kP, tkeys_tab r]
    rfl
theorem keys_dt (l : Tab) : keysT (dtD l) = some (l.map (·.1)) := tkeys_tab l
theorem keys_sorted {ns : List Int} {tl : List Tc} (hv : VF ns tl) : srtK ((tl.flatMap sd).map kK) = ((spI 0 ns).filter fun p => (mateI tl p).isSome).map plP := by
  unfold srtK
  have e1 : ((tl.flatMap sd).mergeSort (PySem.W.dataLe false plP)).map kK = ((tl.flatMap sd).map kK).mergeSort (PySem.W.dataLe false tupP) := List.map_mergeSort fun a _ b _ => rfl
  rw [← e1, List.map_map]
  have e2 : (tupP ∘ kK) = plP := rfl
  rw [e2]
  congr 1
  have pm := List.mergeSort_perm (tl.flatMap sd) (PySem.W.dataLe false plP)
  have pw := List.pairwise_mergeSort (le_trans' plP) (le_total' plP) (tl.flatMap sd)
  have nd : ((tl.flatMap sd).mergeSort (PySem.W.dataLe false plP)).Nodup := pm.nodup_iff.mpr hv.nd
  have p1' : ((tl.flatMap sd).mergeSort (PySem.W.dataLe false plP)).Pairwise ltI := (pw.and nd).imp fun {a b} ⟨h1, h2⟩ => by
    have h1 : (!PySem.W.dataLt (plP b) (plP a)) = true := h1
    rw [lt_pl] at h1
    refine (ltI_tri h2).resolve_right fun z => ?_
    rw [decide_eq_true z] at h1
    cases h1
  have p2' : ((spI 0 ns).filter fun p => (mateI tl p).isSome).Pairwise ltI := (asc_spI ns 0).sublist List.filter_sublist
  have nd2 : ((spI 0 ns).filter fun p => (mateI tl p).isSome).Nodup := p2'.imp ltI_ne
  refine List.Perm.eq_of_pairwise (le := ltI) (fun a b _ _ h1 h2 => ?_) p1' p2' ((List.perm_ext_iff_of_nodup nd nd2).mpr fun a => ?_)
  · exfalso
    unfold ltI at h1 h2
    omega
  · rw [pm.mem_iff, List.mem_filter, mate_mem]
    exact ⟨fun h => ⟨hv.mem a h, h⟩, fun h => h.2⟩
theorem canLay_pl : ∀ l : List (Int × Int), PyData.canLayAll0 (l.map plP) = true
  | [] => rfl
  | p :: r => by simp [PyData.canLayAll0, plP, plD, PyData.canLay0, canLay_pl r]
theorem depth_pls : ∀ l : List (Int × Int), PyData.depthAll (l.map plP) ≤ 1
  | [] => Nat.zero_le _
  | p :: r => by
    have := depth_pls r
    have e : (plP p).depth = 1 := by simp [plP, plD, PyData.depth, PyData.depthAll]
    simp only [List.map_cons, PyData.depthAll, e]
    omega
theorem eqs_pls (l : List (Int × Int)) : Eqs (.list (l.map plP)) := by
  refine ⟨by simpa [PyData.hasDict] using noDict_map dict_pl l, ?_⟩
  unfold SeqAt.shaped
  have := depth_pls l
  simp only [PyData.canLay0, canLay_pl l, PyData.depth, Bool.true_and, decide_eq_true_eq]
  exact decide_eq_true (by omega)
theorem eqv_pls (l : List (Int × Int)) : PyData.eqv (.list (l.map plP)) (.list (l.map plP)) = true := by
  refine PySem.W.eqv_refl_alike _ ?_
  have : PySem.W.alikeAll (l.map plP) (l.map plP) = true := by
    induction l with
    | nil => rfl
    | cons p r ih => simp [PySem.W.alikeAll, alike_pl, ih]
  simpa [PySem.W.alike] using this
theorem spots_get {ns : List Int} {k : Nat} {p : Int × Int} (h : (spI 0 ns)[k]? = some p) : (spots ns)[k]? = some (plP p) := by
  rw [spots_eq, List.getElem?_map, h]
  rfl
theorem shows_spots {ns : List Int} (h : RG ns) : Shows (.tuple [.tuple (spots ns), .tuple (spots ns)]) := by
  have hl : (spots ns).length ≤ 40 := by have := h.spl; have := h.sum; omega
  have s1 : Sh 680 2 (.tuple (spots ns)) := (sh_tup (w := 16) (k := 1) (xs := spots ns) fun x hx => by
    rw [spots_eq] at hx
    obtain ⟨⟨u, i⟩, hp, rfl⟩ := List.mem_map.mp hx
    obtain ⟨n, L, rfl, pc⟩ := pc_of h hp
    exact pc.sh).mono (by omega) (by decide)
  exact (sh_tup (xs := [.tuple (spots ns), .tuple (spots ns)]) fun x hx => by
    rcases List.mem_cons.mp hx with rfl | hx
    · exact s1
    · rw [List.mem_singleton.mp hx]
      exact s1).shows (by show (680 + 1) * 2 ≤ 1000000; decide) (by decide)
theorem filter_take {α : Type} (q : α → Bool) {l : List α} {i : Nat} {x : α} (h : l[i]? = some x) : (l.take (i + 1)).filter q = (l.take i).filter q ++ (if q x then [x] else []) := by
  rw [List.take_succ, h, List.filter_append]
  show _ ++ [x].filter q = _
  cases hq : q x <;> simp [hq]
end Mt
end

section
set_option Elab.async false
set_option linter.all false
set_option maxRecDepth 100000
set_option maxHeartbeats 1000000
set_option autoImplicit false
namespace Mt
open PySem PySem.Spec PyProof.Rows L2 DL FL
local instance : Tab0 := ⟨[]⟩
section
variable {ns : List Int} {tl : List Tc} {ρ : S} {dr : Dk → PyData → RV (PyData × Dk)}
theorem dc_par {l : Tab} : isDc ρ (.d (dtD l)) = true := rfl
theorem fl_0 : oIx (.d (flD ns tl)) (.d (.int 0)) ρ = .ok (.d (.tuple (ns.map .int))) ρ := by unfold flD; simp
theorem fl_1 : oIx (.d (flD ns tl)) (.d (.int 1)) ρ = .ok (.d (.tuple (tl.map tD))) ρ := by unfold flD; simp
theorem pl_0 {u i : Int} : oIx (.d (plD u i)) (.d (.int 0)) ρ = .ok (.d (.int u)) ρ := by unfold plD; simp
theorem pl_1 {u i : Int} : oIx (.d (plD u i)) (.d (.int 1)) ρ = .ok (.d (.int i)) ρ := by unfold plD; simp
theorem repr_of {x : PyData} (h : Shows x) : oRepr [.d x] ρ = .ok (.d (.str x.shown)) ρ := by
  unfold oRepr
  rw [cOp_ap]
  show pairK (if shows x = true then some (DV.d (.str x.shown), ρ) else none) = _
  rw [if_pos]
  · rfl
  · obtain ⟨h1, h2, h3, h4⟩ := h
    unfold shows
    simp [h1, h2, h3, h4]
theorem getK_par (u i : Int) : getK1 (.d (dtD (parP tl))) (.d (plD u i)) (.d .none) ρ = .ok (.d (parOf tl u i)) ρ := by
  unfold getK1
  rw [getR_par]
  dsimp only
  rw [getD_map]
  rfl
theorem law_partners (hl : tl.length ≤ 31) : ML.m_law_partners_35b8 (flD ns tl) = .ok (dtD (parP tl)) := by
  rw [← partners (ns := ns) hl]
  rfl
theorem law_behind {n : Nat} {i L : Int} (pc : Pc ns n i L) (k : Int) : ML.m_law_behind_1f8d (flD ns tl) (plD n i) (.int k) = .ok (plD n ((i + k) % L)) := by
  unfold ML.m_law_behind_1f8d ML.b_law_behind_1f8d
  rw [runP_eq]
  have hL : 0 < L := by have := pc.i0; have := pc.iL; omega
  unfold flD plD
  simp [pc.at_, hL, sizeL]
def prA (dr : Dk → PyData → RV (PyData × Dk)) : M FL.Flow := (sAsg (mOp oAddA (mCallD (curD1 (ML.m_law_pick_0769 dr)) (mCons (mVar 0) (mCons (mFT (mLst (mCons (mOp oMulA (mOp oPow (mC (.int 10)) (mC (.int 50))) (mOp oPow (mC (.int 10)) (mC (.int 49)))) (mCons (mOp oPow (mC (.int 10)) (mC (.int 18))) (mCons (mOp oPow (mC (.int 10)) (mC (.int 5))) (mCons (mC (.int 60)) mNil)))))) mNil))) (mCallD (curD1 dr) (mCons (mVar 0) (mCons (mOp oPow (mC (.int 10)) (mC (.int 9))) mNil)))) (FL.gName 9))
def prB (dr : Dk → PyData → RV (PyData × Dk)) : M FL.Flow := (sAsg (mCallD (curD1 (ML.m_law_pick_0769 dr)) (mCons (mVar 0) (mCons (mFT (mLst (mCons (mVar 9) (mCons (mUn oNeg (mVar 9)) (mCons (mOp oSub (mCallD (curD1 dr) (mCons (mVar 0) (mCons (mC (.int 200)) mNil))) (mC (.int 100))) (mCons (mVar 5) (mCons (mUn oNeg (mVar 5)) (mCons (mC (.int 0)) mNil)))))))) mNil))) (FL.gName 8))
theorem pr_eq (dr : Dk → PyData → RV (PyData × Dk)) : ML.b_law_is_place_right_92ff dr = (sSeq (sAsg (mOp oIx (mOp oIx (mVar 1) (mC (.int 0))) (mOp oIx (mVar 2) (mC (.int 0)))) (FL.gName 5))
  (sSeq (sIf (mB (mOp oNeA (mCa oRepr (mCons (mTup (mCons (mCall (cur2 MP.m_seat) (mCons (mVar 1) (mCons (mVar 2) mNil))) (mCons (mCallK [1, 0] (cur2 MP.m_seat) (mCons (mVar 2) (mCons (mVar 1) mNil))) (mCons (mCall (cur2 MP.m_is_place) (mCons (mVar 1) (mCons (mVar 2) mNil))) mNil)))) mNil)) (mCa oRepr (mCons (mTup (mCons (mVar 3) (mCons (mVar 3) (mCons (mC (.bool true)) mNil)))) mNil)))) (sRet (mC (.bool false))) sNext)
  (sSeq (sAsg (mGet2 (mVar 4) (mVar 2) (mC .none)) (FL.gName 6))
  (sSeq (sIf (mB (mOp oNeA (mCa oRepr (mCons (mTup (mCons (mCall (cur2 MP.m_partner) (mCons (mVar 1) (mCons (mVar 2) mNil))) (mCons (mCallK [1, 0] (cur2 MP.m_partner) (mCons (mVar 2) (mCons (mVar 1) mNil))) mNil))) mNil)) (mCa oRepr (mCons (mTup (mCons (mVar 6) (mCons (mVar 6) mNil))) mNil)))) (sRet (mC (.bool false))) sNext)
  (sSeq (sIf (mAndT (mB (mOp oIsNot (mVar 6) (mC .none))) (mB (mOp oNeA (mCa oRepr (mCons (mCall (cur2 MP.m_partner) (mCons (mVar 1) (mCons (mVar 6) mNil))) mNil)) (mCa oRepr (mCons (mVar 2) mNil))))) (sRet (mC (.bool false))) sNext)
  (sSeq (sAsg (mVar 2) (FL.gName 7))
  (sSeq (sFor (iR1 (mCons (mC (.int 4)) mNil)) (FL.gName 8) (sSeq (sIf (mB (mOp oNeA (mCa oRepr (mCons (mTup (mCons (mCall (cur3 MP.m_behind) (mCons (mVar 1) (mCons (mVar 2) (mCons (mVar 8) mNil)))) (mCons (mCall (cur3 MP.m_behind) (mCons (mVar 1) (mCons (mVar 7) (mCons (mUn oNeg (mVar 8)) mNil)))) mNil))) mNil)) (mCa oRepr (mCons (mTup (mCons (mVar 7) (mCons (mVar 2) mNil))) mNil)))) (sRet (mC (.bool false))) sNext)
  (sAsg (mIfE (mB (mOp oLtA (mOp oAddA (mOp oIx (mVar 7) (mC (.int 1))) (mC (.int 1))) (mVar 5))) (mTup (mCons (mOp oIx (mVar 7) (mC (.int 0))) (mCons (mOp oAddA (mOp oIx (mVar 7) (mC (.int 1))) (mC (.int 1))) mNil))) (mTup (mCons (mOp oIx (mVar 7) (mC (.int 0))) (mCons (mC (.int 0)) mNil)))) (FL.gName 7))))
  (sSeq (prA dr)
  (sSeq (prB dr)
  (sSeq (sPar 10 11 (mCons (mCall (cur3 ML.m_law_behind_1f8d) (mCons (mVar 1) (mCons (mVar 2) (mCons (mVar 8) mNil)))) (mCons (mOp oSub (mCallD (curD1 dr) (mCons (mVar 0) (mCons (mC (.int 99)) mNil))) (mC (.int 49))) mNil)))
  (sSeq (sIf (mB (mOp oNeA (mCa oRepr (mCons (mTup (mCons (mCall (cur3 MP.m_behind) (mCons (mVar 1) (mCons (mVar 2) (mCons (mVar 8) mNil)))) (mCons (mCallK [2, 1, 0] (cur3 MP.m_behind) (mCons (mVar 8) (mCons (mVar 2) (mCons (mVar 1) mNil)))) mNil))) mNil)) (mCa oRepr (mCons (mTup (mCons (mVar 10) (mCons (mVar 10) mNil))) mNil)))) (sRet (mC (.bool false))) sNext)
  (sRet (mOp oEqA (mCa oRepr (mCons (mCall (cur3 MP.m_behind) (mCons (mVar 1) (mCons (mVar 10) (mCons (mVar 11) mNil)))) mNil)) (mCa oRepr (mCons (mCall (cur3 MP.m_behind) (mCons (mVar 1) (mCons (mVar 2) (mCons (mCa oInt (mCons (mOp oMod (mOp oAddA (mVar 8) (mVar 11)) (mVar 5)) mNil)) mNil)))) mNil))))))))))))))) := rfl
theorem place_right (hd : DrOk dr) {k : Dk} (hk : Gd k) (hv : VF ns tl) {n : Nat} {i L at' : Int} (pc : Pc ns n i L) (h0 : 0 ≤ at') (ha : (spI 0 ns)[at'.toNat]? = some ((n : Int), i)) :
    ∃ k', ML.m_law_is_place_right_92ff dr k (flD ns tl) (plD n i) (.int at') (dtD (parP tl)) = .ok (.bool true, k') ∧ Gd k' := by
  unfold ML.m_law_is_place_right_92ff
  rw [runD_eq, pr_eq]
  have hf := hv.fl
  have hpl := pc.pl
  obtain ⟨es, hat⟩ := seat_at hv.rg pc h0 ha
  have e1 := seat hf hpl
  rw [es] at e1
  have e2 := is_place hf (plD n i)
  rw [hpl] at e2
  have e3 := partner hf hpl
  have hbe : ∀ k : Int, MP.m_behind (flD ns tl) (plD n i) (.int k) = .ok (plD n ((i + k) % L)) := fun k => by rw [behind hf hpl, pc.g]
  have hL : 0 < L := by have := pc.i0; have := pc.iL; omega
  have hbe2 : ∀ t k : Int, MP.m_behind (flD ns tl) (plD n ((i + t) % L)) (.int k) = .ok (plD n ((i + t + k) % L)) := fun t k => by
    have pc2 := pc.mv t
    rw [behind hf pc2.pl, pc2.g]
    congr 2
    rw [Int.emod_add_emod]
  have s1 : Shows (.tuple [.int at', .int at', .bool true]) := (sh_tup (w := 7) (k := 0) fun x hx => by
    rcases List.mem_cons.mp hx with rfl | hx
    · exact sh_int h0 (by omega)
    · rcases List.mem_cons.mp hx with rfl | hx
      · exact sh_int h0 (by omega)
      · rw [List.mem_singleton.mp hx]
        exact (sh_bool true).mono (by decide) (by decide)).shows (by simp) (by decide)
  have hpo := par_of hv.nd n i
  have shM : Sh 16 1 (parOf tl n i) := by
    rw [hpo]
    cases hm : mateI tl (n, i) with
    | none => exact sh_none.mono (by decide) (by decide)
    | some q =>
      obtain ⟨mq, _⟩ := mate_back hv.nd hm
      obtain ⟨v, j⟩ := q
      obtain ⟨n2, L2, rfl, pc2⟩ := pc_of hv.rg (hv.mem _ mq)
      exact pc2.sh
  have s2 := shows_two shM shM
  have eP : ∃ B : Int, ∀ ρ : S, (mOp oMulA (mOp oPow (mC (.int 10)) (mC (.int 50))) (mOp oPow (mC (.int 10)) (mC (.int 49)))) ρ = .ok (.d (.int B)) ρ := by
    refine ⟨10 ^ Int.toNat 50 * 10 ^ Int.toNat 49, fun ρ => ?_⟩
    simp only [mOp_ap, mC_ap, bd_ok]
    rw [show oPow (.d (.int 10)) (.d (.int 50)) ρ = _ from oIIc_i, if_pos ⟨by decide, by decide, by decide⟩]
    simp only [bd_ok]
    rw [show oPow (.d (.int 10)) (.d (.int 49)) ρ = _ from oIIc_i, if_pos ⟨by decide, by decide, by decide⟩]
    simp only [bd_ok]
    rw [oMulA_i, if_pos (.inr mul_big)]
  have eP2 : ∀ x : Int, 0 ≤ x → x ≤ 1000 → ∃ B : Int, ∀ ρ : S, (mOp oPow (mC (.int 10)) (mC (.int x))) ρ = .ok (.d (.int B)) ρ := fun x h0 h1 => by
    refine ⟨10 ^ Int.toNat x, fun ρ => ?_⟩
    simp only [mOp_ap, mC_ap, bd_ok]
    rw [show oPow (.d (.int 10)) (.d (.int x)) ρ = _ from oIIc_i, if_pos ⟨h0, by omega, by decide⟩]
  obtain ⟨B1, eB1⟩ := eP
  obtain ⟨B2, eB2⟩ := eP2 18 (by decide) (by decide)
  obtain ⟨B3, eB3⟩ := eP2 5 (by decide) (by decide)
  -- the loop
  have H := for_inv (g := FL.gName 8) (b := (sSeq (sIf (mB (mOp oNeA (mCa oRepr (mCons (mTup (mCons (mCall (cur3 MP.m_behind) (mCons (mVar 1) (mCons (mVar 2) (mCons (mVar 8) mNil)))) (mCons (mCall (cur3 MP.m_behind) (mCons (mVar 1) (mCons (mVar 7) (mCons (mUn oNeg (mVar 8)) mNil)))) mNil))) mNil)) (mCa oRepr (mCons (mTup (mCons (mVar 7) (mCons (mVar 2) mNil))) mNil)))) (sRet (mC (.bool false))) sNext)
  (sAsg (mIfE (mB (mOp oLtA (mOp oAddA (mOp oIx (mVar 7) (mC (.int 1))) (mC (.int 1))) (mVar 5))) (mTup (mCons (mOp oIx (mVar 7) (mC (.int 0))) (mCons (mOp oAddA (mOp oIx (mVar 7) (mC (.int 1))) (mC (.int 1))) mNil))) (mTup (mCons (mOp oIx (mVar 7) (mC (.int 0))) (mCons (mC (.int 0)) mNil)))) (FL.gName 7))))
    (ρ := ⟨[some (.o 0), some (.d (flD ns tl)), some (.d (plD n i)), some (.d (.int at')), some (.d (dtD (parP tl))), some (.d (.int L)), some (.d (parOf tl n i)), some (.d (plD n i)), none, none, none, none], [deckK k, cellsO k.c]⟩)
    (fun pre ρ => ∃ x : Option PyData, ρ = ⟨[some (.o 0), some (.d (flD ns tl)), some (.d (plD n i)), some (.d (.int at')), some (.d (dtD (parP tl))), some (.d (.int L)), some (.d (parOf tl n i)), some (.d (plD n ((i + (pre.length : Nat)) % L))), x.map .d, none, none, none], [deckK k, cellsO k.c]⟩)
    (xs := rng 0 4) ⟨none, by
      have := pc.i0
      have := pc.iL
      rw [show (i + (([] : List PyData).length : Nat)) % L = i by simp; exact Int.emod_eq_of_lt (by omega) (by omega)]
      rfl⟩ (by
      rintro pre x post _ hx ⟨x0, rfl⟩
      have hlen := congrArg List.length hx
      rw [rng_len] at hlen
      simp at hlen
      obtain rfl : x = .int (pre.length : Nat) := by
        have : (rng 0 4)[pre.length]? = some x := by rw [hx]; simp
        obtain ⟨_, rfl⟩ := rng_get this
        rw [Int.zero_add]
      have pj := pc.mv (pre.length : Nat)
      have b1 := hbe (pre.length : Nat)
      have b2 := hbe2 (pre.length : Nat) (-(pre.length : Nat))
      rw [show (i + (pre.length : Nat) + -((pre.length : Nat) : Int)) % L = i by
        have := pc.i0
        have := pc.iL
        rw [show i + (pre.length : Nat) + -((pre.length : Nat) : Int) = i by omega]
        exact Int.emod_eq_of_lt (by omega) (by omega)] at b2
      have er := fun ρ => repr_of (ρ := ρ) (shows_two pj.sh pc.sh)
      have en : (mIfE (mB (mOp oLtA (mOp oAddA (mOp oIx (mVar 7) (mC (.int 1))) (mC (.int 1))) (mVar 5))) (mTup (mCons (mOp oIx (mVar 7) (mC (.int 0))) (mCons (mOp oAddA (mOp oIx (mVar 7) (mC (.int 1))) (mC (.int 1))) mNil))) (mTup (mCons (mOp oIx (mVar 7) (mC (.int 0))) (mCons (mC (.int 0)) mNil)))) ⟨[some (.o 0), some (.d (flD ns tl)), some (.d (plD n i)), some (.d (.int at')), some (.d (dtD (parP tl))), some (.d (.int L)), some (.d (parOf tl n i)), some (.d (plD n ((i + (pre.length : Nat)) % L))), some (.d (.int (pre.length : Nat))), none, none, none], [deckK k, cellsO k.c]⟩ = .ok (.d (plD n ((i + ((pre.length : Nat) + 1)) % L))) ⟨[some (.o 0), some (.d (flD ns tl)), some (.d (plD n i)), some (.d (.int at')), some (.d (dtD (parP tl))), some (.d (.int L)), some (.d (parOf tl n i)), some (.d (plD n ((i + (pre.length : Nat)) % L))), some (.d (.int (pre.length : Nat))), none, none, none], [deckK k, cellsO k.c]⟩ := by
        have e5 : (i + ((pre.length : Nat) + 1)) % L = ((i + (pre.length : Nat)) % L + 1) % L := by
          rw [Int.emod_add_emod, Int.add_assoc]
        unfold plD
        by_cases hc : (i + (pre.length : Nat)) % L + 1 < L
        · rw [e5, Int.emod_eq_of_lt (by have := pj.i0; omega) hc]
          simp [hc, sizeL]
        · rw [e5, show (i + (pre.length : Nat)) % L + 1 = L from by have := pj.iL; omega, Int.emod_self]
          simp [hc, sizeL]
      refine ⟨_, ?_, some (.int (pre.length : Nat)), rfl⟩
      simp [-mIfE_ap, b1, b2, er, sizeL, en])
  obtain ⟨ρ2, eF, x0, rfl⟩ := H
  rw [rng_len] at eF
  have eF := (show _ = R.ok FL.Flow.nx (S.mk [some (.o 0), some (.d (flD ns tl)), some (.d (plD n i)), some (.d (.int at')), some (.d (dtD (parP tl))), some (.d (.int L)), some (.d (parOf tl n i)), some (.d (plD n ((i + 4) % L))), x0.map .d, none, none, none] [deckK k, cellsO k.c]) from eF)
  have hR4 : RgB 4 := by unfold RgB; omega
  have m2 : Shows (.tuple [plD n ((i + 4) % L), plD n ((i + 4) % L)]) := shows_two (pc.mv 4).sh (pc.mv 4).sh
  -- the mate's mate
  have hmate : ∀ ρ : S, (isNn (parOf tl n i) = true) ∨ (isNn (parOf tl n i) = false ∧ ∃ q : PyData, parOf tl n i = q ∧ MP.m_partner (flD ns tl) q = .ok (plD n i)) := fun ρ => by
    rw [hpo]
    cases hm : mateI tl (n, i) with
    | none => exact .inl rfl
    | some q =>
      obtain ⟨mq, hb⟩ := mate_back hv.nd hm
      obtain ⟨v, j⟩ := q
      refine .inr ⟨rfl, _, rfl, ?_⟩
      obtain ⟨n2, L2, rfl, pc2⟩ := pc_of hv.rg (hv.mem _ mq)
      show MP.m_partner (flD ns tl) (plD n2 j) = _
      rw [partner hf pc2.pl, par_of hv.nd, hb]
      rfl
  have er1 := fun ρ => repr_of (ρ := ρ) s1
  have er2 := fun ρ => repr_of (ρ := ρ) s2
  have er3 := fun ρ => repr_of (ρ := ρ) (pc.sh.shows (by decide) (by decide))
  have hix : ∀ ρ : S, (mOp oIx (mOp oIx (mVar 1) (mC (.int 0))) (mOp oIx (mVar 2) (mC (.int 0)))) ⟨[some (.o 0), some (.d (flD ns tl)), some (.d (plD n i)), some (.d (.int at')), some (.d (dtD (parP tl))), none, none, none, none, none, none, none], [deckK k, cellsO k.c]⟩ = .ok (.d (.int L)) ⟨[some (.o 0), some (.d (flD ns tl)), some (.d (plD n i)), some (.d (.int at')), some (.d (dtD (parP tl))), none, none, none, none, none, none, none], [deckK k, cellsO k.c]⟩ := fun ρ => by
    unfold flD plD
    simp [pc.at_]
  -- the draws
  have pickI : ∀ {k : Dk} (hk : Gd k) (xs : List Int), 1 ≤ xs.length → xs.length ≤ 1000 → ∃ (g : Int) (k' : Dk), ML.m_law_pick_0769 dr k (.list (xs.map .int)) = .ok (.int g, k') ∧ Gd k' := fun {k} hk xs h1 h2 => by
    obtain ⟨y, k', e, hy, hk'⟩ := pick hd hk (xs := xs.map .int) (by rw [List.length_map]; exact h1) (by rw [List.length_map]; exact h2) (.inr rfl)
    obtain ⟨g, _, rfl⟩ := List.mem_map.mp hy
    exact ⟨g, k', e, hk'⟩
  obtain ⟨g1, k1, ep1, hk1⟩ := pickI hk [B1, B2, B3, 60] (by simp) (by simp)
  obtain ⟨r1, k2, ed1, _, _, hk2⟩ := hd k1 1000000000 hk1 (by omega) (by omega)
  obtain ⟨r2, k3, ed2, _, _, hk3⟩ := hd k2 200 hk2 (by omega) (by omega)
  obtain ⟨g2, k4, ep2, hk4⟩ := pickI hk3 [g1 + r1, -(g1 + r1), r2 - 100, L, -L, 0] (by simp) (by simp)
  obtain ⟨r3, k5, ed3, _, _, hk5⟩ := hd k4 99 hk4 (by omega) (by omega)
  have eL1 : mFT (mLst (mCons (mOp oMulA (mOp oPow (mC (.int 10)) (mC (.int 50))) (mOp oPow (mC (.int 10)) (mC (.int 49)))) (mCons (mOp oPow (mC (.int 10)) (mC (.int 18))) (mCons (mOp oPow (mC (.int 10)) (mC (.int 5))) (mCons (mC (.int 60)) mNil)))))
      ⟨[some (.o 0), some (.d (flD ns tl)), some (.d (plD n i)), some (.d (.int at')), some (.d (dtD (parP tl))), some (.d (.int L)), some (.d (parOf tl n i)), some (.d (plD n ((i + 4) % L))), x0.map .d, none, none, none], [deckK k, cellsO k.c]⟩ = .ok (.d (.list [.int B1, .int B2, .int B3, .int 60])) ⟨[some (.o 0), some (.d (flD ns tl)), some (.d (plD n i)), some (.d (.int at')), some (.d (dtD (parP tl))), some (.d (.int L)), some (.d (parOf tl n i)), some (.d (plD n ((i + 4) % L))), x0.map .d, none, none, none], [deckK k, cellsO k.c]⟩ :=
    ftLst (wfK (by cases x0 <;> rfl) rfl) (by simp only [mCons_ap, eB1, eB2, eB3, mC_ap, bd_ok, mNil_ap]; rfl) (by simp)
  have e9 : ∀ ρ : S, (mOp oPow (mC (.int 10)) (mC (.int 9))) ρ = .ok (.d (.int 1000000000)) ρ := fun ρ => by
    simp only [mOp_ap, mC_ap, bd_ok]
    rw [show oPow (.d (.int 10)) (.d (.int 9)) ρ = _ from oIIc_i, if_pos ⟨by decide, by decide, by decide⟩]
    rfl
  have eA : prA dr
      ⟨[some (.o 0), some (.d (flD ns tl)), some (.d (plD n i)), some (.d (.int at')), some (.d (dtD (parP tl))), some (.d (.int L)), some (.d (parOf tl n i)), some (.d (plD n ((i + 4) % L))), x0.map .d, none, none, none], [deckK k, cellsO k.c]⟩ = .ok .nx ⟨[some (.o 0), some (.d (flD ns tl)), some (.d (plD n i)), some (.d (.int at')), some (.d (dtD (parP tl))), some (.d (.int L)), some (.d (parOf tl n i)), some (.d (plD n ((i + 4) % L))), x0.map .d, some (.d (.int (g1 + r1))), none, none], [deckK k2, cellsO k2.c]⟩ := by
    have ep1' : ML.m_law_pick_0769 dr k (.list [.int B1, .int B2, .int B3, .int 60]) = .ok (.int g1, k1) := ep1
    unfold prA
    rw [sAsg_ap, mOp_ap, mCallD_ap, mCons_ap, mVar_ap]
    simp only [slot_z, oOk_some, bd_ok, mCons_ap, eL1, mNil_ap, dkArg_o, allD_cons, allD_nil, Option.map_some, dkK_ap, curD1_ap, ep1', rvD_ok, mCallD_ap, mVar_ap, e9, ed1, oAddA_i, gName_ap]
    rfl
  have eL2 : mFT (mLst (mCons (mVar 9) (mCons (mUn oNeg (mVar 9)) (mCons (mOp oSub (mCallD (curD1 dr) (mCons (mVar 0) (mCons (mC (.int 200)) mNil))) (mC (.int 100))) (mCons (mVar 5) (mCons (mUn oNeg (mVar 5)) (mCons (mC (.int 0)) mNil)))))))
      ⟨[some (.o 0), some (.d (flD ns tl)), some (.d (plD n i)), some (.d (.int at')), some (.d (dtD (parP tl))), some (.d (.int L)), some (.d (parOf tl n i)), some (.d (plD n ((i + 4) % L))), x0.map .d, some (.d (.int (g1 + r1))), none, none], [deckK k2, cellsO k2.c]⟩ = .ok (.d (.list [.int (g1 + r1), .int (-(g1 + r1)), .int (r2 - 100), .int L, .int (-L), .int 0])) ⟨[some (.o 0), some (.d (flD ns tl)), some (.d (plD n i)), some (.d (.int at')), some (.d (dtD (parP tl))), some (.d (.int L)), some (.d (parOf tl n i)), some (.d (plD n ((i + 4) % L))), x0.map .d, some (.d (.int (g1 + r1))), none, none], [deckK k3, cellsO k3.c]⟩ :=
    by
    refine ftLstD (xs := [.int (g1 + r1), .int (-(g1 + r1)), .int (r2 - 100), .int L, .int (-L), .int 0]) ?_ ?_ ?_ (by simp)
    · exact wfK (by cases x0 <;> rfl) rfl
    · rfl
    · simp [ed2]
  have eB : prB dr
      ⟨[some (.o 0), some (.d (flD ns tl)), some (.d (plD n i)), some (.d (.int at')), some (.d (dtD (parP tl))), some (.d (.int L)), some (.d (parOf tl n i)), some (.d (plD n ((i + 4) % L))), x0.map .d, some (.d (.int (g1 + r1))), none, none], [deckK k2, cellsO k2.c]⟩ = .ok .nx ⟨[some (.o 0), some (.d (flD ns tl)), some (.d (plD n i)), some (.d (.int at')), some (.d (dtD (parP tl))), some (.d (.int L)), some (.d (parOf tl n i)), some (.d (plD n ((i + 4) % L))), some (.d (.int g2)), some (.d (.int (g1 + r1))), none, none], [deckK k4, cellsO k4.c]⟩ := by
    have ep2' : ML.m_law_pick_0769 dr k3 (.list [.int (g1 + r1), .int (-(g1 + r1)), .int (r2 - 100), .int L, .int (-L), .int 0]) = .ok (.int g2, k4) := ep2
    unfold prB
    rw [sAsg_ap, mCallD_ap, mCons_ap, mVar_ap]
    simp only [slot_z, oOk_some, bd_ok, mCons_ap, eL2, mNil_ap, dkArg_o, allD_cons, allD_nil, Option.map_some, dkK_ap, curD1_ap, ep2', rvD_ok, gName_ap]
    rfl
  have lb := law_behind (tl := tl) pc g2
  have er4 := fun ρ => repr_of (ρ := ρ) (shows_two (pc.mv g2).sh (pc.mv g2).sh)
  have b1 := hbe g2
  have b3 := hbe2 g2 (r3 - 49)
  have b4 := hbe ((g2 + (r3 - 49)) % L)
  rw [show (i + (g2 + (r3 - 49)) % L) % L = (i + g2 + (r3 - 49)) % L by rw [Int.add_emod_emod, Int.add_assoc]] at b4
  have p5 := pc.mv (g2 + (r3 - 49))
  rw [← Int.add_assoc] at p5
  have er5 := fun ρ => repr_of (ρ := ρ) (p5.sh.shows (by decide) (by decide))
  refine ⟨k5, ?_, hk5⟩
  rcases hmate ⟨[], []⟩ with hn | ⟨hn, q, hq, hq2⟩
  · simp -implicitDefEqProofs [sizeL, e1, e2, e3, fl_0, pl_0, pc.at_, er1, er2, er3, getK_par, dc_par, hn, hR4, eF, eA, eB, lb, ed3, b1, er4, pl_1, hL, b3, b4, er5]
  · rw [← hq] at hq2
    simp -implicitDefEqProofs [sizeL, e1, e2, e3, fl_0, pl_0, pc.at_, er1, er2, er3, getK_par, dc_par, hn, hq2, hR4, eF, eA, eB, lb, ed3, b1, er4, pl_1, hL, b3, b4, er5]
end
end Mt
end

section
set_option Elab.async false
set_option linter.all false
set_option maxRecDepth 100000
set_option maxHeartbeats 1000000
set_option autoImplicit false
namespace Mt
open PySem PySem.Spec PyProof.Rows L2 DL FL
local instance : Tab0 := ⟨[]⟩
section
variable {ρ : S}
def endK (r : R FL.Flow) : RV Dk := match r with
  | .ok (.rt v) ρ => match dkArg [v], rdDk ρ.ob with
    | some _, some p => if p.2.length = 0 then .ok p.1 else .bad
    | _, _ => .bad
  | _ => .bad
theorem runK_eq {n : Nat} {b : M FL.Flow} {as : List PyData} : runK n b as = endK (b ⟨as.map (fun x => some (.d x)) ++ List.replicate (n - as.length) none, []⟩) := rfl
theorem deck (c0 c1 : Int) {ns : List Int} (hl : ns.length ≤ 63) : ∃ k, ML.m_law_deck_8ff7 c0 c1 (.list (ns.map .int)) = .ok k ∧ Gd k := by
  unfold ML.m_law_deck_8ff7 ML.b_law_deck_8ff7
  rw [runK_eq]
  obtain ⟨cs, hcs, hcl⟩ : ∃ cs : List Int, DL.cutD (ns.map PyData.int) none (some 63) = cs.map .int ∧ cs.length ≤ 63 := by
    refine ⟨DL.cutD ns none (some 63), ?_, ?_⟩
    · unfold DL.cutD
      rw [List.length_map, List.map_take, List.map_drop]
    · unfold DL.cutD
      rw [List.length_take, List.length_drop]
      omega
  have mulA : ∀ (i : Int) (ρ : S), oMulA (.d (.int i)) (.d (.int 39373)) ρ = .ok (.d (.int (i * 39373))) ρ := fun i ρ => by rw [oMulA_i, if_pos (cmul_r (by decide))]
  have H := for_inv (g := FL.gName 2) (b := (sAsg (mOp oMod (mCa oInt (mCons (mOp oAddA (mOp oAddA (mOp oMulA (mVar 1) (mC (.int 39373))) (mOp oMod (mCa oInt (mCons (mVar 2) mNil)) (mC (.int 2147483549)))) (mC (.int c1))) mNil)) (mC (.int 2147483563))) (FL.gName 1)))
    (ρ := ⟨[some (.d (.list (ns.map .int))), some (.d (.int c0)), none], []⟩)
    (fun pre ρ => ∃ (m : Int) (x : Option PyData), ρ = ⟨[some (.d (.list (ns.map .int))), some (.d (.int m)), x.map .d], []⟩) (xs := cs.map .int) ⟨c0, none, rfl⟩ (by
      rintro pre x post _ hx ⟨m, x0, rfl⟩
      obtain ⟨i, rfl⟩ : ∃ i, x = .int i := by
        have : x ∈ cs.map PyData.int := by rw [hx]; simp
        obtain ⟨i, _, rfl⟩ := List.mem_map.mp this
        exact ⟨i, rfl⟩
      refine ⟨_, ?_, (m * 39373 + i % 2147483549 + c1) % 2147483563, some (.int i), rfl⟩
      simp [mulA])
  obtain ⟨ρ2, e, m, x, rfl⟩ := H
  have eS := ftSl_l (ρ := ⟨[some (.d (.list (ns.map .int))), some (.d (.int c0)), none], []⟩) (a := mVar 0) (ds := ns.map .int) (lo := mNoP) (hi := mPart (mC (.int 63))) (l := none) (h := some 63) (wf_pure rfl) (by simp) (by simp) (by simp)
  rw [hcs] at eS
  have W2 : Wf ⟨[some (.d (.list (ns.map .int))), some (.d (.int m)), x.map .d], [.dk []]⟩ := by
    rw [wf_iff]
    cases x <;> exact ⟨rfl, rfl⟩
  have eS2 := ftSl_l (ρ := ⟨[some (.d (.list (ns.map .int))), some (.d (.int m)), x.map .d], [.dk []]⟩) (a := mVar 0) (ds := ns.map .int) (lo := mNoP) (hi := mPart (mC (.int 63))) (l := none) (h := some 63) W2 (by simp) (by simp) (by simp)
  rw [hcs] at eS2
  have eL := mkL (a := mCa oList (mCons (mFT (mSl (mVar 0) mNoP (mPart (mC (.int 63))))) mNil)) (xs := cs.map .int) W2 (by
    rw [mCa_ap, mCons_ap, eS2]
    rfl)
  have eR : ∀ (ds : List PyData) (ρ : S), oRevA (.d (.list ds)) ρ = .ok (.o ρ.ob.length) ⟨ρ.sl, ρ.ob ++ [lstB ds.reverse]⟩ := fun ds ρ => rfl
  have eD : ∀ (ks : List Str) (ms : M (List DV)) (ρ : S), mDisp ks ms ρ = (ms ⟨ρ.sl, ρ.ob ++ [.dk []]⟩).bd fun xs ρ1 => if isDK0 ρ1.ob[ρ.ob.length]? = true then .ok (.o ρ.ob.length) ⟨ρ1.sl, ρ1.ob.set ρ.ob.length (.dk (putsD [] ks xs))⟩ else .bad := fun ks ms ρ => by
    unfold mDisp
    rw [mbind_ap]
  have e0 : isDK0 (some (.dk [])) = true := rfl
  refine ⟨⟨"cells", "mixed", "draws", m, 0, cs.reverse⟩, ?_, rfl, rfl, rfl, by simpa using hcl⟩
  simp -implicitDefEqProofs [eS, e, eL, eD, eR, e0]
  have e3 := rdDk_ap (k := ⟨"cells", "mixed", "draws", m, 0, cs.reverse⟩) (rs := [])
  have e4 : lstB (cs.map PyData.int).reverse = cellsO cs.reverse := by unfold lstB cellsO; rw [← List.map_reverse]
  rw [e4]
  show (match dkArg [.o 0], rdDk [.dk (putsD [] ["cells", "mixed", "draws"] [.o 1, .d (.int m), .d (.int 0)]), cellsO cs.reverse] with
    | some _, some p => if p.2.length = 0 then RV.ok p.1 else .bad
    | _, _ => .bad) = _
  have e5 : putsD [] ["cells", "mixed", "draws"] [DV.o 1, .d (.int m), .d (.int 0)] = [(.inr "cells", .o 1), (.inr "mixed", .d (.int m)), (.inr "draws", .d (.int 0))] := by
    have h1 : ((Sum.inr ("cells" : Str) : Key) = Sum.inr ("mixed" : Str)) = False := by decide
    have h2 : ((Sum.inr ("cells" : Str) : Key) = Sum.inr ("draws" : Str)) = False := by decide
    have h3 : ((Sum.inr ("mixed" : Str) : Key) = Sum.inr ("draws" : Str)) = False := by decide
    simp [putsD, putD, h1, h2, h3]
  rw [e5]
  have e6 : rdDk [.dk [(.inr "cells", .o 1), (.inr "mixed", .d (.int m)), (.inr "draws", .d (.int 0))], cellsO cs.reverse] = some (⟨"cells", "mixed", "draws", m, 0, cs.reverse⟩, []) := e3
  rw [e6]
  rfl
/-! ### a comprehension that draws -/
theorem lcGo_dk {sl : List (Option DV)} {g : DV → M Unit} {e : M DV} {rest : List OB} (P : PyData → Prop) (hb : rest.all (belB (rest.length + 2)) = true) : ∀ (xs acc : List PyData) (k : Dk), Gd k → acc.length + xs.length ≤ 100000 →
    (∀ k, Gd k → ∀ x ∈ xs, ∃ (y : PyData) (k' : Dk), prj ((g (.d x) ⟨sl, deckK k :: cellsO k.c :: rest⟩).bd fun _ ρ2 => e ρ2) = some (.d y, deckK k' :: cellsO k'.c :: rest) ∧ P y ∧ Gd k') →
    ∃ (k' : Dk) (ys : List PyData), Gd k' ∧ ys.length = xs.length ∧ (∀ y ∈ ys, P y) ∧ lcGo sl (rest.length + 2) g mYes e xs (deckK k :: cellsO k.c :: rest) acc = .ok (deckK k' :: cellsO k'.c :: rest, acc ++ ys) ⟨[], []⟩
  | [], acc, k, hk, _, _ => ⟨k, [], hk, rfl, (fun _ h => (nomatch h)), by simp [lcGo]⟩
  | x :: xs, acc, k, hk, hl, h => by
    obtain ⟨y, k1, h1, hy, hk1⟩ := h k hk x List.mem_cons_self
    obtain ⟨ρ4, h2, h3⟩ := prj_inv h1
    obtain ⟨a, ρ2, h4, h5⟩ := bd_inv h2
    have hl' : acc.length + (xs.length + 1) ≤ 100000 := hl
    obtain ⟨k', ys, hk', hlen, hp, ih⟩ := lcGo_dk P hb xs (acc ++ [y]) k1 hk1 (by rw [List.length_append]; simp; omega) fun k hk z hz => h k hk z (List.mem_cons_of_mem _ hz)
    refine ⟨k', y :: ys, hk', by simp [hlen], fun z hz => ?_, ?_⟩
    · rcases List.mem_cons.mp hz with rfl | hz
      · exact hy
      · exact hp z hz
    · have hw : (deckK k1 :: cellsO k1.c :: rest).all (belB (rest.length + 2)) = true := by
        show (belB (rest.length + 2) (deckK k1) && (belB (rest.length + 2) (cellsO k1.c) && rest.all (belB (rest.length + 2)))) = true
        rw [bel_deckK (by omega), bel_cellsB, hb]
        rfl
      obtain ⟨c1, c2⟩ := cut_of (n := rest.length + 2) (ob := deckK k1 :: cellsO k1.c :: rest) (by simp) hw
      unfold lcGo
      rw [h4]
      dsimp only
      rw [show mYes ρ2 = .ok true ρ2 from rfl]
      dsimp only
      rw [h5]
      dsimp only
      rw [if_pos (by rw [sizeL]; omega), h3, c1, if_pos rfl, c2, ih]
      simp
theorem mapDk {sl : List (Option DV)} {i : M (List PyData)} {g : DV → M Unit} {e : M DV} {vs : List Nat} {rest : List OB} (P : PyData → Prop) (hs : sl.all (belO (rest.length + 2)) = true) (hb : rest.all (belB (rest.length + 2)) = true) {xs : List PyData} {k : Dk} (hk : Gd k) (hi : i ⟨sl, deckK k :: cellsO k.c :: rest⟩ = .ok xs ⟨sl, deckK k :: cellsO k.c :: rest⟩) (hl : xs.length ≤ 100000)
    (h : ∀ k, Gd k → ∀ x ∈ xs, ∃ (y : PyData) (k' : Dk), prj ((g (.d x) ⟨wipeS sl vs, deckK k :: cellsO k.c :: rest⟩).bd fun _ ρ2 => e ρ2) = some (.d y, deckK k' :: cellsO k'.c :: rest) ∧ P y ∧ Gd k') :
    ∃ (k' : Dk) (ys : List PyData), Gd k' ∧ ys.length = xs.length ∧ (∀ y ∈ ys, P y) ∧ mFT (mLcF i g mYes e vs) ⟨sl, deckK k :: cellsO k.c :: rest⟩ = .ok (.d (.list ys)) ⟨sl, deckK k' :: cellsO k'.c :: rest⟩ := by
  obtain ⟨k', ys, hk', hlen, hp, hgo⟩ := lcGo_dk (sl := wipeS sl vs) (g := g) (e := e) P hb xs [] k hk (by simpa using hl) h
  refine ⟨k', ys, hk', hlen, hp, ?_⟩
  refine mkL' (wfK hs hb) rfl ?_
  unfold mLcF
  rw [mbind_ap, hi, bd_ok]
  have hgo' : lcGo (wipeS sl vs) (deckK k :: cellsO k.c :: rest).length g mYes e xs (deckK k :: cellsO k.c :: rest) [] = .ok (deckK k' :: cellsO k'.c :: rest, ys) ⟨[], []⟩ := hgo
  dsimp only
  rw [hgo']
  simp
end
end Mt
end

section
set_option Elab.async false
set_option linter.all false
set_option maxRecDepth 100000
set_option maxHeartbeats 1000000
set_option autoImplicit false
namespace K02
open PySem PySem.Spec PyProof.Rows L2 DL FL Mt
local instance : Tab0 := ⟨[]⟩
def c0 (dr : Dk → PyData → RV (PyData × Dk)) : M FL.Flow := (sAsg (mIfE (mB (mOp oEqA (mCallD (curD1 dr) (mCons (mVar 1) (mCons (mC (.int 4)) mNil))) (mC (.int 0)))) (mCallD (curD0 (ML.m_law_wide_floor_42ef dr)) (mCons (mVar 1) mNil)) (mCallD (curD1 (ML.m_law_floor_532c dr)) (mCons (mVar 1) (mCons (mC (.int 12)) mNil)))) (FL.gName 3))
def c1 (dr : Dk → PyData → RV (PyData × Dk)) : M FL.Flow := (sAsg (mTup (mCons (mCall (cur1 ML.m_law_spots_91d2) (mCons (mOp oIx (mVar 3) (mC (.int 0))) mNil)) (mCons (mCall (cur1 ML.m_law_partners_35b8) (mCons (mVar 3) mNil)) mNil))) (gSeq 2 (gCons (FL.gName 4) (gCons (FL.gName 5) gNil))))
def c2 (dr : Dk → PyData → RV (PyData × Dk)) : M FL.Flow := (sIf (mB (mOp oNeA (mCa oRepr (mCons (mTup (mCons (mCall (cur1 MP.m_places) (mCons (mVar 3) mNil)) (mCons (mCallK [0] (cur1 MP.m_places) (mCons (mVar 3) mNil)) mNil))) mNil)) (mCa oRepr (mCons (mOp oMulA (mTup (mCons (mCa oTuple (mCons (mVar 4) mNil)) mNil)) (mC (.int 2))) mNil)))) (sRet (mC (.bool false))) sNext)
def c3 (dr : Dk → PyData → RV (PyData × Dk)) : M FL.Flow := (sAsg (mIfE (mB (mOp oLtA (mCa oLen (mCons (mVar 4) mNil)) (mC (.int 9)))) (mFT (mUn oLrg (mCa oLen (mCons (mVar 4) mNil)))) (mFT (mLcF (iR1 (mCons (mC (.int 8)) mNil)) (FL.gName 8) mYes (mCallD (curD1 dr) (mCons (mVar 1) (mCons (mCa oLen (mCons (mVar 4) mNil)) mNil))) [8]))) (FL.gName 6))
def c4 (dr : Dk → PyData → RV (PyData × Dk)) : M FL.Flow := (sFor (iA (mVar 6)) (FL.gName 7) (sIf (mNotT (mB (mCallD (curD4 (ML.m_law_is_place_right_92ff dr)) (mCons (mVar 1) (mCons (mVar 3) (mCons (mOp oIx (mVar 4) (mVar 7)) (mCons (mVar 7) (mCons (mVar 5) mNil)))))))) (sRet (mC (.bool false))) sNext))
def c5 (dr : Dk → PyData → RV (PyData × Dk)) : M FL.Flow := (sIf (mB (mOp oNeSd (mFT (mLcF (iA (mVar 4)) (FL.gName 9) (mB (mOp oIsNot (mCall (cur2 MP.m_partner) (mCons (mVar 3) (mCons (mVar 9) mNil))) (mC .none))) (mVar 9) [9])) (mVar 5))) (sRet (mC (.bool false))) sNext)
theorem law_eq (dr : Dk → PyData → RV (PyData × Dk)) : b_law dr = (sSeq (sAsg (mMkDk (curK1 (ML.m_law_deck_8ff7 10896209 57)) (mCons (mVar 0) mNil)) (FL.gName 1)) (sSeq (sFor (iR1 (mCons (mC (.int 3)) mNil)) (FL.gName 2) (sSeq (c0 dr) (sSeq (c1 dr) (sSeq (c2 dr) (sSeq (c3 dr) (sSeq (c4 dr) (c5 dr))))))) (sRet (mC (.bool true))))) := rfl

section
variable {dr : Dk → PyData → RV (PyData × Dk)} {ns : List Int} {tl : List Tc} {s : PyData} {k : Dk}
theorem s0 (hd : DrOk dr) (hk : Gd k) (x2 : PyData) (x3 x4 x5 x6 x7 : Option PyData) : ∃ (ns : List Int) (tl : List Tc) (k' : Dk), VF ns tl ∧ Gd k' ∧ c0 dr ⟨[some (.d s), some (.o 0), some (.d x2), x3.map .d, x4.map .d, x5.map .d, x6.map .d, x7.map .d, none, none], [deckK k, cellsO (Dk.c k)]⟩ = .ok .nx ⟨[some (.d s), some (.o 0), some (.d x2), some (.d (flD ns tl)), x4.map .d, x5.map .d, x6.map .d, x7.map .d, none, none], [deckK k', cellsO (Dk.c k')]⟩ := by
  obtain ⟨r, k1, e1, r0, r1, hk1⟩ := hd k 4 hk (by omega) (by omega)
  obtain ⟨ns, tl, k2, e2, hv, hk2⟩ := wide_floor hd hk1
  obtain ⟨ns', tl', k3, e3, hv3, _, hk3⟩ := floor hd hk1 (n := 12) (by omega) (by omega)
  unfold c0
  by_cases h : r = 0
  · exact ⟨ns, tl, k2, hv, hk2, by simp -implicitDefEqProofs [e1, e2, h]⟩
  · exact ⟨ns', tl', k3, hv3, hk3, by simp -implicitDefEqProofs [e1, e3, h]⟩
theorem s1 (hv : VF ns tl) (x2 : PyData) (x4 x5 x6 x7 : Option PyData) : c1 dr ⟨[some (.d s), some (.o 0), some (.d x2), some (.d (flD ns tl)), x4.map .d, x5.map .d, x6.map .d, x7.map .d, none, none], [deckK k, cellsO (Dk.c k)]⟩ = .ok .nx ⟨[some (.d s), some (.o 0), some (.d x2), some (.d (flD ns tl)), some (.d (.list (spots ns))), some (.d (dtD (parP tl))), x6.map .d, x7.map .d, none, none], [deckK k, cellsO (Dk.c k)]⟩ := by
  unfold c1
  have e1 := law_spots hv.rg.small (.inl rfl)
  have e2 := law_partners (ns := ns) hv.fl.fw31
  simp -implicitDefEqProofs [e1, e2, fl_0, sizeL]
theorem rep2 {x : PyData} {ρ : S} : oMulA (.d (.tuple [x])) (.d (.int 2)) ρ = .ok (.d (.tuple [x, x])) ρ := by
  unfold oMulA oAlt
  rfl
theorem s2 (hv : VF ns tl) (x2 : PyData) (x6 x7 : Option PyData) : c2 dr ⟨[some (.d s), some (.o 0), some (.d x2), some (.d (flD ns tl)), some (.d (.list (spots ns))), some (.d (dtD (parP tl))), x6.map .d, x7.map .d, none, none], [deckK k, cellsO (Dk.c k)]⟩ = .ok .nx ⟨[some (.d s), some (.o 0), some (.d x2), some (.d (flD ns tl)), some (.d (.list (spots ns))), some (.d (dtD (parP tl))), x6.map .d, x7.map .d, none, none], [deckK k, cellsO (Dk.c k)]⟩ := by
  unfold c2
  have e1 := places hv.fl hv.rg.small
  have er := fun ρ => repr_of (ρ := ρ) (shows_spots hv.rg)
  simp -implicitDefEqProofs [e1, er, sizeL, rep2]
theorem s3 (hd : DrOk dr) (hk : Gd k) (hv : VF ns tl) (x2 : PyData) (x6 x7 : Option PyData) : ∃ (l : List PyData) (k' : Dk), Gd k' ∧ (∀ z ∈ l, ∃ i : Int, z = .int i ∧ 0 ≤ i ∧ i < (spots ns).length) ∧ c3 dr ⟨[some (.d s), some (.o 0), some (.d x2), some (.d (flD ns tl)), some (.d (.list (spots ns))), some (.d (dtD (parP tl))), x6.map .d, x7.map .d, none, none], [deckK k, cellsO (Dk.c k)]⟩ = .ok .nx ⟨[some (.d s), some (.o 0), some (.d x2), some (.d (flD ns tl)), some (.d (.list (spots ns))), some (.d (dtD (parP tl))), some (.d (.list l)), x7.map .d, none, none], [deckK k', cellsO (Dk.c k')]⟩ := by
  have h40 : 1 ≤ (spots ns).length ∧ (spots ns).length ≤ 40 := by
    have h1 := hv.rg.spl
    have h2 := hv.rg.sum
    have h3 := hv.rg.pos
    obtain ⟨h4, _⟩ := sum_ge h3
    have := List.length_pos_iff.mpr hv.rg.ne
    omega
  unfold c3
  by_cases h9 : ((spots ns).length : Int) < 9
  · have W : Wf ⟨[some (.d s), some (.o 0), some (.d x2), some (.d (flD ns tl)), some (.d (.list (spots ns))), some (.d (dtD (parP tl))), x6.map .d, x7.map .d, none, none], [deckK k, cellsO (Dk.c k)]⟩ := wfK (by cases x6 <;> cases x7 <;> rfl) rfl
    have e1 := mkL (a := mUn oLrg (mCa oLen (mCons (mVar 4) mNil))) (xs := rng 0 (spots ns).length) W (by
      simp -implicitDefEqProofs
      rw [lrg (by omega) (by omega)]
      rfl)
    refine ⟨rng 0 (spots ns).length, k, hk, fun z hz => ?_, by simp -implicitDefEqProofs [h9, e1]⟩
    obtain ⟨j, hj⟩ := List.getElem?_of_mem hz
    obtain ⟨h1, rfl⟩ := rng_get hj
    exact ⟨_, rfl, by omega, by omega⟩
  · have hR8 : RgB 8 := by unfold RgB; omega
    obtain ⟨k', ys, hk', hl, hp, e1⟩ := mapDk (sl := [some (.d s), some (.o 0), some (.d x2), some (.d (flD ns tl)), some (.d (.list (spots ns))), some (.d (dtD (parP tl))), x6.map .d, x7.map .d, none, none]) (i := iR1 (mCons (mC (.int 8)) mNil)) (g := FL.gName 8) (e := mCallD (curD1 dr) (mCons (mVar 1) (mCons (mCa oLen (mCons (mVar 4) mNil)) mNil))) (vs := [8]) (rest := []) (fun z => ∃ i : Int, z = .int i ∧ 0 ≤ i ∧ i < (spots ns).length) (by cases x6 <;> cases x7 <;> rfl) rfl (xs := rng 0 8) hk (by simp -implicitDefEqProofs [hR8]) (by rw [rng_len]; omega) (fun k hk x hx => by
      obtain ⟨r, k1, e, r0, r1, hk1⟩ := hd k (spots ns).length hk (by omega) (by omega)
      exact ⟨.int r, k1, by simp -implicitDefEqProofs [e], ⟨r, rfl, r0, r1⟩, hk1⟩)
    exact ⟨ys, k', hk', hp, by simp -implicitDefEqProofs [h9, e1]⟩
theorem s4 (hd : DrOk dr) (hk : Gd k) (hv : VF ns tl) (x2 : PyData) {l : List PyData} (hl : ∀ z ∈ l, ∃ i : Int, z = .int i ∧ 0 ≤ i ∧ i < (spots ns).length) (x7 : Option PyData) : ∃ (k' : Dk) (y7 : Option PyData), Gd k' ∧ c4 dr ⟨[some (.d s), some (.o 0), some (.d x2), some (.d (flD ns tl)), some (.d (.list (spots ns))), some (.d (dtD (parP tl))), some (.d (.list l)), x7.map .d, none, none], [deckK k, cellsO (Dk.c k)]⟩ = .ok .nx ⟨[some (.d s), some (.o 0), some (.d x2), some (.d (flD ns tl)), some (.d (.list (spots ns))), some (.d (dtD (parP tl))), some (.d (.list l)), y7.map .d, none, none], [deckK k', cellsO (Dk.c k')]⟩ := by
  have H := for_inv (g := FL.gName 7) (b := (sIf (mNotT (mB (mCallD (curD4 (ML.m_law_is_place_right_92ff dr)) (mCons (mVar 1) (mCons (mVar 3) (mCons (mOp oIx (mVar 4) (mVar 7)) (mCons (mVar 7) (mCons (mVar 5) mNil)))))))) (sRet (mC (.bool false))) sNext)) (ρ := ⟨[some (.d s), some (.o 0), some (.d x2), some (.d (flD ns tl)), some (.d (.list (spots ns))), some (.d (dtD (parP tl))), some (.d (.list l)), x7.map .d, none, none], [deckK k, cellsO (Dk.c k)]⟩) (fun _ ρ => ∃ (k' : Dk) (y7 : Option PyData), Gd k' ∧ ρ = ⟨[some (.d s), some (.o 0), some (.d x2), some (.d (flD ns tl)), some (.d (.list (spots ns))), some (.d (dtD (parP tl))), some (.d (.list l)), y7.map .d, none, none], [deckK k', cellsO (Dk.c k')]⟩) (xs := l) ⟨k, x7, hk, rfl⟩ (by
    rintro pre z post _ hz ⟨k1, y7, hk1, rfl⟩
    obtain ⟨i, rfl, i0, i1⟩ := hl z (by rw [hz]; simp)
    have hN : (spots ns).length = (spI 0 ns).length := by rw [spots_eq, List.length_map]
    have hi : i.toNat < (spI 0 ns).length := by omega
    have hp := List.getElem?_eq_getElem hi
    have ha : atI (spots ns) i = some (plP (spI 0 ns)[i.toNat]) := by rw [atI_int i0, spots_get hp]
    obtain ⟨n, L, e, pc⟩ := pc_of hv.rg (u := (spI 0 ns)[i.toNat].1) (i := (spI 0 ns)[i.toNat].2) (List.getElem_mem hi)
    have e' : plP (spI 0 ns)[i.toNat] = plD n (spI 0 ns)[i.toNat].2 := by unfold plP; rw [e]
    obtain ⟨k2, e2, hk2⟩ := place_right hd hk1 hv pc i0 (by rw [hp, ← e])
    rw [← e'] at e2
    exact ⟨⟨[some (.d s), some (.o 0), some (.d x2), some (.d (flD ns tl)), some (.d (.list (spots ns))), some (.d (dtD (parP tl))), some (.d (.list l)), some (.d (.int i)), none, none], [deckK k2, cellsO (Dk.c k2)]⟩, by simp -implicitDefEqProofs [ha, e2, curD4], k2, some (.int i), hk2, rfl⟩)
  obtain ⟨ρ2, e, k', y7, hk', rfl⟩ := H
  exact ⟨k', y7, hk', by unfold c4; simp -implicitDefEqProofs [e]⟩
def hasM (tl : List Tc) : PyData → Bool
  | .tuple [.int u, .int i] => (mateI tl (u, i)).isSome
  | _ => false
theorem s5 (hv : VF ns tl) (x2 : PyData) (x6 x7 : Option PyData) : c5 dr ⟨[some (.d s), some (.o 0), some (.d x2), some (.d (flD ns tl)), some (.d (.list (spots ns))), some (.d (dtD (parP tl))), x6.map .d, x7.map .d, none, none], [deckK k, cellsO (Dk.c k)]⟩ = .ok .nx ⟨[some (.d s), some (.o 0), some (.d x2), some (.d (flD ns tl)), some (.d (.list (spots ns))), some (.d (dtD (parP tl))), x6.map .d, x7.map .d, none, none], [deckK k, cellsO (Dk.c k)]⟩ := by
  have W : Wf ⟨[some (.d s), some (.o 0), some (.d x2), some (.d (flD ns tl)), some (.d (.list (spots ns))), some (.d (dtD (parP tl))), x6.map .d, x7.map .d, none, none], [deckK k, cellsO (Dk.c k)]⟩ := wfK (by cases x6 <;> cases x7 <;> rfl) rfl
  have e1 := fltL (i := iA (mVar 4)) (g := FL.gName 9) (t := mB (mOp oIsNot (mCall (cur2 MP.m_partner) (mCons (mVar 3) (mCons (mVar 9) mNil))) (mC .none))) (e := mVar 9) (vs := [9]) (hasM tl) (fun x => x) W (xs := spots ns) (by simp -implicitDefEqProofs) (by have := hv.rg.small.2.1; rw [sizeL]; omega) (fun x hx => by
    rw [spots_eq] at hx
    obtain ⟨q, hq, rfl⟩ := List.mem_map.mp hx
    have hpl : isPl ns (plD q.1 q.2) = true := pl_iff.mpr hq
    have e2 := partner hv.fl hpl
    rw [par_of hv.nd] at e2
    have e3 : hasM tl (plP q) = (mateI tl q).isSome := rfl
    have e4 : plP q = plD q.1 q.2 := rfl
    rw [e3]
    rw [← e4] at e2
    cases hm : mateI tl q with
    | none =>
      rw [hm] at e2
      have e2 : MP.m_partner (flD ns tl) (plP q) = .ok .none := e2
      simp -implicitDefEqProofs [e2, isNn]
    | some z =>
      rw [hm] at e2
      have e2 : MP.m_partner (flD ns tl) (plP q) = .ok (plP z) := e2
      have e5 : isNn (plP z) = false := rfl
      simp -implicitDefEqProofs [e2, e5])
  have e6 : ((spots ns).filter (hasM tl)).map (fun x => x) = ((spI 0 ns).filter fun p => (mateI tl p).isSome).map plP := by
    rw [spots_eq, List.map_id', List.filter_map]
    rfl
  rw [e6] at e1
  have ek : (((parP tl).map (·.1)).map tupP) = (tl.flatMap sd).map plP := by
    rw [par_keys hv.nd, List.map_map]
    rfl
  have e7 : ∀ ρ : S, oNeSd (.d (.list (((spI 0 ns).filter fun p => (mateI tl p).isSome).map plP))) (.d (dtD (parP tl))) ρ = .ok (.d (.bool false)) ρ := fun ρ => by
    unfold oNeSd
    rw [oOp_ap]
    unfold rNeSd
    have h1 : sortsK ((parP tl).map (·.1)) = true := by
      unfold sortsK
      rw [ek, Bool.and_eq_true]
      refine ⟨?_, ?_⟩
      · rw [List.all_eq_true]
        intro d hd
        rw [List.all_eq_true]
        exact fun d' hd' => (sorts_pl _).2.1 d hd d' hd'
      · rw [par_keys hv.nd, List.all_map]
        exact List.all_eq_true.mpr fun _ _ => rfl
    have h2 : eqs (.list (((spI 0 ns).filter fun p => (mateI tl p).isSome).map plP)) = true := by
      obtain ⟨a, b⟩ := eqs_pls ((spI 0 ns).filter fun p => (mateI tl p).isSome)
      unfold eqs
      rw [a, b]
      rfl
    dsimp only
    rw [keys_dt]
    dsimp only [datOf]
    rw [h1]
    rw [par_keys hv.nd, keys_sorted hv, h2, eqv_pls]
    rfl
  unfold c5
  simp -implicitDefEqProofs [e1, e7]
theorem law_true (ns : List Int) (hl : ns.length ≤ 63) (hb : ∀ z ∈ ns, Builtin.Int.intBits z ≤ 1048576) : m_law (ML.m_law_draw_600f 57 53) (.list (ns.map .int)) = .ok (.bool true) := by
  have hd := draw 57 53
  obtain ⟨k0, e0, hk0⟩ := deck 10896209 57 hl
  unfold m_law
  rw [runP_eq, law_eq]
  have H := for_inv (g := FL.gName 2) (b := (sSeq (c0 (ML.m_law_draw_600f 57 53)) (sSeq (c1 (ML.m_law_draw_600f 57 53)) (sSeq (c2 (ML.m_law_draw_600f 57 53)) (sSeq (c3 (ML.m_law_draw_600f 57 53)) (sSeq (c4 (ML.m_law_draw_600f 57 53)) (c5 (ML.m_law_draw_600f 57 53)))))))) (ρ := ⟨[some (.d (.list (ns.map .int))), some (.o 0), none, none, none, none, none, none, none, none], [deckK k0, cellsO (Dk.c k0)]⟩) (fun _ ρ => ∃ (k' : Dk) (x2 x3 x4 x5 x6 x7 : Option PyData), Gd k' ∧ ρ = ⟨[some (.d (.list (ns.map .int))), some (.o 0), x2.map .d, x3.map .d, x4.map .d, x5.map .d, x6.map .d, x7.map .d, none, none], [deckK k', cellsO (Dk.c k')]⟩) (xs := rng 0 3) ⟨k0, none, none, none, none, none, none, hk0, rfl⟩ (by
    rintro pre z post _ hz ⟨k1, x2, x3, x4, x5, x6, x7, hk1, rfl⟩
    obtain ⟨ms, tl, k2, hv, hk2, a0⟩ := s0 (s := .list (ns.map .int)) hd hk1 z x3 x4 x5 x6 x7
    have a1 := s1 (dr := ML.m_law_draw_600f 57 53) (s := .list (ns.map .int)) (k := k2) hv z x4 x5 x6 x7
    have a2 := s2 (dr := ML.m_law_draw_600f 57 53) (s := .list (ns.map .int)) (k := k2) hv z x6 x7
    obtain ⟨l, k3, hk3, hl, a3⟩ := s3 (s := .list (ns.map .int)) hd hk2 hv z x6 x7
    obtain ⟨k4, y7, hk4, a4⟩ := s4 (s := .list (ns.map .int)) hd hk3 hv z hl x7
    have a5 := s5 (dr := ML.m_law_draw_600f 57 53) (s := .list (ns.map .int)) (k := k4) hv z (some (.list l)) y7
    have a5 : c5 (ML.m_law_draw_600f 57 53) ⟨[some (.d (.list (ns.map .int))), some (.o 0), some (.d z), some (.d (flD ms tl)), some (.d (.list (spots ms))), some (.d (dtD (parP tl))), some (.d (.list l)), y7.map .d, none, none], [deckK k4, cellsO (Dk.c k4)]⟩ = .ok .nx ⟨[some (.d (.list (ns.map .int))), some (.o 0), some (.d z), some (.d (flD ms tl)), some (.d (.list (spots ms))), some (.d (dtD (parP tl))), some (.d (.list l)), y7.map .d, none, none], [deckK k4, cellsO (Dk.c k4)]⟩ := a5
    exact ⟨_, by
      simp -implicitDefEqProofs only [gName_ap, bd_ok, sSeq_ap, seqK_nx, List.set_cons_succ, List.set_cons_zero, a0, a1, a2, a3, a4, a5]
      rfl, k4, some z, some (flD ms tl), some (.list (spots ms)), some (dtD (parP tl)), some (.list l), y7, hk4, rfl⟩)
  obtain ⟨ρ2, e, k', x2, x3, x4, x5, x6, x7, hk', rfl⟩ := H
  have hR : RgB 3 := by unfold RgB; omega
  have em : (mMkDk (curK1 (ML.m_law_deck_8ff7 10896209 57)) (mCons (mVar 0) mNil)) ⟨[some (.d (.list (ns.map .int))), none, none, none, none, none, none, none, none, none], []⟩ = .ok (.o 0) ⟨[some (.d (.list (ns.map .int))), none, none, none, none, none, none, none, none, none], [deckK k0, cellsO (Dk.c k0)]⟩ := by
    unfold mMkDk
    simp -implicitDefEqProofs [e0]
  simp -implicitDefEqProofs [em, hR, e]
end
end K02
end

section
set_option Elab.async false
set_option linter.all false
set_option maxRecDepth 100000
open PySem PySem.W PyProof.Rows
set_option maxHeartbeats 0 in
theorem PySem.Challenge.cw_touchrings_k02_places_seats_steps_and_pa_holds : PySem.Challenge.rw_touchrings_k02_places_seats_steps_and_pa.Holds := by
  w_on; o_law; k_head; (case hw => w_witness2)
  k_fill
  refine DL.end_of (l := PySem.Challenge.rw_touchrings_k02_places_seats_steps_and_pa) (n := 63) (k := 11) (x := "_law_script") (sp := FL.finR (K02.m_law (ML.m_law_draw_600f 57 53))) rfl rfl (by decide) rfl ⟨rfl, by decide, by decide⟩ (fun w h Y => PySem.W.kIn_of Y) ?F (fun ns hl hb => ⟨.list (ns.map .int), rfl, rfl, K02.law_true ns hl hb, fun _ => rfl⟩)
  case F =>
    intro w mg fa h KX G hmg
    refine' K02.all_mk KX G hmg ?a0 ?l0 ?c0 ?k0 ?a1 ?l1 ?c1 ?k1 ?a2 ?l2 ?c2 ?k2 ?a3 ?l3 ?c3 ?k3 ?a4 ?l4 ?c4 ?k4 ?a5 ?l5 ?c5 ?k5 ?a6 ?l6 ?c6 ?k6 ?a7 ?l7 ?c7 ?k7 ?a8 ?l8 ?c8 ?k8 ?a9 ?l9 ?c9 ?k9 ?a10 ?l10 ?c10 ?k10 ?a11 ?l11 ?c11 ?k11 ?a12 ?l12 ?c12 ?k12 ?a13 ?l13 ?c13 ?k13 ?a14 ?l14 ?c14 ?k14 ?a15 ?l15 ?c15 ?k15 ?a16 ?l16 ?c16 ?k16 ?a17 ?l17 ?c17 ?k17 ?a18 ?l18 ?c18 ?k18 ?a19 ?l19 ?c19 ?k19 ?a20 ?l20 ?c20 ?k20 ?a21 ?l21 ?c21 ?k21 ?a22 ?l22 ?c22 ?k22 ?a23 ?l23 ?c23 ?k23 ?a24 ?l24 ?c24 ?k24 ?a25 ?l25 ?c25 ?k25 ?a26 ?l26 ?c26 ?k26 ?a27 ?l27 ?c27 ?k27 ?a28 ?l28 ?c28 ?k28 ?z0 ?z1 ?z2 ?z3 ?z4 ?z5 ?z6 ?z7 ?z8 ?z9 ?z10 ?z11 ?z12 ?z13 ?z14 ?z15 ?m0 ?xg0 ?xc0 ?xs0 ?xe0 ?xt0 ?xk0 ?xi0 ?xj0 ?xn0 ?xl0 ?xd0 ?xf0 ?xg1 ?xc1 ?xs1 ?xe1 ?xt1 ?xk1 ?xi1 ?xj1 ?xn1 ?xl1 ?xd1 ?xf1 ?xg2 ?xc2 ?xs2 ?xe2 ?xt2 ?xk2 ?xi2 ?xj2 ?xn2 ?xl2 ?xd2 ?xf2
    (case a0 => k_is); (case l0 => k_is); (case c0 => k_is); (case k0 => k_is); (case a1 => k_is); (case l1 => k_is); (case c1 => k_is); (case k1 => k_is); (case a2 => k_is); (case l2 => k_is); (case c2 => k_is); (case k2 => k_is); (case a3 => k_is); (case l3 => k_is); (case c3 => k_is); (case k3 => k_is); (case a4 => k_is); (case l4 => k_is); (case c4 => k_is); (case k4 => k_is); (case a5 => k_is); (case l5 => k_is); (case c5 => k_is); (case k5 => k_is); (case a6 => k_is); (case l6 => k_is); (case c6 => k_is); (case k6 => k_is); (case a7 => k_is); (case l7 => k_is); (case c7 => k_is); (case k7 => k_is); (case a8 => k_is); (case l8 => k_is); (case c8 => k_is); (case k8 => k_is); (case a9 => k_is); (case l9 => k_is); (case c9 => k_is); (case k9 => k_is); (case a10 => k_is); (case l10 => k_is); (case c10 => k_is); (case k10 => k_is); (case a11 => k_is); (case l11 => k_is); (case c11 => k_is); (case k11 => k_is); (case a12 => k_is); (case l12 => k_is); (case c12 => k_is); (case k12 => k_is); (case a13 => k_is); (case l13 => k_is); (case c13 => k_is); (case k13 => k_is); (case a14 => k_is); (case l14 => k_is); (case c14 => k_is); (case k14 => k_is); (case a15 => k_is); (case l15 => k_is); (case c15 => k_is); (case k15 => k_is); (case a16 => k_is); (case l16 => k_is); (case c16 => k_is); (case k16 => k_is); (case a17 => k_is); (case l17 => k_is); (case c17 => k_is); (case k17 => k_is); (case a18 => k_is); (case l18 => k_is); (case c18 => k_is); (case k18 => k_is); (case a19 => k_is); (case l19 => k_is); (case c19 => k_is); (case k19 => k_is); (case a20 => k_is); (case l20 => k_is); (case c20 => k_is); (case k20 => k_is); (case a21 => k_is); (case l21 => k_is); (case c21 => k_is); (case k21 => k_is); (case a22 => k_is); (case l22 => k_is); (case c22 => k_is); (case k22 => k_is); (case a23 => k_is); (case l23 => k_is); (case c23 => k_is); (case k23 => k_is); (case a24 => k_is); (case l24 => k_is); (case c24 => k_is); (case k24 => k_is); (case a25 => k_is); (case l25 => k_is); (case c25 => k_is); (case k25 => k_is); (case a26 => k_is); (case l26 => k_is); (case c26 => k_is); (case k26 => k_is); (case a27 => k_is); (case l27 => k_is); (case c27 => k_is); (case k27 => k_is); (case a28 => k_is); (case l28 => k_is); (case c28 => k_is); (case k28 => k_is); (case z0 => k_is); (case z1 => k_is); (case z2 => k_is); (case z3 => k_is); (case z4 => k_is); (case z5 => k_is); (case z6 => k_is); (case z7 => k_is); (case z8 => k_is); (case z9 => k_is); (case z10 => k_is); (case z11 => k_is); (case z12 => k_is); (case z13 => k_is); (case z14 => k_is); (case z15 => k_is); (case m0 => k_is); (case xg0 => k_is); (case xc0 => k_is); (case xs0 => k_is); (case xe0 => k_is); (case xt0 => k_is); (case xk0 => k_is); (case xi0 => k_is); (case xj0 => k_is); (case xn0 => k_is); (case xl0 => k_is); (case xd0 => k_is); (case xf0 => k_is); (case xg1 => k_is); (case xc1 => k_is); (case xs1 => k_is); (case xe1 => k_is); (case xt1 => k_is); (case xk1 => k_is); (case xi1 => k_is); (case xj1 => k_is); (case xn1 => k_is); (case xl1 => k_is); (case xd1 => k_is); (case xf1 => k_is); (case xg2 => k_is); (case xc2 => k_is); (case xs2 => k_is); (case xe2 => k_is); (case xt2 => k_is); (case xk2 => k_is); (case xi2 => k_is); (case xj2 => k_is); (case xn2 => k_is); (case xl2 => k_is); (case xd2 => k_is); (case xf2 => k_is)
end
