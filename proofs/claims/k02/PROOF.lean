import PyProof.Rows.All
import Wide.All
import OpenK.AllK
import Wide.FinOn
import PyProof.EqAt
import PyProof.EqKinds
import PyProof.TupleCall
import HandS.ForMost
import HandS.Exc
import HandS.ExcOwn
import HandS.CallSlots
import HandS.WordsExc
import HandS.TupAny
import HandS.Style
import HandS.Conv
import HandS.Wide
import HandS.TryOnly
import HandS.Zip
import KE.SortData
import PyProof.ReprRoads
import HandS.IsInst
import HandS.SortInts
import HandS.TupMul
import KE.GoesEnum
import HandS.TupSets
import HandS.TupLe
import KE.LtData
import PyProof.Rows.SumAny
import HandS.Ends
import HandS.EndBits
import PySem.Challenge.RW_touchrings_k02_places_seats_steps_and_pa
section
set_option Elab.async false
set_option linter.all false
set_option maxRecDepth 100000
set_option maxHeartbeats 1000000
set_option autoImplicit false
/-! ## A level of data over the hand layer: values without addresses, objects of one's own by number -/
namespace DL
open PySem PySem.Spec PyProof.Rows L2
abbrev St := L2.St

theorem nd_ixA {α : Type} {l : List α} (hN : l.Nodup) {i j : Nat} {x : α} (a : l[i]? = some x) (b : l[j]? = some x) : i = j := by
  obtain ⟨h1, e1⟩ := List.getElem?_eq_some_iff.mp a
  obtain ⟨h2, e2⟩ := List.getElem?_eq_some_iff.mp b
  exact (List.getElem_inj hN).mp (e1.trans e2.symm)
/-- a key as data -/
def kP : Key → PyData
  | .inl i => .int i
  | .inr x => .str x

mutual
/-- the value v is the data d, read in the heap G (which none will change) -/
inductive Rep (K : PySem.W.Frag) (G : Hp) : V → PyData → Prop
  | non : Rep K G .non .none
  | bl (b : Bool) : Rep K G (.bl b) (.bool b)
  | int (i : Int) : Rep K G (.int i) (.int i)
  | str (x : Str) : Rep K G (.str x) (.str x)
  | lst {a : Addr} {xs : List V} {ds : List PyData} : SqL K G a xs → Reps K G xs ds → Rep K G (.ref a) (.list ds)
  | tup {a : Addr} {xs : List V} {ds : List PyData} : G a = some (.tup xs) → Reps K G xs ds → Rep K G (.ref a) (.tuple ds)
  | dK {a : Addr} {kvs : List (Key × V)} {ds : List PyData} : G a = some (.dK kvs) → Reps K G (kvs.map (·.2)) ds → Rep K G (.ref a) (.dict ((kvs.map fun p => kP p.1).zip ds))
  | dT {a : Addr} {kvs : List (List Key × V)} {ds : List PyData} : G a = some (.dT kvs) → Reps K G (kvs.map (·.2)) ds → Rep K G (.ref a) (.dict ((.none, .none) :: (kvs.map fun p => .tuple (p.1.map kP)).zip ds))
inductive Reps (K : PySem.W.Frag) (G : Hp) : List V → List PyData → Prop
  | nil : Reps K G [] []
  | cons {v : V} {vs : List V} {d : PyData} {ds : List PyData} : Rep K G v d → Reps K G vs ds → Reps K G (v :: vs) (d :: ds)
end

section
variable {K : PySem.W.Frag} {G G' : Hp}
theorem same_sqT {a : Addr} {xs : List V} (e : Same G G') (h : SqT K G a xs) : SqT K G' a xs := by
  rcases h with (h | ⟨o, h⟩) | h
  · exact .inl (.inl (e _ _ h))
  · exact .inl (.inr ⟨o, e _ _ h⟩)
  · exact .inr h
mutual
theorem Rep.mono (e : Same G G') : ∀ {v : V} {d : PyData}, Rep K G v d → Rep K G' v d
  | _, _, .non => .non
  | _, _, .bl b => .bl b
  | _, _, .int i => .int i
  | _, _, .str x => .str x
  | _, _, .lst h r => .lst (e.seq h) (Reps.mono e r)
  | _, _, .tup h r => .tup (e _ _ h) (Reps.mono e r)
  | _, _, .dK h r => .dK (e _ _ h) (Reps.mono e r)
  | _, _, .dT h r => .dT (e _ _ h) (Reps.mono e r)
theorem Reps.mono (e : Same G G') : ∀ {v : List V} {d : List PyData}, Reps K G v d → Reps K G' v d
  | _, _, .nil => .nil
  | _, _, .cons h r => .cons (Rep.mono e h) (Reps.mono e r)
end
theorem Reps.length : ∀ {v : List V} {d : List PyData}, Reps K G v d → v.length = d.length
  | _, _, .nil => rfl
  | _, _, .cons _ r => by rw [List.length_cons, List.length_cons, Reps.length r]
theorem Reps.get : ∀ {v : List V} {d : List PyData}, Reps K G v d → ∀ {i : Nat} {x : PyData}, d[i]? = some x → ∃ u, v[i]? = some u ∧ Rep K G u x
  | _, _, .nil, i, x, h => by simp at h
  | _, _, .cons h r, 0, x, e => by simp at e; subst e; exact ⟨_, rfl, h⟩
  | _, _, .cons h r, i + 1, x, e => by
    obtain ⟨u, h1, h2⟩ := Reps.get r (i := i) (x := x) (by simpa using e)
    exact ⟨u, by simpa using h1, h2⟩
theorem Reps.getV : ∀ {v : List V} {d : List PyData}, Reps K G v d → ∀ {i : Nat} {x : V}, v[i]? = some x → ∃ u, d[i]? = some u ∧ Rep K G x u
  | _, _, .nil, i, x, h => by simp at h
  | _, _, .cons h r, 0, x, e => by simp at e; subst e; exact ⟨_, rfl, h⟩
  | _, _, .cons h r, i + 1, x, e => by
    obtain ⟨u, h1, h2⟩ := Reps.getV r (i := i) (x := x) (by simpa using e)
    exact ⟨u, by simpa using h1, h2⟩
theorem Reps.append : ∀ {v w : List V} {d e : List PyData}, Reps K G v d → Reps K G w e → Reps K G (v ++ w) (d ++ e)
  | _, _, _, _, .nil, h => h
  | _, _, _, _, .cons h r, q => .cons h (Reps.append r q)
theorem Reps.take : ∀ {v : List V} {d : List PyData} (n : Nat), Reps K G v d → Reps K G (v.take n) (d.take n)
  | _, _, 0, _ => .nil
  | _, _, _ + 1, .nil => .nil
  | _, _, n + 1, .cons h r => .cons h (Reps.take n r)
theorem Reps.drop : ∀ {v : List V} {d : List PyData} (n : Nat), Reps K G v d → Reps K G (v.drop n) (d.drop n)
  | _, _, 0, r => r
  | _, _, _ + 1, .nil => .nil
  | _, _, n + 1, .cons h r => Reps.drop n r
theorem Reps.reverse : ∀ {v : List V} {d : List PyData}, Reps K G v d → Reps K G v.reverse d.reverse
  | _, _, .nil => .nil
  | _, _, .cons h r => by
    rw [List.reverse_cons, List.reverse_cons]
    exact (Reps.reverse r).append (.cons h .nil)
end

/-! ### values and objects -/
/-- data, or one's own object by its number -/
inductive DV where
  | d (x : PyData)
  | o (k : Nat)
/-- an object of one's own, that may be changed -/
inductive OB where
  | lst (xs : List DV)
  | dk (kvs : List (Key × DV))
  | dt (kvs : List (List Key × DV))
  | gone
/-- the store: the slots of the names, the objects -/
structure S where
  sl : List (Option DV)
  ob : List OB
/-- an exception: its class, its fields (none: it has no dict of its own) -/
structure XD where
  cls : Addr
  fs : Option (List (Str × DV))

def RepV (K : PySem.W.Frag) (G : Hp) (as : List Addr) (v : V) : DV → Prop
  | .d x => Rep K G v x
  | .o k => ∃ a, as[k]? = some a ∧ v = .ref a
inductive RepVs (K : PySem.W.Frag) (G : Hp) (as : List Addr) : List V → List DV → Prop
  | nil : RepVs K G as [] []
  | cons {v : V} {vs : List V} {d : DV} {ds : List DV} : RepV K G as v d → RepVs K G as vs ds → RepVs K G as (v :: vs) (d :: ds)
def ObAt (K : PySem.W.Frag) (G H : Hp) (as : List Addr) (a : Addr) : OB → Prop
  | .lst xs => ∃ vs, H a = some (.lst vs) ∧ RepVs K G as vs xs
  | .dk kvs => ∃ ws : List (Key × V), H a = some (.dK ws) ∧ ws.map (·.1) = kvs.map (·.1) ∧ RepVs K G as (ws.map (·.2)) (kvs.map (·.2))
  | .dt kvs => ∃ ws : List (List Key × V), H a = some (.dT ws) ∧ ws.map (·.1) = kvs.map (·.1) ∧ RepVs K G as (ws.map (·.2)) (kvs.map (·.2))
  | .gone => True
/-- memory: F what is others' (kept), G what is known (kept), H all, as where one's own objects stand -/
structure Mem (K : PySem.W.Frag) (F G H : Hp) (as : List Addr) (ob : List OB) : Prop where
  gh : Same G H
  fh : Same F H
  gf : ∀ a o, F a = some o → G a = none
  nd : as.Nodup
  len : as.length = ob.length
  al : ∀ a ∈ as, ∃ o, H a = some o
  ofr : ∀ a ∈ as, F a = none
  own : ∀ (k : Nat) (a : Addr) (x : OB), as[k]? = some a → ob[k]? = some x → x ≠ OB.gone → G a = none
  at_ : ∀ (k : Nat) (a : Addr) (x : OB), as[k]? = some a → ob[k]? = some x → ObAt K G H as a x
structure Ok (K : PySem.W.Frag) (ρ : S) (σ : St) (F G H : Hp) (as : List Addr) : Prop where
  mem : Mem K F G H as ρ.ob
  sll : σ.length = ρ.sl.length
  sl : ∀ (i : Nat) (dv : DV), ρ.sl[i]? = some (some dv) → ∃ v, σ[i]? = some (some v) ∧ RepV K G as v dv
/-- what grows -/
structure Nxt (G : Hp) (as : List Addr) (G' : Hp) (as' : List Addr) : Prop where
  g : Same G G'
  a : ∃ r, as' = as ++ r
theorem Nxt.refl (G : Hp) (as : List Addr) : Nxt G as G as := ⟨Same.refl G, [], (List.append_nil as).symm⟩
theorem Nxt.trans {G G1 G2 : Hp} {as as1 as2 : List Addr} (x : Nxt G as G1 as1) (y : Nxt G1 as1 G2 as2) : Nxt G as G2 as2 := by
  obtain ⟨r, e⟩ := x.a
  obtain ⟨r', e'⟩ := y.a
  exact ⟨x.g.trans y.g, r ++ r', by rw [e', e, List.append_assoc]⟩
theorem Nxt.get {G G' : Hp} {as as' : List Addr} (x : Nxt G as G' as') {k : Nat} {a : Addr} (h : as[k]? = some a) : as'[k]? = some a := by
  obtain ⟨r, e⟩ := x.a
  rw [e, List.getElem?_append_left (List.getElem?_eq_some_iff.mp h).1]
  exact h
section
variable {K : PySem.W.Frag} {F G G' H : Hp} {as as' : List Addr}
theorem RepV.mono (n : Nxt G as G' as') {v : V} : ∀ {d : DV}, RepV K G as v d → RepV K G' as' v d
  | .d _, h => Rep.mono n.g h
  | .o _, ⟨a, h, e⟩ => ⟨a, n.get h, e⟩
theorem RepVs.mono (n : Nxt G as G' as') : ∀ {v : List V} {d : List DV}, RepVs K G as v d → RepVs K G' as' v d
  | _, _, .nil => .nil
  | _, _, .cons h r => .cons (RepV.mono n h) (RepVs.mono n r)
theorem RepVs.length : ∀ {v : List V} {d : List DV}, RepVs K G as v d → v.length = d.length
  | _, _, .nil => rfl
  | _, _, .cons _ r => by rw [List.length_cons, List.length_cons, RepVs.length r]
theorem RepVs.get : ∀ {v : List V} {d : List DV}, RepVs K G as v d → ∀ {i : Nat} {x : DV}, d[i]? = some x → ∃ u, v[i]? = some u ∧ RepV K G as u x
  | _, _, .nil, i, x, h => by simp at h
  | _, _, .cons h r, 0, x, e => by simp at e; subst e; exact ⟨_, rfl, h⟩
  | _, _, .cons h r, i + 1, x, e => by
    obtain ⟨u, h1, h2⟩ := RepVs.get r (i := i) (x := x) (by simpa using e)
    exact ⟨u, by simpa using h1, h2⟩
theorem RepVs.append : ∀ {v w : List V} {d e : List DV}, RepVs K G as v d → RepVs K G as w e → RepVs K G as (v ++ w) (d ++ e)
  | _, _, _, _, .nil, h => h
  | _, _, _, _, .cons h r, q => .cons h (RepVs.append r q)
theorem RepVs.of : ∀ {v : List V} {d : List PyData}, Reps K G v d → RepVs K G as v (d.map .d)
  | _, _, .nil => .nil
  | _, _, .cons h r => .cons h (RepVs.of r)
theorem RepVs.to : ∀ {v : List V} {d : List PyData}, RepVs K G as v (d.map .d) → Reps K G v d
  | _, [], h => by cases h; exact .nil
  | _, x :: r, h => by cases h with | cons a b => exact .cons a (RepVs.to b)
theorem RepVs.set {x : V} {dx : DV} (hx : RepV K G as x dx) : ∀ {v : List V} {d : List DV} (i : Nat), RepVs K G as v d → RepVs K G as (v.set i x) (d.set i dx)
  | _, _, _, .nil => .nil
  | _, _, 0, .cons _ r => .cons hx r
  | _, _, i + 1, .cons h r => .cons h (RepVs.set hx i r)
theorem RepVs.take : ∀ {v : List V} {d : List DV} (n : Nat), RepVs K G as v d → RepVs K G as (v.take n) (d.take n)
  | _, _, 0, _ => .nil
  | _, _, _ + 1, .nil => .nil
  | _, _, n + 1, .cons h r => .cons h (RepVs.take n r)
theorem RepVs.drop : ∀ {v : List V} {d : List DV} (n : Nat), RepVs K G as v d → RepVs K G as (v.drop n) (d.drop n)
  | _, _, 0, r => r
  | _, _, _ + 1, .nil => .nil
  | _, _, n + 1, .cons h r => RepVs.drop n r
theorem ObAt.mono (n : Nxt G as G' as') {a : Addr} {H H' : Hp} (hh : ∀ o, H a = some o → H' a = some o) : ∀ {x : OB}, ObAt K G H as a x → ObAt K G' H' as' a x
  | .lst _, ⟨vs, h, r⟩ => ⟨vs, hh _ h, r.mono n⟩
  | .dk _, ⟨vs, h, e, r⟩ => ⟨vs, hh _ h, e, r.mono n⟩
  | .dt _, ⟨vs, h, e, r⟩ => ⟨vs, hh _ h, e, r.mono n⟩
  | .gone, _ => trivial
theorem Mem.fresh {ob : List OB} (m : Mem K F G H as ob) {p : Addr} (h : H p = none) : G p = none ∧ F p = none ∧ p ∉ as :=
  ⟨m.gh.free h, m.fh.free h, fun hm => by
    obtain ⟨o, e⟩ := m.al p hm
    rw [h] at e
    cases e⟩
/-- an object laid anew that is known from then on -/
theorem Mem.new {ob : List OB} (m : Mem K F G H as ob) {p : Addr} {o : HO} (h : H p = none) : Mem K F (upd G p o) (upd H p o) as ob := by
  obtain ⟨f1, f2, f3⟩ := m.fresh h
  have ne : ∀ b ∈ as, b ≠ p := fun b hb e => f3 (e ▸ hb)
  have g : Same G (upd G p o) := fun b x e => by
    rw [upd_ne (ne_of_none e f1)]
    exact e
  refine ⟨fun b x e => ?_, fun b x e => ?_, fun b x e => ?_, m.nd, m.len, fun b hb => ?_, m.ofr, fun k b x e1 e2 e3 => ?_, fun k b x e1 e2 => ?_⟩
  · by_cases hb : b = p
    · subst hb
      rw [upd_same] at e ⊢
      exact e
    · rw [upd_ne hb] at e ⊢
      exact m.gh b x e
  · rw [upd_ne (ne_of_none e f2)]
    exact m.fh b x e
  · rw [upd_ne (ne_of_none e f2)]
    exact m.gf b x e
  · rw [upd_ne (ne b hb)]
    exact m.al b hb
  · rw [upd_ne (ne b (List.mem_of_getElem? e1))]
    exact m.own k b x e1 e2 e3
  · exact (m.at_ k b x e1 e2).mono ⟨g, [], (List.append_nil as).symm⟩ fun u q => by
      rw [upd_ne (ne b (List.mem_of_getElem? e1))]
      exact q
theorem same_new {G : Hp} {p : Addr} {o : HO} (h : G p = none) : Same G (upd G p o) := fun b x e => by
  rw [upd_ne (ne_of_none e h)]
  exact e
theorem Mem.nxt {ob : List OB} (m : Mem K F G H as ob) {p : Addr} {o : HO} (h : H p = none) : Nxt G as (upd G p o) as := ⟨same_new (m.fresh h).1, [], (List.append_nil as).symm⟩
/-- an object laid anew that is one's own -/
theorem Mem.mine {ob : List OB} (m : Mem K F G H as ob) {p : Addr} {o : HO} {x : OB} (h : H p = none) (hx : ObAt K G (upd H p o) (as ++ [p]) p x) : Mem K F G (upd H p o) (as ++ [p]) (ob ++ [x]) := by
  obtain ⟨f1, f2, f3⟩ := m.fresh h
  have ne : ∀ b ∈ as, b ≠ p := fun b hb e => f3 (e ▸ hb)
  have spl : ∀ {k b}, (as ++ [p])[k]? = some b → (as[k]? = some b ∧ k < as.length) ∨ (k = as.length ∧ b = p) := fun {k b} e => by
    by_cases hk : k < as.length
    · rw [List.getElem?_append_left hk] at e
      exact .inl ⟨e, hk⟩
    · rw [List.getElem?_append_right (by omega)] at e
      have : k - as.length = 0 := by
        have := (List.getElem?_eq_some_iff.mp e).1
        simp at this
        omega
      rw [this] at e
      simp at e
      exact .inr ⟨by omega, e.symm⟩
  refine ⟨fun b x e => ?_, fun b x e => ?_, m.gf, ?_, by rw [List.length_append, List.length_append, m.len]; rfl, fun b hb => ?_, fun b hb => ?_, fun k b y e1 e2 e3 => ?_, fun k b y e1 e2 => ?_⟩
  · rw [upd_ne (ne_of_none e f1)]
    exact m.gh b x e
  · rw [upd_ne (ne_of_none e f2)]
    exact m.fh b x e
  · rw [List.nodup_append]
    exact ⟨m.nd, by simp, fun a ha b hb => by
      have : b = p := by simpa using hb
      subst this
      exact ne a ha⟩
  · by_cases hp : b = p
    · subst hp
      exact ⟨o, upd_same⟩
    · rw [upd_ne hp]
      rcases List.mem_append.mp hb with hb | hb
      · exact m.al b hb
      · exact absurd (by simpa using hb) hp
  · rcases List.mem_append.mp hb with hb | hb
    · exact m.ofr b hb
    · have : b = p := by simpa using hb
      rw [this]
      exact f2
  · rcases spl e1 with ⟨e, hk⟩ | ⟨_, e⟩
    · rw [List.getElem?_append_left (by rw [← m.len]; exact hk)] at e2
      exact m.own k b y e e2 e3
    · rw [e]
      exact f1
  · rcases spl e1 with ⟨e, hk⟩ | ⟨ek, e⟩
    · rw [List.getElem?_append_left (by rw [← m.len]; exact hk)] at e2
      exact (m.at_ k b y e e2).mono ⟨Same.refl G, [p], rfl⟩ fun u q => by
        rw [upd_ne (ne b (List.mem_of_getElem? e))]
        exact q
    · subst e
      rw [List.getElem?_append_right (by rw [← m.len]; omega)] at e2
      have : k - ob.length = 0 := by rw [← m.len]; omega
      rw [this] at e2
      have e2 : some x = some y := e2
      cases e2
      exact hx
/-- one's own object is changed -/
theorem Mem.wr {ob : List OB} (m : Mem K F G H as ob) {k : Nat} {a : Addr} {o : HO} {x y : OB} (ha : as[k]? = some a) (hk : ob[k]? = some x) (hg : x ≠ OB.gone) (hx : ObAt K G (upd H a o) as a y) : Mem K F G (upd H a o) as (ob.set k y) := by
  have ga := m.own k a x ha hk hg
  have fa := m.ofr a (List.mem_of_getElem? ha)
  have dist : ∀ {j b}, as[j]? = some b → j ≠ k → b ≠ a := fun {j b} e hj e' => by
    subst e'
    exact hj (nd_ixA m.nd e ha)
  refine ⟨fun b x e => ?_, fun b x e => ?_, m.gf, m.nd, by rw [List.length_set]; exact m.len, fun b hb => ?_, m.ofr, fun j b z e1 e2 e3 => ?_, fun j b z e1 e2 => ?_⟩
  · rw [upd_ne (ne_of_none e ga)]
    exact m.gh b x e
  · rw [upd_ne (ne_of_none e fa)]
    exact m.fh b x e
  · by_cases hb' : b = a
    · subst hb'
      exact ⟨o, upd_same⟩
    · rw [upd_ne hb']
      exact m.al b hb
  · by_cases hj : j = k
    · subst hj
      rw [ha] at e1
      cases e1
      exact ga
    · rw [List.getElem?_set_ne (Ne.symm hj)] at e2
      exact m.own j b z e1 e2 e3
  · by_cases hj : j = k
    · subst hj
      rw [ha] at e1
      cases e1
      rw [List.getElem?_set_self (List.getElem?_eq_some_iff.mp hk).1] at e2
      cases e2
      exact hx
    · rw [List.getElem?_set_ne (Ne.symm hj)] at e2
      exact (m.at_ j b z e1 e2).mono (Nxt.refl _ _) fun u q => by
        rw [upd_ne (dist e1 hj)]
        exact q
/-- one's own object is known from now on -/
theorem Mem.fz {ob : List OB} (m : Mem K F G H as ob) {k : Nat} {a : Addr} {o : HO} (ha : as[k]? = some a) (ho : H a = some o) (hga : G a = none) : Mem K F (upd G a o) H as (ob.set k .gone) := by
  have fa := m.ofr a (List.mem_of_getElem? ha)
  have g : Same G (upd G a o) := same_new hga
  have dist : ∀ {j b}, as[j]? = some b → j ≠ k → b ≠ a := fun {j b} e hj e' => by
    subst e'
    exact hj (nd_ixA m.nd e ha)
  refine ⟨fun b x e => ?_, m.fh, fun b x e => ?_, m.nd, by rw [List.length_set]; exact m.len, m.al, m.ofr, fun j b z e1 e2 e3 => ?_, fun j b z e1 e2 => ?_⟩
  · by_cases hb : b = a
    · subst hb
      rw [upd_same] at e
      cases e
      exact ho
    · rw [upd_ne hb] at e
      exact m.gh b x e
  · have : b ≠ a := fun e' => by
      rw [e', fa] at e
      cases e
    rw [upd_ne this]
    exact m.gf b x e
  · by_cases hj : j = k
    · subst hj
      have hl : j < ob.length := by
        have := (List.getElem?_eq_some_iff.mp ha).1
        rw [m.len] at this
        exact this
      rw [List.getElem?_set_self hl] at e2
      cases e2
      exact absurd rfl e3
    · rw [List.getElem?_set_ne (Ne.symm hj)] at e2
      rw [upd_ne (dist e1 hj)]
      exact m.own j b z e1 e2 e3
  · by_cases hj : j = k
    · subst hj
      have hl : j < ob.length := by
        have := (List.getElem?_eq_some_iff.mp ha).1
        rw [m.len] at this
        exact this
      rw [List.getElem?_set_self hl] at e2
      cases e2
      trivial
    · rw [List.getElem?_set_ne (Ne.symm hj)] at e2
      exact (m.at_ j b z e1 e2).mono ⟨g, [], (List.append_nil as).symm⟩ fun u q => q
end
end DL
end

section
set_option Elab.async false
set_option linter.all false
set_option maxRecDepth 100000
set_option maxHeartbeats 1000000
set_option autoImplicit false
namespace DL
open PySem PySem.Spec PyProof.Rows L2

abbrev QD := DV → S → Prop
abbrev QX := XD → S → Prop
abbrev WE := S → QD → QX → Prop
abbrev WT := S → (Bool → S → Prop) → QX → Prop
abbrev WA := S → (List DV → S → Prop) → QX → Prop
structure DEnds where
  nx : S → Prop
  rt : QD
  bk : S → Prop
  ct : S → Prop
  xr : QX
abbrev WS := DEnds → S → Prop

def XRep (K : PySem.W.Frag) (G H : Hp) (as : List Addr) (d : Option Addr) : Option (List (Str × DV)) → Prop
  | none => d = none
  | some l => ∃ (dd : Addr) (ws : List (Str × V)), d = some dd ∧ H dd = some (.xd ws) ∧ ws.map (·.1) = l.map (·.1) ∧ RepVs K G as (ws.map (·.2)) (l.map (·.2))
def AccE (K : PySem.W.Frag) (F G : Hp) (as : List Addr) (σ : St) (W : WX) (X : QX) : Prop :=
  ∀ (xd : XD) (ρ' : S) (d : Option Addr) (G' H' : Hp) (as' : List Addr), X xd ρ' → Ok K ρ' σ F G' H' as' → Nxt G as G' as' → XRep K G' H' as' d xd.fs → W (.ref xd.cls) d σ H'
def AccS (K : PySem.W.Frag) (F G : Hp) (as : List Addr) (W : WX) (X : QX) : Prop :=
  ∀ (xd : XD) (ρ' : S) (σ' : St) (d : Option Addr) (G' H' : Hp) (as' : List Addr), X xd ρ' → Ok K ρ' σ' F G' H' as' → Nxt G as G' as' → XRep K G' H' as' d xd.fs → W (.ref xd.cls) d σ' H'
/-- what is wished behind a value -/
def Kv (K : PySem.W.Frag) (F G : Hp) (as : List Addr) (σ : St) (Q : QD) (C : VK) : Prop :=
  ∀ (dv : DV) (ρ' : S) (v : V) (G' H' : Hp) (as' : List Addr), Q dv ρ' → Ok K ρ' σ F G' H' as' → Nxt G as G' as' → RepV K G' as' v dv → C v H'
def DE (K : PySem.W.Frag) (t : WX → TE) (ρ : S) (Q : QD) (X : QX) : Prop :=
  ∀ (W : WX) (σ : St) (F G H : Hp) (as : List Addr), Ok K ρ σ F G H as → AccE K F G as σ W X → ∀ C : VK, Kv K F G as σ Q C → t W σ H C
def DT (K : PySem.W.Frag) (t : WX → TT) (ρ : S) (Q : Bool → S → Prop) (X : QX) : Prop :=
  ∀ (W : WX) (σ : St) (F G H : Hp) (as : List Addr), Ok K ρ σ F G H as → AccE K F G as σ W X → ∀ C : Bool → Hp → Prop,
    (∀ (b : Bool) (ρ' : S) (G' H' : Hp) (as' : List Addr), Q b ρ' → Ok K ρ' σ F G' H' as' → Nxt G as G' as' → C b H') → t W σ H C
def DA (K : PySem.W.Frag) (t : WX → TA) (ρ : S) (Q : List DV → S → Prop) (X : QX) : Prop :=
  ∀ (W : WX) (σ : St) (F G H : Hp) (as : List Addr), Ok K ρ σ F G H as → AccE K F G as σ W X → ∀ C : List V → Hp → Prop,
    (∀ (dvs : List DV) (ρ' : S) (vs : List V) (G' H' : Hp) (as' : List Addr), Q dvs ρ' → Ok K ρ' σ F G' H' as' → Nxt G as G' as' → RepVs K G' as' vs dvs → C vs H') → t W σ H C
structure LiftE (K : PySem.W.Frag) (F G : Hp) (as : List Addr) (E : DEnds) (D : Ends) : Prop where
  nx : ∀ (ρ' : S) (σ' : St) (G' H' : Hp) (as' : List Addr), E.nx ρ' → Ok K ρ' σ' F G' H' as' → Nxt G as G' as' → D.nx σ' H'
  rt : ∀ (dv : DV) (ρ' : S) (σ' : St) (v : V) (G' H' : Hp) (as' : List Addr), E.rt dv ρ' → Ok K ρ' σ' F G' H' as' → Nxt G as G' as' → RepV K G' as' v dv → D.rt v H'
  bk : ∀ (ρ' : S) (σ' : St) (G' H' : Hp) (as' : List Addr), E.bk ρ' → Ok K ρ' σ' F G' H' as' → Nxt G as G' as' → D.bk σ' H'
  ct : ∀ (ρ' : S) (σ' : St) (G' H' : Hp) (as' : List Addr), E.ct ρ' → Ok K ρ' σ' F G' H' as' → Nxt G as G' as' → D.ct σ' H'
def DS (K : PySem.W.Frag) (t : WX → TS) (ρ : S) (E : DEnds) : Prop :=
  ∀ (W : WX) (σ : St) (F G H : Hp) (as : List Addr), Ok K ρ σ F G H as → AccS K F G as W E.xr → ∀ D : Ends, LiftE K F G as E D → t W D σ H

section
variable {K : PySem.W.Frag} {F G G' : Hp} {as as' : List Addr} {σ : St} {W : WX} {X : QX}
theorem AccE.next (n : Nxt G as G' as') (h : AccE K F G as σ W X) : AccE K F G' as' σ W X := fun xd ρ' d G2 H2 as2 q o m r => h xd ρ' d G2 H2 as2 q o (n.trans m) r
theorem AccS.next (n : Nxt G as G' as') (h : AccS K F G as W X) : AccS K F G' as' W X := fun xd ρ' σ' d G2 H2 as2 q o m r => h xd ρ' σ' d G2 H2 as2 q o (n.trans m) r
theorem AccS.at (h : AccS K F G as W X) (σ : St) : AccE K F G as σ W X := fun xd ρ' d G2 H2 as2 q o m r => h xd ρ' σ d G2 H2 as2 q o m r
theorem Kv.next {Q : QD} {C : VK} (n : Nxt G as G' as') (h : Kv K F G as σ Q C) : Kv K F G' as' σ Q C := fun dv ρ' v G2 H2 as2 q o m r => h dv ρ' v G2 H2 as2 q o (n.trans m) r
theorem LiftE.next {E : DEnds} {D : Ends} (n : Nxt G as G' as') (h : LiftE K F G as E D) : LiftE K F G' as' E D :=
  ⟨fun ρ' σ' G2 H2 as2 q o m => h.nx ρ' σ' G2 H2 as2 q o (n.trans m), fun dv ρ' σ' v G2 H2 as2 q o m r => h.rt dv ρ' σ' v G2 H2 as2 q o (n.trans m) r,
   fun ρ' σ' G2 H2 as2 q o m => h.bk ρ' σ' G2 H2 as2 q o (n.trans m), fun ρ' σ' G2 H2 as2 q o m => h.ct ρ' σ' G2 H2 as2 q o (n.trans m)⟩
end

/-! ### the contexts in which a piece of text may run -/
structure Sta where
  P : Program
  w : World
  K : PySem.W.Frag
  mg : Str → Option Value
  base : Heap
  N : List Str
  sc : Scope
  k : Nat
  top : Bool
structure Good (T : Sta) (X : Cx) : Prop where
  P : X.prog = T.P
  w : X.w = T.w
  K : X.K = T.K
  mg : X.mg = T.mg
  base : X.base = T.base
  N : X.N = T.N
  sc : X.env.scope = T.sc
  calm : X.calm = true
  room : Room T.k X.A
  nd : T.N.Nodup
  fn : T.top = true → ∀ x, X.fn x = true
  po : PassesOwn (model X.prog X.w) X.A X.env X.xe
  gds : X.A.guards = some []

def PD (T : Sta) (e : Expr) (w : WE) : Prop := ∃ t : WX → TE, (∀ W X, Good T X → Takes X W → PE X e (t W)) ∧ ∀ ρ Q Xq, w ρ Q Xq → DE T.K t ρ Q Xq
def PDT (T : Sta) (e : Expr) (w : WT) : Prop := ∃ t : WX → TT, (∀ W X, Good T X → Takes X W → PT X e (t W)) ∧ ∀ ρ Q Xq, w ρ Q Xq → DT T.K t ρ Q Xq
def PDW (T : Sta) (e : Expr) (w : WT) : Prop := ∃ t : WX → TT, (∀ W X, Good T X → Takes X W → PW X e (t W)) ∧ ∀ ρ Q Xq, w ρ Q Xq → DT T.K t ρ Q Xq
def PDA (T : Sta) (es : List Expr) (w : WA) : Prop := ∃ t : WX → TA, (∀ W X, Good T X → Takes X W → PA X es (t W)) ∧ ∀ ρ Q Xq, w ρ Q Xq → DA T.K t ρ Q Xq
def PDS (T : Sta) (st : Stmt) (w : WS) : Prop := ∃ t : WX → TS, (∀ W X, Good T X → Takes X W → PS X st (t W)) ∧ ∀ ρ E, w E ρ → DS T.K t ρ E
def PDSs (T : Sta) (st : List Stmt) (w : WS) : Prop := ∃ t : WX → TS, (∀ W X, Good T X → Takes X W → PSs X st (t W)) ∧ ∀ ρ E, w E ρ → DS T.K t ρ E

def slot : List (Option DV) → Nat → Option DV
  | [], _ => none
  | x :: _, 0 => x
  | _ :: r, n + 1 => slot r n
theorem slot_get : ∀ {l : List (Option DV)} {i : Nat} {x : DV}, slot l i = some x → l[i]? = some (some x)
  | [], _, _, h => by cases h
  | y :: _, 0, x, h => by
    have h : y = some x := h
    rw [h]
    rfl
  | _ :: r, i + 1, x, h => by
    rw [List.getElem?_cons_succ]
    exact slot_get (l := r) h

section
variable {T : Sta} {pos : Pos} {a b c e : Expr} {es : List Expr} {wa wb wc we : WE} {w : WA} {wt wu : WT} {K : PySem.W.Frag}

/-! ### names, constants -/
def wVar (i : Nat) : WE := fun ρ Q _ => match slot ρ.sl i with
  | some dv => Q dv ρ
  | none => False
theorem de_var {i : Nat} {ρ : S} {Q : QD} {X : QX} (h : wVar i ρ Q X) : DE K (fun _ => tVar i) ρ Q X := by
  intro W σ F G H as ok _ C k
  unfold wVar at h
  cases hs : slot ρ.sl i with
  | none =>
    rw [hs] at h
    exact h.elim
  | some dv =>
    rw [hs] at h
    obtain ⟨v, e, r⟩ := ok.sl i dv (slot_get hs)
    exact ⟨v, e, k dv ρ v G H as h ok (Nxt.refl _ _) r⟩
theorem pd_var {x : Str} (i : Nat) (hN : T.N[i]? = some x := by rfl) (hv : Vis T.sc x := by first | exact Or.inl rfl | exact Or.inr (Or.inl rfl) | exact Or.inr (Or.inr rfl)) (hd : (x == ("__debug__" : Str)) = false := by decide)
    (hcd : (x == ("__classdict__" : Str)) = false := by decide) : PD T (.Name x pos) (wVar i) :=
  ⟨fun _ => tVar i, fun W X g _ => pe_var (by rw [g.N]; exact hN) (by rw [g.sc]; exact hv) hd hcd, fun _ _ _ h => de_var h⟩
/-- a value without an address -/
def scV : PyData → V
  | .none => .non
  | .bool b => .bl b
  | .int i => .int i
  | .str x => .str x
  | _ => .non
def isSc : PyData → Bool
  | .none | .bool _ | .int _ | .str _ => true
  | _ => false
theorem rep_sc {G : Hp} : ∀ {x : PyData}, isSc x = true → Rep K G (scV x) x
  | .none, _ => .non
  | .bool b, _ => .bl b
  | .int i, _ => .int i
  | .str x, _ => .str x
def wC (x : PyData) : WE := fun ρ Q _ => Q (.d x) ρ
theorem de_c {x : PyData} {ρ : S} {Q : QD} {X : QX} (hx : isSc x = true) (h : wC x ρ Q X) : DE K (fun _ => tC (scV x)) ρ Q X :=
  fun W σ F G H as ok _ C k => k (.d x) ρ _ G H as h ok (Nxt.refl _ _) (rep_sc hx)
theorem pd_int {i j} : PD T (.Constant (.int i) j pos) (wC (.int i)) := ⟨fun _ => tC (.int i), fun _ _ _ _ => pe_int, fun _ _ _ h => de_c (x := .int i) rfl h⟩
theorem pd_bl {i j} : PD T (.Constant (.bool i) j pos) (wC (.bool i)) := ⟨fun _ => tC (.bl i), fun _ _ _ _ => pe_bl, fun _ _ _ h => de_c (x := .bool i) rfl h⟩
theorem pd_non {j} : PD T (.Constant .none j pos) (wC .none) := ⟨fun _ => tC .non, fun _ _ _ _ => pe_non, fun _ _ _ h => de_c (x := .none) rfl h⟩
theorem pd_str {i j} : PD T (.Constant (.str i) j pos) (wC (.str i)) := ⟨fun _ => tC (.str i), fun _ _ _ _ => pe_str, fun _ _ _ h => de_c (x := .str i) rfl h⟩
theorem pd_globI {x : Str} {i : Int} (hg : T.sc.names.lookup x = some .globalImplicit) (hm : ∃ t, T.mg x = some (.int i t)) (hd : (x == ("__debug__" : Str)) = false := by decide) : PD T (.Name x pos) (wC (.int i)) := by
  obtain ⟨t, hm⟩ := hm
  exact ⟨fun _ => tC (.int i), fun _ X g _ => pe_glob (by show X.env.scope.names.lookup x = _; rw [g.sc]; exact hg) (by rw [g.mg]; exact hm) ⟨t, rfl⟩ hd, fun _ _ _ h => de_c (x := .int i) rfl h⟩

/-! ### operators by values -/
/-- the reading r of an operation, said of data: R -/
def OpD (K : PySem.W.Frag) (r : R2) (R : DV → DV → S → QD → Prop) : Prop :=
  ∀ (x y : DV) (ρ : S) (Q : QD), R x y ρ Q → ∀ (σ : St) (F G H : Hp) (as : List Addr) (v u : V), Ok K ρ σ F G H as → RepV K G as v x → RepV K G as u y → ∀ C : VK, Kv K F G as σ Q C → r v u H C
def UnD (K : PySem.W.Frag) (r : V → Hp → VK → Prop) (R : DV → S → QD → Prop) : Prop :=
  ∀ (x : DV) (ρ : S) (Q : QD), R x ρ Q → ∀ (σ : St) (F G H : Hp) (as : List Addr) (v : V), Ok K ρ σ F G H as → RepV K G as v x → ∀ C : VK, Kv K F G as σ Q C → r v H C
def CaD (K : PySem.W.Frag) (r : List V → Hp → VK → Prop) (R : List DV → S → QD → Prop) : Prop :=
  ∀ (x : List DV) (ρ : S) (Q : QD), R x ρ Q → ∀ (σ : St) (F G H : Hp) (as : List Addr) (v : List V), Ok K ρ σ F G H as → RepVs K G as v x → ∀ C : VK, Kv K F G as σ Q C → r v H C
def wOp (R : DV → DV → S → QD → Prop) (wa wb : WE) : WE := fun ρ Q X => wa ρ (fun x ρ1 => wb ρ1 (fun y ρ2 => R x y ρ2 Q) X) X
def wUn (R : DV → S → QD → Prop) (wa : WE) : WE := fun ρ Q X => wa ρ (fun x ρ1 => R x ρ1 Q) X
def wCa (R : List DV → S → QD → Prop) (w : WA) : WE := fun ρ Q X => w ρ (fun x ρ1 => R x ρ1 Q) X
theorem de_op {r : R2} {R : DV → DV → S → QD → Prop} {ta tb : WX → TE} (hr : OpD K r R) (ha : ∀ ρ Q X, wa ρ Q X → DE K ta ρ Q X) (hb : ∀ ρ Q X, wb ρ Q X → DE K tb ρ Q X) {ρ : S} {Q : QD} {X : QX} (h : wOp R wa wb ρ Q X) :
    DE K (fun W => tOp r (ta W) (tb W)) ρ Q X := by
  intro W σ F G H as ok acc C k
  refine ha _ _ _ h W σ F G H as ok acc _ fun x ρ1 v G1 H1 as1 h1 ok1 n1 r1 => ?_
  refine hb _ _ _ h1 W σ F G1 H1 as1 ok1 (acc.next n1) _ fun y ρ2 u G2 H2 as2 h2 ok2 n2 r2 => ?_
  exact hr x y ρ2 Q h2 σ F G2 H2 as2 v u ok2 (r1.mono n2) r2 C (k.next (n1.trans n2))
theorem de_un {r : V → Hp → VK → Prop} {R : DV → S → QD → Prop} {ta : WX → TE} (hr : UnD K r R) (ha : ∀ ρ Q X, wa ρ Q X → DE K ta ρ Q X) {ρ : S} {Q : QD} {X : QX} (h : wUn R wa ρ Q X) :
    DE K (fun W => tUn r (ta W)) ρ Q X := by
  intro W σ F G H as ok acc C k
  refine ha _ _ _ h W σ F G H as ok acc _ fun x ρ1 v G1 H1 as1 h1 ok1 n1 r1 => ?_
  exact hr x ρ1 Q h1 σ F G1 H1 as1 v ok1 r1 C (k.next n1)
theorem de_ca {r : List V → Hp → VK → Prop} {R : List DV → S → QD → Prop} {ta : WX → TA} (hr : CaD K r R) (ha : ∀ ρ Q X, w ρ Q X → DA K ta ρ Q X) {ρ : S} {Q : QD} {X : QX} (h : wCa R w ρ Q X) :
    DE K (fun W => tCB r (ta W)) ρ Q X := by
  intro W σ F G H as ok acc C k
  refine ha _ _ _ h W σ F G H as ok acc _ fun x ρ1 v G1 H1 as1 h1 ok1 n1 r1 => ?_
  exact hr x ρ1 Q h1 σ F G1 H1 as1 v ok1 r1 C (k.next n1)
theorem pd_op {op : Operator} {r : R2} {R : DV → DV → S → QD → Prop} (ho : ∀ X, X.K = T.K → X.calm = true → X.A.units + 64 < cLine → OpR X (binaryOp op) r) (hr : OpD T.K r R) (ha : PD T a wa) (hb : PD T b wb) : PD T (.BinOp a op b pos) (wOp R wa wb) := by
  obtain ⟨ta, ha, da⟩ := ha
  obtain ⟨tb, hb, db⟩ := hb
  exact ⟨fun W => tOp r (ta W) (tb W), fun W X g tk => pe_op (ho X g.K g.calm g.room.units) (ha W X g tk) (hb W X g tk), fun ρ Q X h => de_op hr da db h⟩
theorem pd_un {op : UnaryOp} {r : V → Hp → VK → Prop} {R : DV → S → QD → Prop} (ho : ∀ X, UnR X (unaryOp op) r) (hr : UnD T.K r R) (ha : PD T a wa) : PD T (.UnaryOp op a pos) (wUn R wa) := by
  obtain ⟨ta, ha, da⟩ := ha
  exact ⟨fun W => tUn r (ta W), fun W X g tk => pe_un (ho X) (ha W X g tk), fun ρ Q X h => de_un hr da h⟩
theorem pd_cmp {op : CmpOp} {r : R2} {R : DV → DV → S → QD → Prop} (ho : ∀ X, X.K = T.K → X.calm = true → X.A.units + 64 < cLine → OpR X (compareOp op) r) (hr : OpD T.K r R) (ha : PD T a wa) (hb : PD T b wb)
    (hm : behindInMarks op b = false := by first | exact nomark _ | rfl) : PD T (.Compare a [op] [b] pos) (wOp R wa wb) := by
  obtain ⟨ta, ha, da⟩ := ha
  obtain ⟨tb, hb, db⟩ := hb
  exact ⟨fun W => tOp r (ta W) (tb W), fun W X g tk => pe_cmpR (ho X g.K g.calm g.room.units) (ha W X g tk) (hb W X g tk) hm, fun ρ Q X h => de_op hr da db h⟩

/-! ### ints -/
def dII (C : Int → Int → Prop) (g : Int → Int → PyData) : DV → DV → S → QD → Prop := fun x y ρ Q => match x, y with
  | .d (.int i), .d (.int j) => C i j ∧ Q (.d (g i j)) ρ
  | _, _ => False
def dII0 (g : Int → Int → PyData) : DV → DV → S → QD → Prop := fun x y ρ Q => match x, y with
  | .d (.int i), .d (.int j) => Q (.d (g i j)) ρ
  | _, _ => False
theorem repI {G : Hp} {as : List Addr} {v : V} {i : Int} (r : RepV K G as v (.d (.int i))) : v = .int i := by
  have r : Rep K G v (.int i) := r
  cases r
  rfl
theorem repB {G : Hp} {as : List Addr} {v : V} {i : Bool} (r : RepV K G as v (.d (.bool i))) : v = .bl i := by
  have r : Rep K G v (.bool i) := r
  cases r
  rfl
theorem opd_I {C : Int → Int → Prop} {g : Int → Int → PyData} (hg : ∀ i j, isSc (g i j) = true) : OpD K (rI C fun i j => scV (g i j)) (dII C g) := by
  intro x y ρ Q h σ F G H as v u ok rx ry c k
  match x, y, h, rx, ry with
  | .d (.int i), .d (.int j), h, rx, ry =>
    obtain ⟨hc, h⟩ := h
    refine ⟨i, j, repI rx, repI ry, hc, k (.d (g i j)) ρ _ G H as h ok (Nxt.refl _ _) (rep_sc (hg i j))⟩
theorem opd_I0 {g : Int → Int → PyData} (hg : ∀ i j, isSc (g i j) = true) : OpD K (rI0 fun i j => scV (g i j)) (dII0 g) := by
  intro x y ρ Q h σ F G H as v u ok rx ry c k
  match x, y, h, rx, ry with
  | .d (.int i), .d (.int j), h, rx, ry =>
    exact ⟨i, j, repI rx, repI ry, k (.d (g i j)) ρ _ G H as h ok (Nxt.refl _ _) (rep_sc (hg i j))⟩
abbrev gAdd : Int → Int → PyData := fun i j => .int (i + j)
abbrev gSub : Int → Int → PyData := fun i j => .int (i - j)
abbrev gMul : Int → Int → PyData := fun i j => .int (i * j)
abbrev gMod : Int → Int → PyData := fun i j => .int (i % j)
abbrev gDiv : Int → Int → PyData := fun i j => .int (i / j)
abbrev gPow : Int → Int → PyData := fun i j => .int (i ^ j.toNat)
theorem pd_add (ha : PD T a wa) (hb : PD T b wb) : PD T (.BinOp a .Add b pos) (wOp (dII0 gAdd) wa wb) := pd_op (fun _ _ _ _ => op_add) (opd_I0 (g := gAdd) fun _ _ => rfl) ha hb
theorem pd_sub (ha : PD T a wa) (hb : PD T b wb) : PD T (.BinOp a .Sub b pos) (wOp (dII0 gSub) wa wb) := pd_op (fun _ _ _ _ => op_sub) (opd_I0 (g := gSub) fun _ _ => rfl) ha hb
theorem pd_mul (ha : PD T a wa) (hb : PD T b wb) : PD T (.BinOp a .Mult b pos) (wOp (dII CMul gMul) wa wb) := pd_op (fun _ _ _ _ => op_mul) (opd_I (g := gMul) fun _ _ => rfl) ha hb
theorem pd_mod (ha : PD T a wa) (hb : PD T b wb) : PD T (.BinOp a .Mod b pos) (wOp (dII (fun _ j => 0 < j) gMod) wa wb) := pd_op (fun _ _ _ _ => op_mod) (opd_I (g := gMod) fun _ _ => rfl) ha hb
theorem pd_fdiv (ha : PD T a wa) (hb : PD T b wb) : PD T (.BinOp a .FloorDiv b pos) (wOp (dII CDiv gDiv) wa wb) := pd_op (fun _ _ _ _ => op_fdiv) (opd_I (g := gDiv) fun _ _ => rfl) ha hb
theorem pd_pow (ha : PD T a wa) (hb : PD T b wb) : PD T (.BinOp a .Pow b pos) (wOp (dII CPow gPow) wa wb) := pd_op (fun _ _ _ _ => op_pow) (opd_I (g := gPow) fun _ _ => rfl) ha hb
abbrev gLt : Int → Int → PyData := fun i j => .bool (decide (i < j))
abbrev gLe : Int → Int → PyData := fun i j => .bool (decide (i ≤ j))
abbrev gGt : Int → Int → PyData := fun i j => .bool (decide (j < i))
abbrev gGe : Int → Int → PyData := fun i j => .bool (decide (j ≤ i))
theorem pd_lt (ha : PD T a wa) (hb : PD T b wb) : PD T (.Compare a [.Lt] [b] pos) (wOp (dII0 gLt) wa wb) := pd_cmp (fun _ _ _ _ => op_lt) (opd_I0 (g := gLt) fun _ _ => rfl) ha hb
theorem pd_le (ha : PD T a wa) (hb : PD T b wb) : PD T (.Compare a [.LtE] [b] pos) (wOp (dII0 gLe) wa wb) := pd_cmp (fun _ _ _ _ => op_le) (opd_I0 (g := gLe) fun _ _ => rfl) ha hb
theorem pd_gt (ha : PD T a wa) (hb : PD T b wb) : PD T (.Compare a [.Gt] [b] pos) (wOp (dII0 gGt) wa wb) := pd_cmp (fun _ _ _ _ => op_gt) (opd_I0 (g := gGt) fun _ _ => rfl) ha hb
theorem pd_ge (ha : PD T a wa) (hb : PD T b wb) : PD T (.Compare a [.GtE] [b] pos) (wOp (dII0 gGe) wa wb) := pd_cmp (fun _ _ _ _ => op_ge) (opd_I0 (g := gGe) fun _ _ => rfl) ha hb
def dNeg : DV → S → QD → Prop := fun x ρ Q => match x with
  | .d (.int i) => Q (.d (.int (-i))) ρ
  | _ => False
theorem pd_neg (ha : PD T a wa) : PD T (.UnaryOp .USub a pos) (wUn dNeg wa) := pd_un (fun _ => un_neg) (fun x ρ Q h σ F G H as v ok rx C k => by
  match x, h, rx with
  | .d (.int i), h, rx => exact ⟨i, repI rx, k (.d (.int (-i))) ρ _ G H as h ok (Nxt.refl _ _) (.int _)⟩) ha

/-! ### tests -/
def wB (wa : WE) : WT := fun ρ Q X => wa ρ (fun x ρ1 => match x with
  | .d (.bool b) => Q b ρ1
  | _ => False) X
theorem pdt_val (ha : PD T a wa) (he : ∀ env whole, isTrue a env whole = (do let v ← whole; standAt a.pos; holding [v] (truthy v)) := by intro _ _; rfl) : PDT T a (wB wa) := by
  obtain ⟨ta, ha, da⟩ := ha
  refine ⟨fun W => tB (ta W), fun W X g tk => pt_val (ha W X g tk) (he _), fun ρ Q X h W σ F G H as ok acc C k => ?_⟩
  refine da _ _ _ h W σ F G H as ok acc _ fun x ρ1 v G1 H1 as1 h1 ok1 n1 r1 => ?_
  match x, h1, r1 with
  | .d (.bool i), h1, r1 => exact ⟨i, repB r1, k i ρ1 G1 H1 as1 h1 ok1 n1⟩
/-- a comparison as a test -/
theorem pdt_cmp {op : CmpOp} {we : WE} (h : PD T (.Compare a [op] [b] pos) we) (he : ∀ X (t : TE), PE X (.Compare a [op] [b] pos) t → PT X (.Compare a [op] [b] pos) (tB t)) : PDT T (.Compare a [op] [b] pos) (wB we) := by
  obtain ⟨ta, ha, da⟩ := h
  refine ⟨fun W => tB (ta W), fun W X g tk => he X _ (ha W X g tk), fun ρ Q X h W σ F G H as ok acc C k => ?_⟩
  refine da _ _ _ h W σ F G H as ok acc _ fun x ρ1 v G1 H1 as1 h1 ok1 n1 r1 => ?_
  match x, h1, r1 with
  | .d (.bool i), h1, r1 => exact ⟨i, repB r1, k i ρ1 G1 H1 as1 h1 ok1 n1⟩
end
end DL
end

section
set_option Elab.async false
set_option linter.all false
set_option maxRecDepth 100000
set_option maxHeartbeats 1000000
set_option autoImplicit false
namespace DL
open PySem PySem.Spec PyProof.Rows L2

section
variable {T : Sta} {pos : Pos} {a b c e : Expr} {es : List Expr} {wa wb wc we : WE} {w : WA} {wt wu : WT} {K : PySem.W.Frag}

/-! ### and, or, not -/
def wAnd (wa wb : WE) : WE := fun ρ Q X => wa ρ (fun x ρ1 => match x with
  | .d (.bool true) => wb ρ1 Q X
  | .d (.bool false) => Q (.d (.bool false)) ρ1
  | _ => False) X
def wOr (wa wb : WE) : WE := fun ρ Q X => wa ρ (fun x ρ1 => match x with
  | .d (.bool true) => Q (.d (.bool true)) ρ1
  | .d (.bool false) => wb ρ1 Q X
  | _ => False) X
def dNot : DV → S → QD → Prop := fun x ρ Q => match x with
  | .d (.bool b) => Q (.d (.bool (!b))) ρ
  | _ => False
theorem pd_one {op} (h : PD T a wa) : PD T (.BoolOp op [a] pos) wa := by
  obtain ⟨ta, ha, da⟩ := h
  exact ⟨ta, fun W X g tk => pe_one (ha W X g tk), da⟩
theorem pd_and (ha : PD T a wa) (hb : PD T (.BoolOp .And (b :: es) pos) wb) : PD T (.BoolOp .And (a :: b :: es) pos) (wAnd wa wb) := by
  obtain ⟨ta, ha, da⟩ := ha
  obtain ⟨tb, hb, db⟩ := hb
  refine ⟨fun W => tAndV (ta W) (tb W), fun W X g tk => pe_and (ha W X g tk) (hb W X g tk), fun ρ Q X h W σ F G H as ok acc C k => ?_⟩
  refine da _ _ _ h W σ F G H as ok acc _ fun x ρ1 v G1 H1 as1 h1 ok1 n1 r1 => ?_
  match x, h1, r1 with
  | .d (.bool true), h1, r1 => exact ⟨true, repB r1, iteT (db _ _ _ h1 W σ F G1 H1 as1 ok1 (acc.next n1) _ (k.next n1))⟩
  | .d (.bool false), h1, r1 => exact ⟨false, repB r1, iteF (k _ ρ1 _ G1 H1 as1 h1 ok1 n1 (.bl false))⟩
theorem pd_or (ha : PD T a wa) (hb : PD T (.BoolOp .Or (b :: es) pos) wb) : PD T (.BoolOp .Or (a :: b :: es) pos) (wOr wa wb) := by
  obtain ⟨ta, ha, da⟩ := ha
  obtain ⟨tb, hb, db⟩ := hb
  refine ⟨fun W => tOrV (ta W) (tb W), fun W X g tk => pe_or (ha W X g tk) (hb W X g tk), fun ρ Q X h W σ F G H as ok acc C k => ?_⟩
  refine da _ _ _ h W σ F G H as ok acc _ fun x ρ1 v G1 H1 as1 h1 ok1 n1 r1 => ?_
  match x, h1, r1 with
  | .d (.bool true), h1, r1 => exact ⟨true, repB r1, iteT (k _ ρ1 _ G1 H1 as1 h1 ok1 n1 (.bl true))⟩
  | .d (.bool false), h1, r1 => exact ⟨false, repB r1, iteF (db _ _ _ h1 W σ F G1 H1 as1 ok1 (acc.next n1) _ (k.next n1))⟩
theorem pd_not (ha : PD T a wa) : PD T (.UnaryOp .Not a pos) (wUn dNot wa) := by
  obtain ⟨ta, ha, da⟩ := ha
  refine ⟨fun W => tNotV (ta W), fun W X g tk => pe_not (ha W X g tk), fun ρ Q X h W σ F G H as ok acc C k => ?_⟩
  refine da _ _ _ h W σ F G H as ok acc _ fun x ρ1 v G1 H1 as1 h1 ok1 n1 r1 => ?_
  match x, h1, r1 with
  | .d (.bool b), h1, r1 => exact ⟨b, repB r1, k _ ρ1 _ G1 H1 as1 h1 ok1 n1 (.bl _)⟩
def wAndT (wt wu : WT) : WT := fun ρ Q X => wt ρ (fun b ρ1 => match b with
  | true => wu ρ1 Q X
  | false => Q false ρ1) X
def wOrT (wt wu : WT) : WT := fun ρ Q X => wt ρ (fun b ρ1 => match b with
  | true => Q true ρ1
  | false => wu ρ1 Q X) X
def wNotT (wt : WT) : WT := fun ρ Q X => wt ρ (fun b ρ1 => Q (!b) ρ1) X
theorem pdw_and1 (h : PDT T a wt) : PDW T (.BoolOp .And [a] pos) wt := by
  obtain ⟨ta, ha, da⟩ := h
  exact ⟨ta, fun W X g tk => pw_and1 (ha W X g tk), da⟩
theorem pdw_or1 (h : PDT T a wt) : PDW T (.BoolOp .Or [a] pos) wt := by
  obtain ⟨ta, ha, da⟩ := h
  exact ⟨ta, fun W X g tk => pw_or1 (ha W X g tk), da⟩
theorem pdw_and (ha : PDT T a wt) (hb : PDW T (.BoolOp .And (b :: es) pos) wu) : PDW T (.BoolOp .And (a :: b :: es) pos) (wAndT wt wu) := by
  obtain ⟨ta, ha, da⟩ := ha
  obtain ⟨tb, hb, db⟩ := hb
  refine ⟨fun W => tAnd (ta W) (tb W), fun W X g tk => pw_and (ha W X g tk) (hb W X g tk), fun ρ Q X h W σ F G H as ok acc C k => ?_⟩
  refine da _ _ _ h W σ F G H as ok acc _ fun x ρ1 G1 H1 as1 h1 ok1 n1 => ?_
  cases x with
  | true => exact iteT (db _ _ _ h1 W σ F G1 H1 as1 ok1 (acc.next n1) _ fun b ρ2 G2 H2 as2 q o m => k b ρ2 G2 H2 as2 q o (n1.trans m))
  | false => exact iteF (k false ρ1 G1 H1 as1 h1 ok1 n1)
theorem pdw_or (ha : PDT T a wt) (hb : PDW T (.BoolOp .Or (b :: es) pos) wu) : PDW T (.BoolOp .Or (a :: b :: es) pos) (wOrT wt wu) := by
  obtain ⟨ta, ha, da⟩ := ha
  obtain ⟨tb, hb, db⟩ := hb
  refine ⟨fun W => tOr (ta W) (tb W), fun W X g tk => pw_or (ha W X g tk) (hb W X g tk), fun ρ Q X h W σ F G H as ok acc C k => ?_⟩
  refine da _ _ _ h W σ F G H as ok acc _ fun x ρ1 G1 H1 as1 h1 ok1 n1 => ?_
  cases x with
  | true => exact iteT (k true ρ1 G1 H1 as1 h1 ok1 n1)
  | false => exact iteF (db _ _ _ h1 W σ F G1 H1 as1 ok1 (acc.next n1) _ fun b ρ2 G2 H2 as2 q o m => k b ρ2 G2 H2 as2 q o (n1.trans m))
theorem PDW.pt (h : PDW T a wt) : PDT T a wt := by
  obtain ⟨ta, ha, da⟩ := h
  exact ⟨ta, fun W X g tk => (ha W X g tk).pt, da⟩
theorem pdt_not (h : PDT T a wt) : PDT T (.UnaryOp .Not a pos) (wNotT wt) := by
  obtain ⟨ta, ha, da⟩ := h
  refine ⟨fun W => tNot (ta W), fun W X g tk => pt_not (ha W X g tk), fun ρ Q X h W σ F G H as ok acc C k => ?_⟩
  exact da _ _ _ h W σ F G H as ok acc _ fun x ρ1 G1 H1 as1 h1 ok1 n1 => k _ ρ1 G1 H1 as1 h1 ok1 n1
def wIfE (wt : WT) (wa wb : WE) : WE := fun ρ Q X => wt ρ (fun b ρ1 => match b with
  | true => wa ρ1 Q X
  | false => wb ρ1 Q X) X
theorem pd_ifE (hc : PDT T c wt) (ha : PD T a wa) (hb : PD T b wb) : PD T (.IfExp c a b pos) (wIfE wt wa wb) := by
  obtain ⟨tc, hc, dc⟩ := hc
  obtain ⟨ta, ha, da⟩ := ha
  obtain ⟨tb, hb, db⟩ := hb
  refine ⟨fun W => tIf (tc W) (ta W) (tb W), fun W X g tk => pe_ifExp (hc W X g tk) (ha W X g tk) (hb W X g tk), fun ρ Q X h W σ F G H as ok acc C k => ?_⟩
  refine dc _ _ _ h W σ F G H as ok acc _ fun x ρ1 G1 H1 as1 h1 ok1 n1 => ?_
  cases x with
  | true => exact iteT (da _ _ _ h1 W σ F G1 H1 as1 ok1 (acc.next n1) _ (k.next n1))
  | false => exact iteF (db _ _ _ h1 W σ F G1 H1 as1 ok1 (acc.next n1) _ (k.next n1))

/-! ### argument lists, displays -/
def wNil : WA := fun ρ Q _ => Q [] ρ
def wCons (wa : WE) (w : WA) : WA := fun ρ Q X => wa ρ (fun x ρ1 => w ρ1 (fun xs ρ2 => Q (x :: xs) ρ2) X) X
theorem pda_nil : PDA T [] wNil := ⟨fun _ => tNil, fun _ _ _ _ => pa_nil, fun ρ Q X h W σ F G H as ok acc C k => k [] ρ [] G H as h ok (Nxt.refl _ _) .nil⟩
theorem pda_cons (ha : PD T e wa) (hr : PDA T es w) (hs : ∀ env, starEach (e :: es) env = (false, eval e env) :: starEach es env := by intro _; rfl) : PDA T (e :: es) (wCons wa w) := by
  obtain ⟨ta, ha, da⟩ := ha
  obtain ⟨tr, hr, dr⟩ := hr
  refine ⟨fun W => tCons (ta W) (tr W), fun W X g tk => pa_cons (ha W X g tk) (hr W X g tk) (hs _), fun ρ Q X h W σ F G H as ok acc C k => ?_⟩
  refine da _ _ _ h W σ F G H as ok acc _ fun x ρ1 v G1 H1 as1 h1 ok1 n1 r1 => ?_
  refine dr _ _ _ h1 W σ F G1 H1 as1 ok1 (acc.next n1) _ fun xs ρ2 vs G2 H2 as2 h2 ok2 n2 r2 => ?_
  exact k (x :: xs) ρ2 (v :: vs) G2 H2 as2 h2 ok2 (n1.trans n2) (.cons (r1.mono n2) r2)
/-- all of them data -/
def allD : List DV → Option (List PyData)
  | [] => some []
  | .d x :: r => match allD r with
    | some l => some (x :: l)
    | none => none
  | .o _ :: _ => none
theorem allD_eq : ∀ {l : List DV} {ds : List PyData}, allD l = some ds → l = ds.map .d
  | [], ds, h => by
    have h : some [] = some ds := h
    cases h
    rfl
  | .d x :: r, ds, h => by
    unfold allD at h
    cases e : allD r with
    | none =>
      rw [e] at h
      cases h
    | some l =>
      rw [e] at h
      cases h
      rw [allD_eq e]
      rfl
  | .o _ :: _, ds, h => by cases h
def wTup (w : WA) : WE := fun ρ Q X => w ρ (fun xs ρ1 => match allD xs with
  | some ds => ds.length ≤ sizeLine ∧ Q (.d (.tuple ds)) ρ1
  | none => False) X
section
variable {F G H : Hp} {as : List Addr} {ρ : S} {σ : St}
theorem Ok.new (ok : Ok K ρ σ F G H as) {p : Addr} {o : HO} (h : H p = none) : Ok K ρ σ F (upd G p o) (upd H p o) as :=
  ⟨ok.mem.new h, ok.sll, fun i dv e => by
    obtain ⟨v, e1, r⟩ := ok.sl i dv e
    exact ⟨v, e1, r.mono (ok.mem.nxt h)⟩⟩
theorem Ok.nxt (ok : Ok K ρ σ F G H as) {p : Addr} {o : HO} (h : H p = none) : Nxt G as (upd G p o) as := ok.mem.nxt h
theorem Ok.mine (ok : Ok K ρ σ F G H as) {p : Addr} {o : HO} {x : OB} (h : H p = none) (hx : ObAt K G (upd H p o) (as ++ [p]) p x) : Ok K ⟨ρ.sl, ρ.ob ++ [x]⟩ σ F G (upd H p o) (as ++ [p]) :=
  ⟨ok.mem.mine h hx, ok.sll, fun i dv e => by
    obtain ⟨v, e1, r⟩ := ok.sl i dv e
    exact ⟨v, e1, r.mono ⟨Same.refl G, [p], rfl⟩⟩⟩
theorem Ok.wr (ok : Ok K ρ σ F G H as) {k : Nat} {a : Addr} {o : HO} {x y : OB} (ha : as[k]? = some a) (hk : ρ.ob[k]? = some x) (hg : x ≠ OB.gone) (hx : ObAt K G (upd H a o) as a y) : Ok K ⟨ρ.sl, ρ.ob.set k y⟩ σ F G (upd H a o) as :=
  ⟨ok.mem.wr ha hk hg hx, ok.sll, ok.sl⟩
/-- new data -/
theorem Kv.data {Q : QD} {C : VK} {p : Addr} {o : HO} {x : PyData} (k : Kv K F G as σ Q C) (ok : Ok K ρ σ F G H as) (h : H p = none) (q : Q (.d x) ρ) (r : Rep K (upd G p o) (.ref p) x) : C (.ref p) (upd H p o) :=
  k (.d x) ρ (.ref p) (upd G p o) (upd H p o) as q (ok.new h) (ok.nxt h) r
theorem Kv.same {Q : QD} {C : VK} {v : V} {x : DV} (k : Kv K F G as σ Q C) (ok : Ok K ρ σ F G H as) (q : Q x ρ) (r : RepV K G as v x) : C v H := k x ρ v G H as q ok (Nxt.refl _ _) r
end
theorem pd_tup {x1} (h : PDA T es w) : PD T (.Tuple es x1 pos) (wTup w) := by
  obtain ⟨ta, ha, da⟩ := h
  refine ⟨fun W => tTup (ta W), fun W X g tk => pe_tup (ha W X g tk), fun ρ Q X h W σ F G H as ok acc C k => ?_⟩
  refine da _ _ _ h W σ F G H as ok acc _ fun xs ρ1 vs G1 H1 as1 h1 ok1 n1 r1 => ?_
  cases e : allD xs with
  | none =>
    rw [e] at h1
    exact h1.elim
  | some ds =>
    rw [e] at h1
    have e' := allD_eq e
    subst e'
    have r := r1.to
    refine ⟨by rw [r.length]; exact h1.1, fun p hp => (k.next n1).data ok1 hp h1.2 (.tup upd_same (r.mono (same_new (ok1.mem.fresh hp).1)))⟩
/-- a list of one's own -/
def wLst (w : WA) : WE := fun ρ Q X => w ρ (fun xs ρ1 => xs.length ≤ sizeLine ∧ Q (.o ρ1.ob.length) ⟨ρ1.sl, ρ1.ob ++ [.lst xs]⟩) X
theorem get_last {α : Type} (l : List α) (x : α) : (l ++ [x])[l.length]? = some x := by simp
theorem pd_lst (h : PDA T es w) : PD T (.List es pos) (wLst w) := by
  obtain ⟨ta, ha, da⟩ := h
  refine ⟨fun W => tLst (ta W), fun W X g tk => pe_lst (ha W X g tk), fun ρ Q X h W σ F G H as ok acc C k => ?_⟩
  refine da _ _ _ h W σ F G H as ok acc _ fun xs ρ1 vs G1 H1 as1 h1 ok1 n1 r1 => ⟨by rw [r1.length]; exact h1.1, fun p hp => ?_⟩
  refine k _ _ _ G1 _ (as1 ++ [p]) h1.2 (ok1.mine (x := .lst xs) hp ⟨vs, upd_same, r1.mono ⟨Same.refl _, [p], rfl⟩⟩) (n1.trans ⟨Same.refl _, [p], rfl⟩) ⟨p, ?_, rfl⟩
  rw [← ok1.mem.len]
  exact get_last _ _

/-! ### subscripts -/
def obK (ρ : S) (k : Nat) : OB := match ρ.ob[k]? with
  | some x => x
  | none => .gone
def dIx : DV → DV → S → QD → Prop := fun x y ρ Q => match x, y with
  | .d (.tuple ds), .d (.int i) => ∃ z, atI ds i = some z ∧ Q (.d z) ρ
  | .d (.list ds), .d (.int i) => ∃ z, atI ds i = some z ∧ Q (.d z) ρ
  | .o k, .d (.int i) => match obK ρ k with
    | .lst xs => ∃ z, atI xs i = some z ∧ Q z ρ
    | _ => False
  | _, _ => False
theorem repTt {G : Hp} {as : List Addr} {v : V} {ds : List PyData} (r : RepV K G as v (.d (.tuple ds))) : ∃ a xs, v = .ref a ∧ G a = some (.tup xs) ∧ Reps K G xs ds := by
  have r : Rep K G v (.tuple ds) := r
  cases r with
  | tup h q => exact ⟨_, _, rfl, h, q⟩
theorem repT {G : Hp} {as : List Addr} {v : V} {ds : List PyData} (r : RepV K G as v (.d (.tuple ds))) : ∃ a xs, v = .ref a ∧ SqT K G a xs ∧ Reps K G xs ds := by
  obtain ⟨a, xs, e, h, q⟩ := repTt r
  exact ⟨a, xs, e, SqT.of h, q⟩
theorem repL {G : Hp} {as : List Addr} {v : V} {ds : List PyData} (r : RepV K G as v (.d (.list ds))) : ∃ a xs, v = .ref a ∧ SqL K G a xs ∧ Reps K G xs ds := by
  have r : Rep K G v (.list ds) := r
  cases r with
  | lst h q => exact ⟨_, _, rfl, h, q⟩
theorem obK_get {ρ : S} {k : Nat} {x : OB} (h : obK ρ k = x) (hx : x ≠ .gone) : ρ.ob[k]? = some x := by
  unfold obK at h
  cases e : ρ.ob[k]? with
  | none =>
    rw [e] at h
    exact absurd h.symm hx
  | some y =>
    rw [e] at h
    have h : y = x := h
    rw [h]
theorem repO {F G H : Hp} {as : List Addr} {ρ : S} {σ : St} {v : V} {k : Nat} {x : OB} (ok : Ok K ρ σ F G H as) (r : RepV K G as v (.o k)) (h : obK ρ k = x) (hx : x ≠ .gone) : ∃ a, v = .ref a ∧ as[k]? = some a ∧ ρ.ob[k]? = some x ∧ ObAt K G H as a x := by
  obtain ⟨a, e1, e2⟩ := r
  exact ⟨a, e2, e1, obK_get h hx, ok.mem.at_ k a x e1 (obK_get h hx)⟩
theorem atI_rep {α β : Type} {R : α → β → Prop} {xs : List α} {ds : List β} (hl : xs.length = ds.length) (h : ∀ (i : Nat) (x : β), ds[i]? = some x → ∃ u, xs[i]? = some u ∧ R u x) {i : Int} {z : β} (e : atI ds i = some z) : ∃ u, atI xs i = some u ∧ R u z := by
  unfold atI at e ⊢
  rw [hl]
  cases q : ixN ds.length i with
  | none =>
    rw [q] at e
    cases e
  | some j =>
    rw [q] at e
    obtain ⟨u, h1, h2⟩ := h j z e
    exact ⟨u, h1, h2⟩
theorem opd_ix : OpD K (rIx K) dIx := by
  intro x y ρ Q h σ F G H as v u ok rx ry C k
  match x, y, h, rx, ry with
  | .d (.tuple ds), .d (.int i), ⟨z, e, q⟩, rx, ry =>
    obtain ⟨a, xs, rfl, hs, r⟩ := repT rx
    obtain ⟨u', e1, r1⟩ := atI_rep (R := Rep K G) r.length (fun i x => r.get) e
    exact .inr (.inl ⟨a, xs, i, u', rfl, repI ry, same_sqT ok.mem.gh hs, e1, k.same ok q r1⟩)
  | .d (.list ds), .d (.int i), ⟨z, e, q⟩, rx, ry =>
    obtain ⟨a, xs, rfl, hs, r⟩ := repL rx
    obtain ⟨u', e1, r1⟩ := atI_rep (R := Rep K G) r.length (fun i x => r.get) e
    exact .inl ⟨a, xs, i, u', rfl, repI ry, ok.mem.gh.seq hs, e1, k.same ok q r1⟩
  | .o n, .d (.int i), h, rx, ry =>
    unfold dIx at h
    cases e : obK ρ n with
    | lst xs =>
      have h : ∃ z, atI xs i = some z ∧ Q z ρ := by
        simp only [e] at h
        exact h
      obtain ⟨z, e1, q⟩ := h
      obtain ⟨a, rfl, _, _, vs, hv, r⟩ := repO ok rx e (by intro z; cases z)
      obtain ⟨u', e2, r1⟩ := atI_rep (R := RepV K G as) r.length (fun i x => r.get) e1
      exact .inl ⟨a, vs, i, u', rfl, repI ry, SqL.of hv, e2, k.same ok q r1⟩
    | dk _ => simp only [e] at h
    | dt _ => simp only [e] at h
    | gone => simp only [e] at h
theorem pd_ix (ha : PD T a wa) (hb : PD T b wb) (hs : PlainIx b := by exact fun _ _ => rfl) : PD T (.Subscript a b pos) (wOp dIx wa wb) := by
  obtain ⟨ta, ha, da⟩ := ha
  obtain ⟨tb, hb, db⟩ := hb
  exact ⟨fun W => tOp (rIx T.K) (ta W) (tb W), fun W X g tk => pe_ix (by rw [← g.K]; exact ix_seq) (ha W X g tk) (hb W X g tk) hs, fun ρ Q X h => de_op opd_ix da db h⟩

/-! ### slices -/
abbrev WO := S → (Option Int → S → Prop) → QX → Prop
def DO (K : PySem.W.Frag) (t : WX → TO) (ρ : S) (Q : Option Int → S → Prop) (X : QX) : Prop :=
  ∀ (W : WX) (σ : St) (F G H : Hp) (as : List Addr), Ok K ρ σ F G H as → AccE K F G as σ W X → ∀ C : Option Int → Hp → Prop,
    (∀ (b : Option Int) (ρ' : S) (G' H' : Hp) (as' : List Addr), Q b ρ' → Ok K ρ' σ F G' H' as' → Nxt G as G' as' → C b H') → t W σ H C
def PDO (T : Sta) (e : Option Expr) (w : WO) : Prop := ∃ t : WX → TO, (∀ W X, Good T X → Takes X W → PO X e (t W)) ∧ ∀ ρ Q X, w ρ Q X → DO T.K t ρ Q X
def wNoP : WO := fun ρ Q _ => Q none ρ
def wPart (wa : WE) : WO := fun ρ Q X => wa ρ (fun x ρ1 => match x with
  | .d (.int i) => Q (some i) ρ1
  | _ => False) X
theorem pdo_none : PDO T none wNoP := ⟨fun _ => tNoPart, fun _ _ _ _ => po_none, fun ρ Q X h W σ F G H as ok acc C k => k none ρ G H as h ok (Nxt.refl _ _)⟩
theorem pdo_some (ha : PD T a wa) : PDO T (some a) (wPart wa) := by
  obtain ⟨ta, ha, da⟩ := ha
  refine ⟨fun W => tPart (ta W), fun W X g tk => po_some (ha W X g tk), fun ρ Q X h W σ F G H as ok acc C k => ?_⟩
  refine da _ _ _ h W σ F G H as ok acc _ fun x ρ1 v G1 H1 as1 h1 ok1 n1 r1 => ?_
  match x, h1, r1 with
  | .d (.int i), h1, r1 => exact ⟨i, repI r1, k (some i) ρ1 G1 H1 as1 h1 ok1 n1⟩
def cutD {α : Type} (xs : List α) (lo hi : Option Int) : List α := (xs.drop (HT.sIx xs.length 0 lo)).take (HT.sIx xs.length xs.length hi - HT.sIx xs.length 0 lo)
theorem cut_rep {G : Hp} {vs : List V} {ds : List PyData} (r : Reps K G vs ds) (lo hi : Option Int) : Reps K G (cutV vs lo hi) (cutD ds lo hi) := by
  unfold cutV cutD
  rw [r.length]
  exact (r.drop _).take _
theorem cut_repV {G : Hp} {as : List Addr} {vs : List V} {ds : List DV} (r : RepVs K G as vs ds) (lo hi : Option Int) : RepVs K G as (cutV vs lo hi) (cutD ds lo hi) := by
  unfold cutV cutD
  rw [r.length]
  exact (r.drop _).take _
def rSlE (K : PySem.W.Frag) : V → Option Int → Option Int → Hp → VK → Prop := fun x lo hi H Q => rSlA K x lo hi H Q ∨ rSlL K x lo hi H Q
/-- a slice: of a tuple a tuple, of a list a new one, of one's own -/
def dSl (x : DV) (lo hi : Option Int) (ρ : S) (Q : QD) : Prop := match x with
  | .d (.tuple ds) => Q (.d (.tuple (cutD ds lo hi))) ρ
  | .d (.list ds) => Q (.o ρ.ob.length) ⟨ρ.sl, ρ.ob ++ [.lst ((cutD ds lo hi).map .d)]⟩
  | .o k => match obK ρ k with
    | .lst xs => Q (.o ρ.ob.length) ⟨ρ.sl, ρ.ob ++ [.lst (cutD xs lo hi)]⟩
    | _ => False
  | _ => False
def wSl (wa : WE) (wl wh : WO) : WE := fun ρ Q X => wa ρ (fun x ρ1 => wl ρ1 (fun lo ρ2 => wh ρ2 (fun hi ρ3 => dSl x lo hi ρ3 Q) X) X) X
theorem whole_cut {α : Type} (xs : List α) (lo hi : Option Int) (h : HT.sIx xs.length 0 lo = 0 ∧ HT.sIx xs.length xs.length hi = xs.length) : cutD xs lo hi = xs := by
  unfold cutD
  rw [h.1, h.2]
  simp
theorem mineL {F G H : Hp} {as : List Addr} {ρ : S} {σ : St} {Q : QD} {C : VK} {p : Addr} {vs : List V} {xs : List DV} (k : Kv K F G as σ Q C) (ok : Ok K ρ σ F G H as) (hp : H p = none) (r : RepVs K G as vs xs) (q : Q (.o ρ.ob.length) ⟨ρ.sl, ρ.ob ++ [.lst xs]⟩) :
    C (.ref p) (upd H p (.lst vs)) := by
  refine k _ _ _ G _ (as ++ [p]) q (ok.mine (x := .lst xs) hp ⟨vs, upd_same, r.mono ⟨Same.refl _, [p], rfl⟩⟩) ⟨Same.refl _, [p], rfl⟩ ⟨p, ?_, rfl⟩
  rw [← ok.mem.len]
  exact get_last _ _
theorem pd_slice {lo hi : Option Expr} {p2 : Pos} {wl wh : WO} (ha : PD T a wa) (hl : PDO T lo wl) (hh : PDO T hi wh) : PD T (.Subscript a (.Slice lo hi none p2) pos) (wSl wa wl wh) := by
  obtain ⟨ta, ha, da⟩ := ha
  obtain ⟨tl, hl, dl⟩ := hl
  obtain ⟨th, hh, dh⟩ := hh
  refine ⟨fun W => tSl (rSlE T.K) (ta W) (tl W) (th W), fun W X g tk => pe_slice (by unfold rSlE; rw [← g.K]; exact SlR.or sl_tupA sl_list) (ha W X g tk) (hl W X g tk) (hh W X g tk), fun ρ Q X h W σ F G H as ok acc C k => ?_⟩
  refine da _ _ _ h W σ F G H as ok acc _ fun x ρ1 v G1 H1 as1 h1 ok1 n1 r1 => ?_
  refine dl _ _ _ h1 W σ F G1 H1 as1 ok1 (acc.next n1) _ fun lo ρ2 G2 H2 as2 h2 ok2 n2 => ?_
  refine dh _ _ _ h2 W σ F G2 H2 as2 ok2 (acc.next (n1.trans n2)) _ fun hi ρ3 G3 H3 as3 h3 ok3 n3 => ?_
  have r3 := r1.mono (n2.trans n3)
  have k3 := k.next ((n1.trans n2).trans n3)
  match x, h3, r3 with
  | .d (.tuple ds), h3, r3 =>
    obtain ⟨a, xs, rfl, hs0, r⟩ := repTt r3
    have hs : SqT T.K G3 a xs := SqT.of hs0
    refine .inl ⟨a, xs, rfl, same_sqT ok3.mem.gh hs, fun hw => ?_, fun _ p hp => ?_⟩
    · have e : cutD ds lo hi = ds := whole_cut ds lo hi (by rw [← r.length]; exact hw)
      have h3 : Q (.d (.tuple (cutD ds lo hi))) ρ3 := h3
      rw [e] at h3
      exact k3.same ok3 h3 (.tup hs0 r)
    · exact k3.data ok3 hp h3 (.tup upd_same ((cut_rep r lo hi).mono (same_new (ok3.mem.fresh hp).1)))
  | .d (.list ds), h3, r3 =>
    obtain ⟨a, xs, rfl, hs, r⟩ := repL r3
    exact .inr ⟨a, xs, rfl, ok3.mem.gh.seq hs, fun p hp => mineL k3 ok3 hp (RepVs.of (cut_rep r lo hi)) h3⟩
  | .o n, h3, r3 =>
    unfold dSl at h3
    cases e : obK ρ3 n with
    | lst xs =>
      have h3 : Q (.o ρ3.ob.length) ⟨ρ3.sl, ρ3.ob ++ [.lst (cutD xs lo hi)]⟩ := by
        simp only [e] at h3
        exact h3
      obtain ⟨a, rfl, _, _, vs, hv, r⟩ := repO ok3 r3 e (by intro z; cases z)
      exact .inr ⟨a, vs, rfl, SqL.of hv, fun p hp => mineL k3 ok3 hp (cut_repV r lo hi) h3⟩
    | dk _ => simp only [e] at h3
    | dt _ => simp only [e] at h3
    | gone => simp only [e] at h3

/-! ### calls of what is built in -/
theorem pd_callB {r : List V → Hp → VK → Prop} {R : List DV → S → QD → Prop} {x : Str} {id : String} {p : Pos} (hc : ∀ X, X.K = T.K → X.w = T.w → X.prog = T.P → X.calm = true → X.A.units + 64 < cLine → X.A.guards = some [] → CallR X (.builtin id) r) (hr : CaD T.K r R)
    (hg : T.sc.names.lookup x = some .globalImplicit) (hm : T.mg x = none) (hv : bootBuiltins x = some (.builtin id)) (ha : PDA T (e :: es) w) (hn : x ≠ "__name__" := by decide) (hdb : (x == ("__debug__" : Str)) = false := by decide)
    (he : ∀ env, starEach (e :: es) env = (false, eval e env) :: starEach es env := by intro _; rfl) (hpl : ∀ env, (backTo pos (starEach es env)).any (·.1) = false := by intro _; rfl) : PD T (.Call (.Name x p) (e :: es) [] pos) (wCa R w) := by
  obtain ⟨ta, ha, da⟩ := ha
  exact ⟨fun W => tCB r (ta W), fun W X g tk => pe_callB (hc X g.K g.w g.P g.calm g.room.units g.gds) (by show X.env.scope.names.lookup x = _; rw [g.sc]; exact hg) (by rw [g.mg]; exact hm) hv (ha W X g tk) hn hdb (he _) (hpl _), fun ρ Q X h => de_ca hr da h⟩
theorem pd_callTy {r : List V → Hp → VK → Prop} {R : List DV → S → QD → Prop} {x : Str} {id : String} {p : Pos} (hc : ∀ X, X.K = T.K → X.w = T.w → X.prog = T.P → X.calm = true → X.A.units + 64 < cLine → X.A.guards = some [] → CallR X (.type id) r) (hr : CaD T.K r R)
    (hg : T.sc.names.lookup x = some .globalImplicit) (hm : T.mg x = none) (hv : bootBuiltins x = some (.type id)) (ha : PDA T (e :: es) w) (hn : x ≠ "__name__" := by decide) (hdb : (x == ("__debug__" : Str)) = false := by decide)
    (he : ∀ env, starEach (e :: es) env = (false, eval e env) :: starEach es env := by intro _; rfl) (hpl : ∀ env, (backTo pos (starEach es env)).any (·.1) = false := by intro _; rfl) : PD T (.Call (.Name x p) (e :: es) [] pos) (wCa R w) := by
  obtain ⟨ta, ha, da⟩ := ha
  exact ⟨fun W => tCB r (ta W), fun W X g tk => pe_callTy (hc X g.K g.w g.P g.calm g.room.units g.gds) (by show X.env.scope.names.lookup x = _; rw [g.sc]; exact hg) (by rw [g.mg]; exact hm) hv (ha W X g tk) hn hdb (he _) (hpl _), fun ρ Q X h => de_ca hr da h⟩
end
end DL
end

section
set_option Elab.async false
set_option linter.all false
set_option maxRecDepth 100000
set_option maxHeartbeats 1000000
set_option autoImplicit false
namespace DL
open PySem PySem.Spec PyProof.Rows L2

/-! ### defs, known to be called where no repr is under way -/
structure FnG (P : Program) (w : World) (K : PySem.W.Frag) (mg : Str → Option Value) (base : Heap) (k : Nat) (f : Addr) (fd : FuncData) (ps : List Str) (sp : Sp) : Prop where
  len : ∀ vs H Q E, sp vs H Q E → vs.length = ps.length
  run : ∀ (A : Around), A.guards = some [] → Room k A → ∀ (outer : List Env) (s : Shared) (H : Hp), Env0 P w K mg base A outer s H → ∀ (args : Args) (us : List Value) (vs : List V), BindsTo s fd args (ps.zip us) → Vals vs us →
    ∀ (Q : VK) (E : XK), sp vs H Q E → codeAny (model P w) A (.call (.ref f) args) (CR (L2.CX P w) outer P w H s Q E) s
section
variable {P : Program} {w : World} {K : PySem.W.Frag} {mg : Str → Option Value} {base : Heap}
theorem FnG.up {j k : Nat} {f : Addr} {fd : FuncData} {ps : List Str} {sp : Sp} (F : FnG P w K mg base j f fd ps sp) (h : j ≤ k) : FnG P w K mg base k f fd ps sp :=
  ⟨F.len, fun A g r => F.run A g (r.mono h)⟩
/-- a def's body -/
theorem fng_mk {x qual : Str} {st : Stmt} {f : Addr} {fd : FuncData} {N ps : List Str} {k : Nat} {sp : Sp} (F : Fun K x qual st f fd) (S : FnScope N ps (defScope st)) (len : ∀ vs H Q E, sp vs H Q E → vs.length = ps.length)
    (body : ∀ (cdv : Value) (A : Around) (outer : List Env) (s : Shared) (H : Hp) (vs : List V) (Q : VK) (E : XK), A.guards = some [] → Room k (A.deeper (envOfC qual (defScope st) s.heap.objs.size f cdv)) → sp vs H Q E →
      ∃ t, PSs (cxOf (L2.CX P w) P w K mg base N qual (defScope st) f cdv A outer s H E) (defBody st) t ∧ t { nx := fun _ H' => Q .non H', rt := Q } (L2.start N vs) H) : FnG P w K mg base (k + 1) f fd ps sp := by
  obtain ⟨oc, od, kV, doc, pm, an, cdv, ct, osl, rfl, lk, hcd⟩ := F.ex
  refine ⟨len, fun A gA room outer s H e0 args us vs bnd rv Q E h => ?_⟩
  have keepB : ∀ (b : Addr) (o : Obj), base.get? b = some o → s.heap.get? b = some o := fun b o e => (e0.bs b o e).1
  have inK : K.In s.heap := e0.mod.kin.keeps keepB
  have nolim : s.heap.NoLimit := e0.mod.nolimit.keeps keepB
  refine codeAny_call_function room.depth (inK _ _ lk) rfl S.co S.gen rfl (PySem.W.codeRec_of inK hcd) (bnd _ _ _ _ ?_)
  refine wpAny_newFunctionEnv_cells S.kind (fun y hy => ?_) fun env he s1 made => ?_
  · have hp : y.1 ∈ ps := (List.of_mem_zip (a := y.1) (b := y.2) hy).1
    exact (S.par y.1 hp).elim (fun q => .inl q) fun q => .inr ⟨q, PySem.W.cellsFrom_some _ _ _ (.inl q)⟩
  · subst he
    obtain ⟨t, run, hq⟩ := body cdv A outer s H vs Q E gA (room.deeper _) h
    have I0 : Inv (cxOf (L2.CX P w) P w K mg base N qual (defScope st) f cdv A outer s H E) [] (L2.start N vs) H s1 := inv_start S room.hd e0 (len _ _ _ _ h) rv made
    refine ⟨nolim.keeps made.toInCall.keep, codeAny_func (wpAny_mono (run.run [] s1 _ H _ I0 hq) (fun fl s2 done => ?_) fun _ _ z => z)⟩
    cases fl with
    | brk => exact (done.choose_spec.choose_spec.2 : False).elim
    | cont => exact (done.choose_spec.choose_spec.2 : False).elim
    | next =>
      obtain ⟨_, H2, J, q⟩ := done
      exact ⟨V.non, H2, J.os, J.bare, J.base, J.hok, rfl, q⟩
    | ret u =>
      obtain ⟨v, _, H2, J, r2, q⟩ := done
      exact ⟨v, H2, J.os, J.bare, J.base, J.hok, r2, q⟩
end
section
variable {X : Cx} {k : Nat} {f : Addr} {fd : FuncData} {ps : List Str} {sp : Sp} {dvs : List V} {ds : List Value} {W : WX}
theorem run_g {pins : List (Addr × Obj)} {σ : St} {H : Hp} {s : Shared} {Q : VK} {us : List Value} {vs : List V} (F : FnG X.prog X.w X.K X.mg X.base k f fd ps sp) (gA : X.A.guards = some []) (room : Room k X.A) (bnd : Binds X.K fd ps ds) (dv : Vals dvs ds) (tk : Takes X W)
    (I : Inv X pins σ H s) (rv : Vals vs us) (h : sp (vs ++ dvs) H Q (L2.WE W σ)) : wpAny (model X.prog X.w) X.A (call (.ref f) us) (EP X pins σ Q) X.xe s := by
  have all : Vals (vs ++ dvs) (us ++ ds) := rv.append dv
  have n : (us ++ ds).length = ps.length := all.length ▸ F.len _ _ _ _ h
  refine wpAny_call (codeAny_mono (F.run X.A gA room X.stack s H I.env0 ⟨us, []⟩ _ _ (bnd s us I.kIn n) all Q _ h) fun r s2 out => ?_)
  match r, out with
  | .error e, out => exact passAt tk σ pins H s e s2 I out
  | .ok (.ret u), out => exact I.after out
def tCallG (sp : Sp) (dvs : List V) (W : WX) (t : TA) : TE := fun σ H Q => t σ H fun vs H1 => sp (vs ++ dvs) H1 Q (L2.WE W σ)
theorem pe_callG {x : Str} {p pos : Pos} {e : Expr} {es : List Expr} {t : TA} (F : FnG X.prog X.w X.K X.mg X.base k f fd ps sp) (gA : X.A.guards = some []) (room : Room k X.A) (gl : Gl X x) (hm : X.mg x = some (.ref f)) (kp : PySem.W.keepIn X.K (.ref f) = true) (bnd : Binds X.K fd ps ds) (dv : Vals dvs ds)
    (tk : Takes X W) (ha : PA X (e :: es) t) (h1 : (x == ("__debug__" : Str)) = false) (h2 : starEach (e :: es) X.env = (false, eval e X.env) :: starEach es X.env) (h3 : (backTo pos (starEach es X.env)).any (·.1) = false) :
    PE X (.Call (.Name x p) (e :: es) [] pos) (tCallG sp dvs W t) := by
  constructor
  intro pins s σ H Q I h
  apply wpAny_Call_Name_kw
  apply ld_glob I gl hm _ h1
  refine PySem.W.callWith_K (h₀ := X.base) I.ok.mod.kin kp (thn (ha.run pos pins s σ H _ I h) ?_) h2 h3
  rintro us s1 ⟨vs, H1, I1, rv, q⟩
  exact ⟨I1.kIn, run_g F gA room bnd dv tk I1 rv q⟩
end
/-! ### what a def promises, of data: arguments, objects, what is wished of the value and the objects behind, of an exception -/
abbrev DSp := List DV → List OB → (DV → List OB → Prop) → (XD → List OB → Prop) → Prop
def SpD (K : PySem.W.Frag) (n : Nat) (sp : DSp) : Sp := fun vs H Q E => ∃ (F G : Hp) (as : List Addr) (dvs : List DV) (ob : List OB) (R : DV → List OB → Prop) (X : XD → List OB → Prop),
  Mem K F G H as ob ∧ RepVs K G as vs dvs ∧ dvs.length = n ∧ sp dvs ob R X ∧
  (∀ (dv : DV) (ob' : List OB) (v : V) (G' H' : Hp) (as' : List Addr), R dv ob' → Mem K F G' H' as' ob' → Nxt G as G' as' → RepV K G' as' v dv → Q v H') ∧
  (∀ (xd : XD) (ob' : List OB) (d : Option Addr) (G' H' : Hp) (as' : List Addr), X xd ob' → Mem K F G' H' as' ob' → Nxt G as G' as' → XRep K G' H' as' d xd.fs → E (.ref xd.cls) d H')
def startS (N : List Str) (dvs : List DV) : List (Option DV) := dvs.map some ++ List.replicate (N.length - dvs.length) none
def ends (R : DV → List OB → Prop) (X : XD → List OB → Prop) : DEnds := ⟨fun ρ' => R (.d .none) ρ'.ob, fun dv ρ' => R dv ρ'.ob, fun _ => False, fun _ => False, fun xd ρ' => X xd ρ'.ob⟩

section
variable {P : Program} {w0 : World} {K : PySem.W.Frag} {mg : Str → Option Value} {base : Heap}
theorem start_ok {F G H : Hp} {as : List Addr} {N : List Str} {vs : List V} {dvs : List DV} {ob : List OB} (m : Mem K F G H as ob) (r : RepVs K G as vs dvs) : Ok K ⟨startS N dvs, ob⟩ (L2.start N vs) F G H as := by
  refine ⟨m, ?_, fun i dv e => ?_⟩
  · unfold startS L2.start
    rw [List.length_append, List.length_append, List.length_map, List.length_map, List.length_replicate, List.length_replicate, r.length]
  · have e : (startS N dvs)[i]? = some (some dv) := e
    unfold startS at e
    unfold L2.start
    by_cases hi : i < dvs.length
    · rw [List.getElem?_append_left (by rw [List.length_map]; exact hi), List.getElem?_map] at e
      cases q : dvs[i]? with
      | none =>
        rw [q] at e
        cases e
      | some x =>
        rw [q] at e
        cases e
        obtain ⟨u, h1, h2⟩ := r.get q
        refine ⟨u, ?_, h2⟩
        rw [List.getElem?_append_left (by rw [List.length_map, r.length]; exact hi), List.getElem?_map, h1]
        rfl
    · rw [List.getElem?_append_right (by rw [List.length_map]; omega)] at e
      have := List.mem_of_getElem? e
      rw [List.mem_replicate] at this
      cases this.2
theorem ok_def {x qual : Str} {st : Stmt} {f : Addr} {fd : FuncData} {N ps : List Str} {k : Nat} {sp : DSp} {w : WS} (F : Fun K x qual st f fd) (S : FnScope N ps (defScope st))
    (hb : PDSs ⟨P, w0, K, mg, base, N, defScope st, k, true⟩ (defBody st) w) (hsp : ∀ dvs ob R X, dvs.length = ps.length → sp dvs ob R X → w (ends R X) ⟨startS N dvs, ob⟩) :
    FnG P w0 K mg base (k + 1) f fd ps (SpD K ps.length sp) := by
  obtain ⟨t, ht, hd⟩ := hb
  refine fng_mk F S (fun vs H Q E h => ?_) (fun cdv A outer s H vs Q E hga hr h => ?_)
  · obtain ⟨F, G, as, dvs, ob, R, X, _, r, l, _⟩ := h
    rw [r.length]
    exact l
  · obtain ⟨F, G, as, dvs, ob, R, X, m, r, l, hs, hR, hX⟩ := h
    refine ⟨t fun cls d _ H => E cls d H, ht _ _ ⟨rfl, rfl, rfl, rfl, rfl, rfl, rfl, rfl, hr, S.nd, fun _ _ => rfl, passes_of rfl, hga⟩ (takes_of rfl rfl rfl rfl), ?_⟩
    refine hd _ _ (hsp dvs ob R X l hs) _ _ F G H as (start_ok m r) (fun xd ρ' σ' d G' H' as' q o n xr => hX xd _ d G' H' as' q o.mem n xr) _ ⟨?_, ?_, ?_, ?_⟩
    · exact fun ρ' σ' G' H' as' q o n => hR _ _ _ G' H' as' q o.mem n .non
    · exact fun dv ρ' σ' v G' H' as' q o n rv => hR _ _ _ G' H' as' q o.mem n rv
    · exact fun ρ' σ' G' H' as' q o n => q.elim
    · exact fun ρ' σ' G' H' as' q o n => q.elim
end

/-! ### the call of a def -/
/-- what of H a callee with the objects as may not touch -/
def rest (G H : Hp) (as : List Addr) : Hp := fun a => match G a with
  | none => if a ∈ as then none else H a
  | some _ => none
theorem rest_le {G H : Hp} {as : List Addr} : Same (rest G H as) H := fun a o e => by
  unfold rest at e
  cases q : G a with
  | some _ =>
    rw [q] at e
    cases e
  | none =>
    rw [q] at e
    by_cases h : a ∈ as
    · simp [h] at e
    · simpa [h] using e
theorem rest_gf {G H : Hp} {as : List Addr} (a : Addr) (o : HO) (e : rest G H as a = some o) : G a = none := by
  unfold rest at e
  cases q : G a with
  | some _ =>
    rw [q] at e
    cases e
  | none => rfl
theorem rest_as {G H : Hp} {as : List Addr} {a : Addr} (h : a ∈ as) : rest G H as a = none := by
  unfold rest
  cases q : G a with
  | some _ => rfl
  | none => simp [h]
theorem rest_get {G H : Hp} {as : List Addr} {a : Addr} {o : HO} (hg : G a = none) (h : a ∉ as) (e : H a = some o) : rest G H as a = some o := by
  unfold rest
  rw [hg]
  simp [h, e]

/-- objects of one's own named below n -/
def belV (n : Nat) : DV → Bool
  | .d _ => true
  | .o k => decide (k < n)
def belB (n : Nat) : OB → Bool
  | .lst xs => xs.all (belV n)
  | .dk kvs => kvs.all fun p => belV n p.2
  | .dt kvs => kvs.all fun p => belV n p.2
  | .gone => true
section
variable {K : PySem.W.Frag} {F G G' H H' : Hp} {as as' : List Addr}
theorem RepV.cut {n : Nat} (h : ∀ k, k < n → as'[k]? = as[k]?) {v : V} : ∀ {x : DV}, belV n x = true → RepV K G as v x → RepV K G as' v x
  | .d _, _, r => r
  | .o k, b, ⟨a, e, q⟩ => ⟨a, by rw [h k (of_decide_eq_true b)]; exact e, q⟩
theorem RepVs.cut {n : Nat} (h : ∀ k, k < n → as'[k]? = as[k]?) : ∀ {v : List V} {x : List DV}, x.all (belV n) = true → RepVs K G as v x → RepVs K G as' v x
  | _, _, _, .nil => .nil
  | _, _, b, .cons r rs => by
    rw [List.all_cons, Bool.and_eq_true] at b
    exact .cons (r.cut h b.1) (RepVs.cut h b.2 rs)
theorem ObAt.cut {n : Nat} (h : ∀ k, k < n → as'[k]? = as[k]?) {a : Addr} : ∀ {x : OB}, belB n x = true → ObAt K G H as a x → ObAt K G H as' a x
  | .lst _, b, ⟨vs, e, r⟩ => ⟨vs, e, r.cut h b⟩
  | .dk kvs, b, ⟨vs, e, e2, r⟩ => ⟨vs, e, e2, r.cut h (by simpa [belB, List.all_map] using b)⟩
  | .dt kvs, b, ⟨vs, e, e2, r⟩ => ⟨vs, e, e2, r.cut h (by simpa [belB, List.all_map] using b)⟩
  | .gone, _, _ => trivial
theorem take_get {α : Type} {l : List α} {n k : Nat} (h : k < n) : (l.take n)[k]? = l[k]? := by
  rw [List.getElem?_take_of_lt h]
/-- into the call: the first n objects go along -/
theorem Mem.into {ob : List OB} (m : Mem K F G H as ob) (n : Nat) (hb : (ob.take n).all (belB n) = true) : Mem K (rest G H (as.take n)) G H (as.take n) (ob.take n) := by
  refine ⟨m.gh, rest_le, rest_gf, m.nd.sublist (List.take_sublist _ _), by rw [List.length_take, List.length_take, m.len], fun a ha => m.al a (List.mem_of_mem_take ha), fun a ha => rest_as ha, fun k a x e1 e2 e3 => ?_, fun k a x e1 e2 => ?_⟩
  · have hk : k < n := by
      have := (List.getElem?_eq_some_iff.mp e1).1
      rw [List.length_take] at this
      omega
    rw [take_get hk] at e1 e2
    exact m.own k a x e1 e2 e3
  · have hk : k < n := by
      have := (List.getElem?_eq_some_iff.mp e1).1
      rw [List.length_take] at this
      omega
    have hx : belB n x = true := List.all_eq_true.mp hb x (List.mem_of_getElem? e2)
    rw [take_get hk] at e1 e2
    exact (m.at_ k a x e1 e2).cut (fun j hj => take_get hj) hx
/-- behind the call -/
theorem Mem.outof {ob ob' : List OB} {n : Nat} (m : Mem K F G H as ob) (hn : n ≤ ob.length) (m' : Mem K (rest G H (as.take n)) G' H' as' ob') (x : Nxt G (as.take n) G' as') (hl : n ≤ ob'.length) (hb : (ob'.take n).all (belB n) = true) :
    Mem K F G' H' as (ob'.take n ++ ob.drop n) := by
  have hna : n ≤ as.length := by rw [m.len]; exact hn
  obtain ⟨r, er⟩ := x.a
  have pre : ∀ k, k < n → as[k]? = as'[k]? := fun k hk => by
    rw [er, List.getElem?_append_left (by rw [List.length_take]; omega), take_get hk]
  have stay : ∀ a o, H a = some o → a ∉ as.take n → H' a = some o := fun a o e ha => by
    cases q : G a with
    | some o' =>
      have e1 := m.gh a o' q
      rw [e] at e1
      cases e1
      exact m'.gh a o (x.g a o q)
    | none => exact m'.fh a o (rest_get q ha e)
  have spl : ∀ {k : Nat} {y : OB}, (ob'.take n ++ ob.drop n)[k]? = some y → (k < n ∧ ob'[k]? = some y) ∨ (n ≤ k ∧ ob[k]? = some y) := fun {k y} e => by
    have l1 : (ob'.take n).length = n := by rw [List.length_take]; omega
    by_cases hk : k < n
    · rw [List.getElem?_append_left (by omega), take_get hk] at e
      exact .inl ⟨hk, e⟩
    · rw [List.getElem?_append_right (by omega), l1, List.getElem?_drop] at e
      refine .inr ⟨by omega, ?_⟩
      rw [show n + (k - n) = k by omega] at e
      exact e
  have far : ∀ {k : Nat} {a : Addr}, as[k]? = some a → n ≤ k → a ∉ as.take n := fun {k a} e hk hm => by
    obtain ⟨j, hj⟩ := List.getElem?_of_mem hm
    have jl : j < n := by
      have := (List.getElem?_eq_some_iff.mp hj).1
      rw [List.length_take] at this
      omega
    rw [take_get jl] at hj
    have := nd_ixA m.nd e hj
    omega
  refine ⟨m'.gh, fun a o e => ?_, fun a o e => ?_, m.nd, ?_, fun a ha => ?_, m.ofr, fun k a y e1 e2 e3 => ?_, fun k a y e1 e2 => ?_⟩
  · exact stay a o (m.fh a o e) fun hm => by
      rw [m.ofr a (List.mem_of_mem_take hm)] at e
      cases e
  · have hm : a ∉ as.take n := fun hm => by
      rw [m.ofr a (List.mem_of_mem_take hm)] at e
      cases e
    exact m'.gf a o (rest_get (m.gf a o e) hm (m.fh a o e))
  · rw [List.length_append, List.length_take, List.length_drop, m.len]
    omega
  · obtain ⟨o, e⟩ := m.al a ha
    by_cases hm : a ∈ as.take n
    · exact m'.al a (by rw [er]; exact List.mem_append_left _ hm)
    · exact ⟨o, stay a o e hm⟩
  · rcases spl e2 with ⟨hk, e⟩ | ⟨hk, e⟩
    · exact m'.own k a y (by rw [← pre k hk]; exact e1) e e3
    · obtain ⟨o, eo⟩ := m.al a (List.mem_of_getElem? e1)
      exact m'.gf a o (rest_get (m.own k a y e1 e e3) (far e1 hk) eo)
  · rcases spl e2 with ⟨hk, e⟩ | ⟨hk, e⟩
    · have hx : belB n y = true := by
        have l1 : (ob'.take n)[k]? = some y := by rw [take_get hk]; exact e
        exact List.all_eq_true.mp hb y (List.mem_of_getElem? l1)
      exact (m'.at_ k a y (by rw [← pre k hk]; exact e1) e).cut pre hx
    · exact (m.at_ k a y e1 e).mono ⟨x.g, [], (List.append_nil as).symm⟩ fun o q => stay a o q (far e1 hk)
end

def isD : DV → Bool
  | .d _ => true
  | .o _ => false
def xdD (xd : XD) : Bool := match xd.fs with
  | none => true
  | some l => l.all fun p => isD p.2
section
variable {K : PySem.W.Frag} {F G G' H H' : Hp} {as as' : List Addr}
theorem RepV.data {v : V} : ∀ {x : DV}, isD x = true → RepV K G as v x → RepV K G as' v x
  | .d _, _, r => r
theorem RepVs.data : ∀ {v : List V} {x : List DV}, x.all isD = true → RepVs K G as v x → RepVs K G as' v x
  | _, _, _, .nil => .nil
  | _, _, b, .cons r rs => by
    rw [List.all_cons, Bool.and_eq_true] at b
    exact .cons (r.data b.1) (RepVs.data b.2 rs)
theorem XRep.data {d : Option Addr} {xd : XD} (h : xdD xd = true) (r : XRep K G H as d xd.fs) : XRep K G H as' d xd.fs := by
  unfold xdD at h
  cases e : xd.fs with
  | none =>
    rw [e] at r
    exact r
  | some l =>
    rw [e] at r h
    obtain ⟨dd, ws, e1, e2, e3, e4⟩ := r
    exact ⟨dd, ws, e1, e2, e3, e4.data (by simpa [List.all_map] using h)⟩
end
/-- what a call is worth: the first n objects go along; data come back -/
def callD (n : Nat) (sp : DSp) (xs : List DV) (ρ1 : S) (Q : QD) (X : QX) : Prop := xs.all (belV n) = true ∧ n ≤ ρ1.ob.length ∧ (ρ1.ob.take n).all (belB n) = true ∧
  sp xs (ρ1.ob.take n) (fun dv ob' => isD dv = true ∧ n ≤ ob'.length ∧ (ob'.take n).all (belB n) = true ∧ Q dv ⟨ρ1.sl, ob'.take n ++ ρ1.ob.drop n⟩)
    (fun xd ob' => xdD xd = true ∧ n ≤ ob'.length ∧ (ob'.take n).all (belB n) = true ∧ X xd ⟨ρ1.sl, ob'.take n ++ ρ1.ob.drop n⟩)
def wCall (n : Nat) (sp : DSp) (w : WA) : WE := fun ρ Q X => w ρ (fun xs ρ1 => callD n sp xs ρ1 Q X) X
/-- .. with keywords alone: the parameter j has the keyword number pi[j] -/
def wCallK (n : Nat) (sp : DSp) (pi : List Nat) (w : WA) : WE := fun ρ Q X => w ρ (fun xs ρ1 => xs.length = pi.length ∧ callD n sp (pi.map fun j => xs.getD j (.d .none)) ρ1 Q X) X
/-- what a def's promise is, with all that its call wants -/
structure Def (T : Sta) (x : Str) (st : Stmt) (ps : List Str) (sp : DSp) : Prop where
  ex : ∃ (k : Nat) (f : Addr) (fd : FuncData), k ≤ T.k ∧ FnG T.P T.w T.K T.mg T.base k f fd ps (SpD T.K ps.length sp) ∧ T.mg x = some (.ref f) ∧ PySem.W.keepIn T.K (.ref f) = true ∧ Binds T.K fd ps [] ∧ Fun T.K x x st f fd
  len : ∀ ys ob R X, sp ys ob R X → ys.length = ps.length
section
variable {T : Sta} {pos : Pos} {a b c e : Expr} {es : List Expr} {wa wb wc we : WE} {w : WA} {wt wu : WT}
theorem take_len {α : Type} {l : List α} {n : Nat} (h : n ≤ l.length) : (l.take n).length = n := by rw [List.length_take]; omega
theorem callD_ok {K : PySem.W.Frag} {n m : Nat} {sp : DSp} {xs : List DV} {ρ1 : S} {Q : QD} {X : QX} {W : WX} {C : VK} {σ : St} {F G1 H1 : Hp} {as1 : List Addr} {vs : List V} (ok1 : Ok K ρ1 σ F G1 H1 as1) (acc : AccE K F G1 as1 σ W X) (kk : Kv K F G1 as1 σ Q C) (r1 : RepVs K G1 as1 vs xs)
    (hm : xs.length = m) (h1 : callD n sp xs ρ1 Q X) : SpD K m sp vs H1 C (L2.WE W σ) := by
  obtain ⟨b1, b2, b3, hs⟩ := h1
  have pre : ∀ k, k < n → (as1.take n)[k]? = as1[k]? := fun k hk => take_get hk
  refine ⟨rest G1 H1 (as1.take n), G1, as1.take n, xs, ρ1.ob.take n, _, _, ok1.mem.into n b3, r1.cut pre b1, hm, hs, fun dv ob' v G' H' as' q m' n' rv => ?_, fun xd ob' d G' H' as' q m' n' rx => ?_⟩
  · obtain ⟨q1, q2, q3, q4⟩ := q
    have m2 := ok1.mem.outof b2 m' n' q2 q3
    refine kk dv _ v G' H' as1 q4 ⟨m2, ok1.sll, fun i dx e => ?_⟩ ⟨n'.g, [], (List.append_nil _).symm⟩ (rv.data q1)
    obtain ⟨u, e1, r⟩ := ok1.sl i dx e
    exact ⟨u, e1, r.mono ⟨n'.g, [], (List.append_nil _).symm⟩⟩
  · obtain ⟨q1, q2, q3, q4⟩ := q
    have m2 := ok1.mem.outof b2 m' n' q2 q3
    refine acc xd _ d G' H' as1 q4 ⟨m2, ok1.sll, fun i dx e => ?_⟩ ⟨n'.g, [], (List.append_nil _).symm⟩ (XRep.data q1 rx)
    obtain ⟨u, e1, r⟩ := ok1.sl i dx e
    exact ⟨u, e1, r.mono ⟨n'.g, [], (List.append_nil _).symm⟩⟩
theorem pd_call {x : Str} {p : Pos} {ps : List Str} {st : Stmt} {sp : DSp} (n : Nat) (D : Def T x st ps sp) (hg : T.sc.names.lookup x = some .globalImplicit) (ha : PDA T (e :: es) w)
    (hdb : (x == ("__debug__" : Str)) = false := by decide) (he : ∀ env, starEach (e :: es) env = (false, eval e env) :: starEach es env := by intro _; rfl) (hpl : ∀ env, (backTo pos (starEach es env)).any (·.1) = false := by intro _; rfl) :
    PD T (.Call (.Name x p) (e :: es) [] pos) (wCall n sp w) := by
  obtain ⟨⟨k, f, fd, hk, Fn, hm, hkp, hb, _⟩, hlen⟩ := D
  obtain ⟨ta, ha, da⟩ := ha
  refine ⟨fun W => tCallG (SpD T.K ps.length sp) [] W (ta W), fun W X g tk => ?_, fun ρ Q X h W σ F G H as ok acc C kk => ?_⟩
  · obtain ⟨h1, h2, h3, h4, h5, h6, h7, h8, h9, h10, h11, h12, h13⟩ := g
    have ha' := ha W X ⟨h1, h2, h3, h4, h5, h6, h7, h8, h9, h10, h11, h12, h13⟩ tk
    obtain ⟨TP, Tw, TK, Tmg, Tb, TN, Tsc, Tk, Tt⟩ := T
    simp only at h1 h2 h3 h4 h5 h6 h7 h8 h9 h10 h11 h12 h13 hk Fn hm hkp hb hg
    subst h1 h2 h3 h4 h5 h6 h7
    exact pe_callG Fn h13 (h9.mono hk) hg hm hkp hb .nil tk ha' hdb (he _) (hpl _)
  · refine da _ _ _ h W σ F G H as ok acc _ fun xs ρ1 vs G1 H1 as1 h1 ok1 n1 r1 => ?_
    show SpD T.K ps.length sp (vs ++ []) H1 C (L2.WE W σ)
    rw [List.append_nil]
    exact callD_ok ok1 (acc.next n1) (kk.next n1) r1 (hlen _ _ _ _ h1.2.2.2) h1

/-! ### keywords alone -/
def PDK (T : Sta) (kws : List Keyword) (w : WA) : Prop := ∃ t : WX → TA, (∀ W X, Good T X → Takes X W → PK X kws (t W)) ∧ ∀ ρ Q X, w ρ Q X → DA T.K t ρ Q X
theorem pdk_nil : PDK T [] (fun ρ Q _ => Q [] ρ) := ⟨fun _ => tNil, fun _ _ _ _ => pk_nil, fun ρ Q X h W σ F G H as ok acc C k => k [] ρ [] G H as h ok (Nxt.refl _ _) .nil⟩
theorem pdk_cons {nm : Option Str} {kpos : Pos} {kws : List Keyword} (ha : PD T e wa) (hr : PDK T kws w) : PDK T (⟨nm, e, kpos⟩ :: kws) (fun ρ Q X => wa ρ (fun x ρ1 => w ρ1 (fun xs ρ2 => Q (x :: xs) ρ2) X) X) := by
  obtain ⟨ta, ha, da⟩ := ha
  obtain ⟨tr, hr, dr⟩ := hr
  refine ⟨fun W => tCons (ta W) (tr W), fun W X g tk => pk_cons (ha W X g tk) (hr W X g tk), fun ρ Q X h W σ F G H as ok acc C k => ?_⟩
  refine da _ _ _ h W σ F G H as ok acc _ fun x ρ1 v G1 H1 as1 h1 ok1 n1 r1 => ?_
  refine dr _ _ _ h1 W σ F G1 H1 as1 ok1 (acc.next n1) _ fun xs ρ2 vs G2 H2 as2 h2 ok2 n2 r2 => ?_
  exact k (x :: xs) ρ2 (v :: vs) G2 H2 as2 h2 ok2 (n1.trans n2) (.cons (r1.mono n2) r2)
def tCallGK (sp : Sp) (pi : List Nat) (W : WX) (t : TA) : TE := fun σ H Q => t σ H fun vs H1 => vs.length = pi.length ∧ sp (pi.map fun j => vs.getD j .non) H1 Q (L2.WE W σ)
theorem vals_getD {vs : List V} {us : List Value} (r : Vals vs us) (j : Nat) : RelV (vs.getD j .non) (us.getD j .none) := by
  rw [List.getD_eq_getElem?_getD, List.getD_eq_getElem?_getD]
  cases e : vs[j]? with
  | none =>
    have : us[j]? = none := by
      rw [List.getElem?_eq_none_iff] at e ⊢
      rw [← r.length]
      exact e
    rw [this]
    rfl
  | some v =>
    obtain ⟨u, h1, h2⟩ := r.get e
    rw [h1]
    exact h2
theorem vals_pi {vs : List V} {us : List Value} (r : Vals vs us) : ∀ pi : List Nat, Vals (pi.map fun j => vs.getD j .non) (pi.map fun j => us.getD j .none)
  | [] => .nil
  | j :: pi => .cons (vals_getD r j) (vals_pi r pi)
theorem pe_callGK {X : Cx} {k : Nat} {f : Addr} {fd : FuncData} {ps ks : List Str} {sp : Sp} {W : WX} {x : Str} {p pos : Pos} {kws : List Keyword} {t : TA} {pi : List Nat} (F : FnG X.prog X.w X.K X.mg X.base k f fd ps sp) (gA : X.A.guards = some []) (room : Room k X.A) (gl : Gl X x) (hm : X.mg x = some (.ref f))
    (kp : PySem.W.keepIn X.K (.ref f) = true) (bnd : ∀ (s : Shared) (us : List Value), us.length = pi.length → BindsTo s fd ⟨[], ks.zip us⟩ (ps.zip (pi.map fun j => us.getD j .none))) (tk : Takes X W) (hk : PK X kws t) (h1 : (x == ("__debug__" : Str)) = false)
    (hall : (backToKw pos (keywordEach kws X.env)).all (·.1.isSome) = true) (hks : (backToKw pos (keywordEach kws X.env)).filterMap (·.1) = ks) (hpl : ((backTo pos (starEach [] X.env)).any (·.1) || (backToKw pos (keywordEach kws X.env)).any (·.1.isNone)) = false) :
    PE X (.Call (.Name x p) [] kws pos) (tCallGK sp pi W t) := by
  constructor
  intro pins s σ H Q I h
  refine wpAny_Call_Name_kw (ld_glob I gl hm ?_ h1)
  refine PySem.W.callWith_KW0 (h₀ := X.base) I.ok.mod.kin kp hall (thn (hk.run pos pins s σ H _ I h) ?_) hpl
  rintro us s1 ⟨vs, H1, I1, rv, hl, q⟩
  refine ⟨I1.kIn, ?_⟩
  rw [hks]
  show wpAny (model X.prog X.w) X.A (call (.ref f) ([] ++ []) (ks.zip us)) (EP X pins σ Q) X.xe s1
  have ul : us.length = pi.length := by rw [← rv.length]; exact hl
  have rp := vals_pi rv pi
  refine wpAny_call (codeAny_mono (F.run X.A gA room X.stack s1 H1 I1.env0 ⟨[], ks.zip us⟩ _ _ (bnd s1 us ul) rp Q _ q) fun r s2 out => ?_)
  match r, out with
  | .error e, out => exact passAt tk σ pins H1 s1 e s2 I1 out
  | .ok (.ret u), out => exact I1.after out
theorem repVs_getD {K : PySem.W.Frag} {G : Hp} {as : List Addr} {vs : List V} {xs : List DV} (r : RepVs K G as vs xs) (j : Nat) : RepV K G as (vs.getD j .non) (xs.getD j (.d .none)) := by
  rw [List.getD_eq_getElem?_getD, List.getD_eq_getElem?_getD]
  cases e : xs[j]? with
  | none =>
    have : vs[j]? = none := by
      rw [List.getElem?_eq_none_iff] at e ⊢
      rw [r.length]
      exact e
    rw [this]
    exact .non
  | some v =>
    obtain ⟨u, h1, h2⟩ := r.get e
    rw [h1]
    exact h2
theorem repVs_pi {K : PySem.W.Frag} {G : Hp} {as : List Addr} {vs : List V} {xs : List DV} (r : RepVs K G as vs xs) : ∀ pi : List Nat, RepVs K G as (pi.map fun j => vs.getD j .non) (pi.map fun j => xs.getD j (.d .none))
  | [] => .nil
  | j :: pi => .cons (repVs_getD r j) (repVs_pi r pi)
theorem pd_callK {x : Str} {p : Pos} {ps ks : List Str} {st : Stmt} {sp : DSp} {kws : List Keyword} (n : Nat) (pi : List Nat) (D : Def T x st ps sp) (hg : T.sc.names.lookup x = some .globalImplicit) (ha : PDK T kws w)
    (hb : ∀ (kV doc pm : Value) (an : Option Addr) (cdv ct : Value) (us : List Value), us.length = pi.length → bindArgs (PySem.W.fnOf x x (defArgs st) (defBody st) (defScope st) .none kV doc pm an cdv ct) ⟨[], ks.zip us⟩ = pure (ps.zip (pi.map fun j => us.getD j .none)))
    (hks : ∀ env, (backToKw pos (keywordEach kws env)).filterMap (·.1) = ks := by intro _; rfl) (hall : ∀ env, (backToKw pos (keywordEach kws env)).all (·.1.isSome) = true := by intro _; rfl)
    (hpl : ∀ env, ((backTo pos (starEach [] env)).any (·.1) || (backToKw pos (keywordEach kws env)).any (·.1.isNone)) = false := by intro _; rfl) (hdb : (x == ("__debug__" : Str)) = false := by decide) :
    PD T (.Call (.Name x p) [] kws pos) (wCallK n sp pi w) := by
  obtain ⟨⟨k, f, fd, hk, Fn, hm, hkp, _, Fu⟩, hlen⟩ := D
  obtain ⟨ta, ha, da⟩ := ha
  refine ⟨fun W => tCallGK (SpD T.K ps.length sp) pi W (ta W), fun W X g tk => ?_, fun ρ Q X h W σ F G H as ok acc C kk => ?_⟩
  · obtain ⟨h1, h2, h3, h4, h5, h6, h7, h8, h9, h10, h11, h12, h13⟩ := g
    have ha' := ha W X ⟨h1, h2, h3, h4, h5, h6, h7, h8, h9, h10, h11, h12, h13⟩ tk
    obtain ⟨TP, Tw, TK, Tmg, Tb, TN, Tsc, Tk, Tt⟩ := T
    simp only at h1 h2 h3 h4 h5 h6 h7 h8 h9 h10 h11 h12 h13 hk Fn hm hkp Fu hg
    subst h1 h2 h3 h4 h5 h6 h7
    obtain ⟨oc, od, kV, doc, pm, an, cdv, ct, osl, rfl, _, _⟩ := Fu.ex
    exact pe_callGK Fn h13 (h9.mono hk) hg hm hkp (fun s us hl => .of_eq (hb kV doc pm an cdv ct us hl)) tk ha' hdb (hall _) (hks _) (hpl _)
  · refine da _ _ _ h W σ F G H as ok acc _ fun xs ρ1 vs G1 H1 as1 h1 ok1 n1 r1 => ⟨by rw [r1.length]; exact h1.1, ?_⟩
    exact callD_ok ok1 (acc.next n1) (kk.next n1) (repVs_pi r1 pi) (hlen _ _ _ _ h1.2.2.2.2) h1.2
end
end DL
end

section
set_option Elab.async false
set_option linter.all false
set_option maxRecDepth 100000
set_option maxHeartbeats 1000000
set_option autoImplicit false
namespace DL
open PySem PySem.Spec PyProof.Rows L2

section
variable {T : Sta} {pos : Pos} {a b c e : Expr} {es : List Expr} {wa wb wc we : WE} {w : WA} {wt wu : WT} {st : Stmt} {rest : List Stmt} {w1 w2 w3 : WS} {K : PySem.W.Frag}

/-! ### blocks -/
def wNext : WS := fun E ρ => E.nx ρ
def wSeq (w u : WS) : WS := fun E ρ => w { E with nx := fun ρ' => u E ρ' } ρ
theorem pdss_nil : PDSs T [] wNext := ⟨fun _ => tNext, fun _ _ _ _ => pss_nil, fun ρ E h W σ F G H as ok acc D l => l.nx ρ σ G H as h ok (Nxt.refl _ _)⟩
theorem pdss_one (h : PDS T st w1) : PDSs T [st] w1 := by
  obtain ⟨t, ht, d⟩ := h
  exact ⟨t, fun W X g tk => pss_one (ht W X g tk), d⟩
theorem pdss_cons (h1 : PDS T st w1) (h2 : PDSs T rest w2) : PDSs T (st :: rest) (wSeq w1 w2) := by
  obtain ⟨t1, ht1, d1⟩ := h1
  obtain ⟨t2, ht2, d2⟩ := h2
  refine ⟨fun W => tSeq (t1 W) (t2 W), fun W X g tk => pss_cons (ht1 W X g tk) (ht2 W X g tk), fun ρ E h W σ F G H as ok acc D l => ?_⟩
  exact d1 ρ { E with nx := fun ρ' => w2 E ρ' } h W σ F G H as ok acc { D with nx := t2 W D }
    ⟨fun ρ' σ' G' H' as' q o n => d2 ρ' E q W σ' F G' H' as' o (acc.next n) D (l.next n), l.rt, l.bk, l.ct⟩
def wPass : WS := fun E ρ => E.nx ρ
def wBrk : WS := fun E ρ => E.bk ρ
def wCont : WS := fun E ρ => E.ct ρ
theorem pds_pass : PDS T (.Pass pos) wPass := ⟨fun _ => tNext, fun _ _ _ _ => ps_pass, fun ρ E h W σ F G H as ok acc D l => l.nx ρ σ G H as h ok (Nxt.refl _ _)⟩
theorem pds_break : PDS T (.Break pos) wBrk := ⟨fun _ => tBreak, fun _ _ _ _ => ps_break, fun ρ E h W σ F G H as ok acc D l => l.bk ρ σ G H as h ok (Nxt.refl _ _)⟩
theorem pds_continue : PDS T (.Continue pos) wCont := ⟨fun _ => tCont, fun _ _ _ _ => ps_continue, fun ρ E h W σ F G H as ok acc D l => l.ct ρ σ G H as h ok (Nxt.refl _ _)⟩
def wRet (wa : WE) : WS := fun E ρ => wa ρ E.rt E.xr
theorem pds_ret (ha : PD T a wa) : PDS T (.Return (some a) pos) (wRet wa) := by
  obtain ⟨t, ht, d⟩ := ha
  exact ⟨fun W => tRet (t W), fun W X g tk => ps_ret (ht W X g tk), fun ρ E h W σ F G H as ok acc D l =>
    d _ _ _ h W σ F G H as ok (acc.at σ) _ fun dv ρ' v G' H' as' q o n r => l.rt dv ρ' σ v G' H' as' q o n r⟩
def wExp (wa : WE) : WS := fun E ρ => wa ρ (fun _ ρ' => E.nx ρ') E.xr
theorem pds_expr (ha : PD T a wa) (hs : ∀ env, swapsWith a none pos.line env = pure false := by intro _; rfl) : PDS T (.Expr a pos) (wExp wa) := by
  obtain ⟨t, ht, d⟩ := ha
  exact ⟨fun W => tDrop (t W), fun W X g tk => ps_expr (ht W X g tk) (hs _), fun ρ E h W σ F G H as ok acc D l =>
    d _ _ _ h W σ F G H as ok (acc.at σ) _ fun dv ρ' v G' H' as' q o n r => l.nx ρ' σ G' H' as' q o n⟩
def wIf (wt : WT) (w1 w2 : WS) : WS := fun E ρ => wt ρ (fun b ρ' => match b with
  | true => w1 E ρ'
  | false => w2 E ρ') E.xr
theorem pds_if {t1 t2 : List Stmt} (hc : PDT T c wt) (ha : PDSs T t1 w1) (hb : PDSs T t2 w2) : PDS T (.If c t1 t2 pos) (wIf wt w1 w2) := by
  obtain ⟨tc, hc, dc⟩ := hc
  obtain ⟨ta, ha, da⟩ := ha
  obtain ⟨tb, hb, db⟩ := hb
  refine ⟨fun W => tIfS (tc W) (ta W) (tb W), fun W X g tk => ps_if (hc W X g tk) (ha W X g tk) (hb W X g tk), fun ρ E h W σ F G H as ok acc D l => ?_⟩
  refine dc _ _ _ h W σ F G H as ok (acc.at σ) _ fun x ρ1 G1 H1 as1 h1 ok1 n1 => ?_
  cases x with
  | true => exact iteT (da _ _ h1 W σ F G1 H1 as1 ok1 (acc.next n1) D (l.next n1))
  | false => exact iteF (db _ _ h1 W σ F G1 H1 as1 ok1 (acc.next n1) D (l.next n1))
/-- code that is not come to -/
def wNever : WS := fun _ _ => False
theorem pds_never : PDS T st wNever := ⟨fun _ => tNever, fun _ _ _ _ => ps_never, fun ρ E h => h.elim⟩
theorem pdss_never {sts : List Stmt} : PDSs T sts wNever := ⟨fun _ => tNever, fun _ _ _ _ => pss_never, fun ρ E h => h.elim⟩

/-! ### targets -/
abbrev WG := DV → S → (S → Prop) → Prop
abbrev WGs := List PyData → S → (S → Prop) → Prop
def Wi (js : List Nat) (σ σ' : St) : Prop := ∀ vs : List Nat, (∀ j ∈ js, j ∈ vs) → wipe σ' vs = wipe σ vs
theorem wipe_get : ∀ (vs : List Nat) (σ : St) (i : Nat), (wipe σ vs)[i]? = if i ∈ vs ∧ i < σ.length then some none else σ[i]?
  | [], σ, i => by simp [wipe]
  | v :: vs, σ, i => by
    unfold wipe
    have hl : (wipe σ vs).length = σ.length := wipe_length σ vs
    by_cases h : v = i
    · subst h
      by_cases h2 : v < σ.length
      · rw [List.getElem?_set_self (by rw [hl]; exact h2), if_pos ⟨List.mem_cons_self, h2⟩]
      · rw [if_neg (fun z => h2 z.2), List.getElem?_eq_none (by rw [List.length_set, hl]; omega), List.getElem?_eq_none (by omega)]
    · rw [List.getElem?_set_ne h, wipe_get vs σ i]
      have : (i ∈ v :: vs) ↔ i ∈ vs := by simp [Ne.symm h]
      simp only [this]
theorem wi_set {i : Nat} {σ : St} {x : Option V} : Wi [i] σ (σ.set i x) := fun vs h => by
  have hi : i ∈ vs := h i (by simp)
  apply List.ext_getElem?
  intro j
  rw [wipe_get, wipe_get, List.length_set]
  by_cases e : i = j
  · subst e
    by_cases h2 : i < σ.length
    · rw [if_pos ⟨hi, h2⟩, if_pos ⟨hi, h2⟩]
    · rw [if_neg (fun z => h2 z.2), if_neg (fun z => h2 z.2), List.getElem?_eq_none (by rw [List.length_set]; omega), List.getElem?_eq_none (by omega)]
  · rw [List.getElem?_set_ne e]
theorem wi_nil {σ : St} : Wi [] σ σ := fun _ _ => rfl
theorem Wi.trans {js ks : List Nat} {σ σ1 σ2 : St} (a : Wi js σ σ1) (b : Wi ks σ1 σ2) : Wi (js ++ ks) σ σ2 := fun vs h => (b vs fun j hj => h j (List.mem_append_right _ hj)).trans (a vs fun j hj => h j (List.mem_append_left _ hj))
def DG (K : PySem.W.Frag) (g : TG) (wg : WG) (js : List Nat) : Prop := ∀ (dv : DV) (ρ : S) (Q : S → Prop), wg dv ρ Q → ∀ (σ : St) (F G H : Hp) (as : List Addr) (v : V), Ok K ρ σ F G H as → RepV K G as v dv → ∀ C : L2.St → Hp → Prop,
  (∀ (ρ' : S) (σ' : St) (G' H' : Hp) (as' : List Addr), Q ρ' → Ok K ρ' σ' F G' H' as' → Nxt G as G' as' → Wi js σ σ' → C σ' H') → g v σ H C
def DGs (K : PySem.W.Frag) (g : TGs) (wg : WGs) (js : List Nat) : Prop := ∀ (ds : List PyData) (ρ : S) (Q : S → Prop), wg ds ρ Q → ∀ (σ : St) (F G H : Hp) (as : List Addr) (vs : List V), Ok K ρ σ F G H as → Reps K G vs ds → ∀ C : L2.St → Hp → Prop,
  (∀ (ρ' : S) (σ' : St) (G' H' : Hp) (as' : List Addr), Q ρ' → Ok K ρ' σ' F G' H' as' → Nxt G as G' as' → Wi js σ σ' → C σ' H') → g vs σ H C
def PDG (T : Sta) (tg : Expr) (wg : WG) (js : List Nat) : Prop := ∃ g : TG, (∀ X, Good T X → PG X tg g) ∧ DG T.K g wg js
def PDGs (T : Sta) (tg : List Expr) (wg : WGs) (js : List Nat) : Prop := ∃ g : TGs, (∀ X, Good T X → PGs X tg g) ∧ DGs T.K g wg js
theorem Ok.set {F G H : Hp} {as : List Addr} {ρ : S} {σ : St} {v : V} {dv : DV} (ok : Ok K ρ σ F G H as) (i : Nat) (r : RepV K G as v dv) : Ok K ⟨ρ.sl.set i (some dv), ρ.ob⟩ (σ.set i (some v)) F G H as := by
  refine ⟨ok.mem, by rw [List.length_set, List.length_set]; exact ok.sll, fun j dx e => ?_⟩
  have e : (ρ.sl.set i (some dv))[j]? = some (some dx) := e
  by_cases h : i = j
  · subst h
    have hl : i < ρ.sl.length := by
      have := (List.getElem?_eq_some_iff.mp e).1
      rwa [List.length_set] at this
    rw [List.getElem?_set_self hl] at e
    cases e
    exact ⟨v, by rw [List.getElem?_set_self (by rw [ok.sll]; exact hl)], r⟩
  · rw [List.getElem?_set_ne h] at e
    obtain ⟨u, e1, r1⟩ := ok.sl j dx e
    exact ⟨u, by rw [List.getElem?_set_ne h]; exact e1, r1⟩
def wgName (i : Nat) : WG := fun dv ρ Q => Q ⟨ρ.sl.set i (some dv), ρ.ob⟩
/-- a name of the def that is stored: all of a def's body may, a comprehension its own -/
def Sto (T : Sta) (x : Str) : Prop := (T.sc.names.lookup x = some .local) ∨ (T.top = true ∧ T.sc.names.lookup x = some .cell)
theorem Sto.loc {x : Str} (h : Sto T x) {X : Cx} (g : Good T X) : Loc X.env.scope x ∧ (X.fn x = true ∨ X.env.scope.names.lookup x = some .local) := by
  rw [g.sc]
  rcases h with h | ⟨h1, h2⟩
  · exact ⟨.inl h, .inr h⟩
  · exact ⟨.inr h2, .inl (g.fn h1 x)⟩
theorem pdg_name {x : Str} (i : Nat) (hN : T.N[i]? = some x := by rfl) (hx : Sto T x := by first | exact Or.inl rfl | exact Or.inr ⟨rfl, rfl⟩) : PDG T (.Name x pos) (wgName i) [i] :=
  ⟨gName i, fun X g => pg_name (by rw [g.N]; exact g.nd) (by rw [g.N]; exact hN) (hx.loc g).1 (hx.loc g).2, fun dv ρ Q h σ F G H as v ok r C k => k _ _ G H as h (ok.set i r) (Nxt.refl _ _) wi_set⟩
def wgNil : WGs := fun ds ρ Q => match ds with
  | [] => Q ρ
  | _ => False
def wgCons (wg : WG) (wr : WGs) : WGs := fun ds ρ Q => match ds with
  | x :: r => wg (.d x) ρ fun ρ1 => wr r ρ1 Q
  | [] => False
theorem pdgs_nil : PDGs T [] wgNil [] := ⟨gNil, fun _ _ => pgs_nil, fun ds ρ Q h σ F G H as vs ok r C k => by
  match ds, h, r with
  | [], h, .nil => exact ⟨rfl, k ρ σ G H as h ok (Nxt.refl _ _) wi_nil⟩⟩
theorem pdgs_cons {wg : WG} {wr : WGs} {js ks : List Nat} (h1 : PDG T e wg js) (h2 : PDGs T es wr ks) (hs : ∀ env, (assignEach (e :: es) env).map (·.2) = assign e env :: (assignEach es env).map (·.2) := by intro _; rfl) : PDGs T (e :: es) (wgCons wg wr) (js ++ ks) := by
  obtain ⟨g, hg, dg⟩ := h1
  obtain ⟨gs, hgs, dgs⟩ := h2
  refine ⟨gCons g gs, fun X gd => pgs_cons (hg X gd) (hgs X gd) (hs _), fun ds ρ Q h σ F G H as vs ok r C k => ?_⟩
  match ds, h, r with
  | x :: ds, h, .cons (v := v) (vs := vs) r1 rr =>
    refine ⟨v, vs, rfl, dg (.d x) ρ _ h σ F G H as v ok r1 _ fun ρ1 σ1 G1 H1 as1 q1 ok1 n1 w1 => ?_⟩
    exact dgs ds ρ1 Q q1 σ1 F G1 H1 as1 vs ok1 (rr.mono n1.g) _ fun ρ2 σ2 G2 H2 as2 q2 ok2 n2 w2 => k ρ2 σ2 G2 H2 as2 q2 ok2 (n1.trans n2) (w1.trans w2)
def wgTup (n : Nat) (wr : WGs) : WG := fun dv ρ Q => match dv with
  | .d (.tuple ds) => ds.length = n ∧ wr ds ρ Q
  | _ => False
theorem pdg_tup {k n : Nat} {wr : WGs} {js : List Nat} (h : PDGs T es wr js) (hn : ∀ env, (assignEach es env).length = n := by intro _; rfl) (hst : ∀ env, (assignEach es env).findIdx? (·.1) = none := by intro _; rfl) : PDG T (.Tuple es k pos) (wgTup n wr) js := by
  obtain ⟨gs, hgs, dgs⟩ := h
  refine ⟨gTup T.K n gs, fun X gd => by rw [← gd.K]; exact pg_tup gd.calm (hgs X gd) (hn _) (hst _), fun dv ρ Q h σ F G H as v ok r C kk => ?_⟩
  match dv, h, r with
  | .d (.tuple ds), ⟨hl, h⟩, r =>
    obtain ⟨a, xs, rfl, hs, rr⟩ := repT r
    exact ⟨a, xs, rfl, same_sqT ok.mem.gh hs, by rw [rr.length]; exact hl, dgs ds ρ Q h σ F G H as xs ok rr C kk⟩
/-- unpacking a list: of data, or one's own whose items are data -/
def wgLst (n : Nat) (wr : WGs) : WG := fun dv ρ Q => match dv with
  | .d (.list ds) => ds.length = n ∧ wr ds ρ Q
  | .o k => match obK ρ k with
    | .lst xs => match allD xs with
      | some ds => ds.length = n ∧ wr ds ρ Q
      | none => False
    | _ => False
  | _ => False
theorem pdg_lst {k n : Nat} {wr : WGs} {js : List Nat} (h : PDGs T es wr js) (hn : ∀ env, (assignEach es env).length = n := by intro _; rfl) (hst : ∀ env, (assignEach es env).findIdx? (·.1) = none := by intro _; rfl) : PDG T (.Tuple es k pos) (wgLst n wr) js := by
  obtain ⟨gs, hgs, dgs⟩ := h
  refine ⟨gLst T.K n gs, fun X gd => by rw [← gd.K]; exact pg_lst gd.calm (hgs X gd) (hn _) (hst _), fun dv ρ Q h σ F G H as v ok r C kk => ?_⟩
  match dv, h, r with
  | .d (.list ds), ⟨hl, h⟩, r =>
    obtain ⟨a, xs, rfl, hs, rr⟩ := repL r
    exact ⟨a, xs, rfl, ok.mem.gh.seq hs, by rw [rr.length]; exact hl, dgs ds ρ Q h σ F G H as xs ok rr C kk⟩
  | .o n, h, r =>
    unfold wgLst at h
    cases e : obK ρ n with
    | lst xs =>
      simp only [e] at h
      cases e2 : allD xs with
      | none =>
        simp only [e2] at h
      | some ds =>
        simp only [e2] at h
        obtain ⟨a, rfl, _, _, vs, hv, rr⟩ := repO ok r e (by intro z; cases z)
        have e3 := allD_eq e2
        subst e3
        exact ⟨a, vs, rfl, SqL.of hv, by rw [rr.to.length]; exact h.1, dgs ds ρ Q h.2 σ F G H as vs ok rr.to C kk⟩
    | dk _ => simp only [e] at h
    | dt _ => simp only [e] at h
    | gone => simp only [e] at h
def wAsg (wa : WE) (wg : WG) : WS := fun E ρ => wa ρ (fun dv ρ1 => wg dv ρ1 E.nx) E.xr
theorem pds_set {x : Str} {pos' : Pos} (i : Nat) (ha : PD T a wa) (hN : T.N[i]? = some x := by rfl) (hx : Sto T x := by first | exact Or.inl rfl | exact Or.inr ⟨rfl, rfl⟩) (hs : ∀ env, swapsWith a (some (.Name x pos')) pos.line env = pure false := by intro _; rfl) :
    PDS T (.Assign [.Name x pos'] a pos) (wAsg wa (wgName i)) := by
  obtain ⟨t, ht, d⟩ := ha
  refine ⟨fun W => tAsg (t W) (gName i), fun W X g tk => ps_set (by rw [g.N]; exact g.nd) (by rw [g.N]; exact hN) (hx.loc g).1 (ht W X g tk) (hs _) (hx.loc g).2, fun ρ E h W σ F G H as ok acc D l => ?_⟩
  exact d _ _ _ h W σ F G H as ok (acc.at σ) _ fun dv ρ' v G' H' as' q o n r => l.nx _ _ G' H' as' q (o.set i r) n
theorem pds_asg {tg : Expr} {wg : WG} {js : List Nat} (ha : PD T a wa) (hg : PDG T tg wg js) (hs : ∀ env, swapsWithSole [tg] a pos.line env = pure false := by intro _; rfl) (hw : ∀ env, swappedStores [tg] a env = pure none := by intro _; rfl)
    (h1 : ∀ env, (assignEach [tg] env).map (·.2) = [assign tg env] := by intro _; rfl) : PDS T (.Assign [tg] a pos) (wAsg wa wg) := by
  obtain ⟨t, ht, d⟩ := ha
  obtain ⟨g, hg, dg⟩ := hg
  refine ⟨fun W => tAsg (t W) g, fun W X gd tk => ps_asg (ht W X gd tk) (hg X gd) (hs _) (hw _) (h1 _), fun ρ E h W σ F G H as ok acc D l => ?_⟩
  refine d _ _ _ h W σ F G H as ok (acc.at σ) _ fun dv ρ' v G' H' as' q o n r => ?_
  exact dg dv ρ' _ q σ F G' H' as' v o r _ fun ρ2 σ2 G2 H2 as2 q2 o2 n2 _ => l.nx ρ2 σ2 G2 H2 as2 q2 o2 (n.trans n2)
/-- a, b = e, e' : both written, no tuple is made -/
def wPar (i j : Nat) (w : WA) : WS := fun E ρ => w ρ (fun xs ρ1 => match xs with
  | [x, y] => E.nx ⟨(ρ1.sl.set i (some x)).set j (some y), ρ1.ob⟩
  | _ => False) E.xr
theorem pds_par {x y : Str} {px py pt : Pos} {kt k2 : Nat} {pt2 : Pos} (i j : Nat) (ha : PDA T [a, b] w) (hi : T.N[i]? = some x := by rfl) (hj : T.N[j]? = some y := by rfl) (hij : i ≠ j := by decide) (hx : T.sc.names.lookup x = some .local := by rfl) (hy : T.sc.names.lookup y = some .local := by rfl)
    (hw : ∀ env : Env, env.scope = T.sc → swappedStores [.Tuple [.Name x px, .Name y py] kt pt] (.Tuple [a, b] k2 pt2) env = pure (some [x, y])) (hs : ∀ env, swapsWithSole [.Tuple [.Name x px, .Name y py] kt pt] (.Tuple [a, b] k2 pt2) pos.line env = pure false := by intro _; rfl) :
    PDS T (.Assign [.Tuple [.Name x px, .Name y py] kt pt] (.Tuple [a, b] k2 pt2) pos) (wPar i j w) := by
  obtain ⟨t, ht, d⟩ := ha
  refine ⟨fun W => tPar i j (t W), fun W X g tk => ps_par g.calm (by rw [g.N]; exact g.nd) (by rw [g.N]; exact hi) (by rw [g.N]; exact hj) hij (by rw [g.sc]; exact hx) (by rw [g.sc]; exact hy) (ht W X g tk) (hw _ g.sc) (hs _), fun ρ E h W σ F G H as ok acc D l => ?_⟩
  refine d _ _ _ h W σ F G H as ok (acc.at σ) _ fun dvs ρ' vs G' H' as' q o n r => ?_
  match dvs, q, r with
  | [x, y], q, .cons (v := v) r1 (.cons (v := u) r2 .nil) => exact ⟨v, u, rfl, l.nx _ _ G' H' as' q ((o.set i r1).set j r2) n⟩
end
end DL
end

section
set_option Elab.async false
set_option linter.all false
set_option maxRecDepth 100000
set_option maxHeartbeats 1000000
set_option autoImplicit false
namespace DL
open PySem PySem.Spec PyProof.Rows L2

/-! ### what is walked -/
structure ItOk (K : PySem.W.Frag) (G : Hp) (J : It) (xs : List PyData) : Prop where
  go : ∀ (i : Nat) (H : Hp), i < xs.length → Same G H → J.go i H
  stop : ∀ H : Hp, Same G H → J.stop xs.length H
  yld : ∀ (i : Nat) (d : PyData), xs[i]? = some d → ∀ (F G' H : Hp) (as : List Addr) (ob : List OB), Same G G' → Mem K F G' H as ob → ∀ (x : V) (H' : Hp), J.yld i H x H' → ∃ G'' : Hp, Mem K F G'' H' as ob ∧ Same G' G'' ∧ Rep K G'' x d
abbrev WI := S → (List PyData → S → Prop) → QX → Prop
def DI (K : PySem.W.Frag) (t : WX → TI) (ρ : S) (Q : List PyData → S → Prop) (X : QX) : Prop :=
  ∀ (W : WX) (σ : St) (F G H : Hp) (as : List Addr), Ok K ρ σ F G H as → AccE K F G as σ W X → ∀ R : It → Hp → Prop,
    (∀ (xs : List PyData) (ρ' : S) (G' H' : Hp) (as' : List Addr) (J : It), Q xs ρ' → Ok K ρ' σ F G' H' as' → Nxt G as G' as' → ItOk K G' J xs → R J H') → t W σ H R
def PDI (T : Sta) (tg e : Expr) (w : WI) : Prop := ∃ t : WX → TI, (∀ W X, Good T X → Takes X W → PI X tg e (t W)) ∧ ∀ ρ Q X, w ρ Q X → DI T.K t ρ Q X
section
variable {K : PySem.W.Frag} {G : Hp} {a b : Addr} {xs ys : List V} {ds es : List PyData}
theorem same_inj {vs ws : List V} (h : vs = ws) : vs = ws := h
theorem it_list (h : SqL K G a xs) (r : Reps K G xs ds) : ItOk K G (Itl K a) ds := by
  refine ⟨fun i H hi e => ?_, fun H e => ⟨xs, e.seq h, by rw [r.length]; exact Nat.le_refl _⟩, fun i d hd F G' H as ob e m x H' y => ?_⟩
  · have hx : i < xs.length := by rw [r.length]; exact hi
    exact ⟨xs, xs[i], e.seq h, by simp [hx]⟩
  · obtain ⟨rfl, y⟩ := y
    obtain ⟨u, e1, r1⟩ := r.get hd
    have := y xs (m.gh.seq (e.seq h))
    rw [e1] at this
    cases this
    exact ⟨G', m, Same.refl _, r1.mono e⟩
theorem it_tup (h : SqT K G a xs) (r : Reps K G xs ds) : ItOk K G (Itt K a) ds := by
  refine ⟨fun i H hi e => ?_, fun H e => ⟨xs, same_sqT e h, by rw [r.length]; exact Nat.le_refl _⟩, fun i d hd F G' H as ob e m x H' y => ?_⟩
  · have hx : i < xs.length := by rw [r.length]; exact hi
    exact ⟨xs, xs[i], same_sqT e h, by simp [hx]⟩
  · obtain ⟨rfl, y⟩ := y
    obtain ⟨u, e1, r1⟩ := r.get hd
    have := y xs (same_sqT m.gh (same_sqT e h))
    rw [e1] at this
    cases this
    exact ⟨G', m, Same.refl _, r1.mono e⟩
/-- lo, lo + 1, .., n of them -/
def rng (lo : Int) (n : Nat) : List PyData := (List.range n).map fun i => .int (lo + (i : Nat))
theorem rng_len (lo : Int) (n : Nat) : (rng lo n).length = n := by simp [rng]
theorem rng_get {lo : Int} {n i : Nat} {d : PyData} (h : (rng lo n)[i]? = some d) : i < n ∧ d = .int (lo + (i : Nat)) := by
  unfold rng at h
  rw [List.getElem?_map] at h
  by_cases hi : i < n
  · rw [List.getElem?_range hi] at h
    cases h
    exact ⟨hi, rfl⟩
  · rw [List.getElem?_eq_none (by rw [List.length_range]; omega)] at h
    cases h
theorem it_rng (lo : Int) (n : Nat) : ItOk K G (Itr lo n) (rng lo n) := by
  refine ⟨fun i H hi e => by rw [rng_len] at hi; exact hi, fun H e => by rw [rng_len]; exact Nat.le_refl _, fun i d hd F G' H as ob e m x H' y => ?_⟩
  obtain ⟨rfl, rfl⟩ := y
  obtain ⟨_, rfl⟩ := rng_get hd
  exact ⟨G', m, Same.refl _, .int _⟩
/-- pairs -/
def zipP : List PyData → List PyData → List PyData := List.zipWith fun x y => .tuple [x, y]
theorem new_pair {F G H : Hp} {as : List Addr} {ob : List OB} {T : Addr} {x y : V} {d e : PyData} (m : Mem K F G H as ob) (hT : H T = none) (r1 : Rep K G x d) (r2 : Rep K G y e) :
    ∃ G'' : Hp, Mem K F G'' (upd H T (.tup [x, y])) as ob ∧ Same G G'' ∧ Rep K G'' (.ref T) (.tuple [d, e]) := by
  have s := same_new (o := .tup [x, y]) (m.fresh hT).1
  exact ⟨_, m.new hT, s, .tup upd_same (.cons (r1.mono s) (.cons (r2.mono s) .nil))⟩
theorem zip_get : ∀ {xs ys : List PyData} {i : Nat} {d : PyData}, (zipP xs ys)[i]? = some d → ∃ x y, xs[i]? = some x ∧ ys[i]? = some y ∧ d = .tuple [x, y]
  | [], _, i, d, h => by simp [zipP] at h
  | _ :: _, [], i, d, h => by simp [zipP] at h
  | x :: _, y :: _, 0, d, h => by
    simp [zipP] at h
    exact ⟨x, y, rfl, rfl, h.symm⟩
  | x :: xs, y :: ys, i + 1, d, h => by
    obtain ⟨u, v, h1, h2, h3⟩ := zip_get (xs := xs) (ys := ys) (i := i) (d := d) (by simpa [zipP] using h)
    exact ⟨u, v, by simpa using h1, by simpa using h2, h3⟩
theorem zip_len {xs ys : List PyData} : (zipP xs ys).length = min xs.length ys.length := by simp [zipP]
theorem it_zipT (h1 : SqT K G a xs) (r1 : Reps K G xs ds) (h2 : SqT K G b ys) (r2 : Reps K G ys es) : ItOk K G (RZ.ItzT K a b) (zipP ds es) := by
  refine ⟨fun i H hi e => ?_, fun H e => ?_, fun i d hd F G' H as ob e m x H' y => ?_⟩
  · rw [zip_len] at hi
    have hx : i < xs.length := by rw [r1.length]; omega
    have hy : i < ys.length := by rw [r2.length]; omega
    exact ⟨xs, ys, xs[i], ys[i], same_sqT e h1, same_sqT e h2, by simp [hx], by simp [hy]⟩
  · refine ⟨xs, ys, same_sqT e h1, same_sqT e h2, ?_⟩
    rw [zip_len, r1.length, r2.length]
    omega
  · obtain ⟨T, x1, x2, rfl, nT, rfl, f1, f2⟩ := y
    obtain ⟨u1, u2, e1, e2, rfl⟩ := zip_get hd
    obtain ⟨v1, q1, z1⟩ := r1.get e1
    obtain ⟨v2, q2, z2⟩ := r2.get e2
    have p1 := f1 xs (same_sqT m.gh (same_sqT e h1))
    have p2 := f2 ys (same_sqT m.gh (same_sqT e h2))
    rw [q1] at p1
    rw [q2] at p2
    cases p1
    cases p2
    exact new_pair m nT (z1.mono e) (z2.mono e)
theorem it_zipL (h1 : SqL K G a xs) (r1 : Reps K G xs ds) (h2 : SqL K G b ys) (r2 : Reps K G ys es) : ItOk K G (Itz K a b) (zipP ds es) := by
  refine ⟨fun i H hi e => ?_, fun H e => ?_, fun i d hd F G' H as ob e m x H' y => ?_⟩
  · rw [zip_len] at hi
    have hx : i < xs.length := by rw [r1.length]; omega
    have hy : i < ys.length := by rw [r2.length]; omega
    exact ⟨xs, ys, xs[i], ys[i], e.seq h1, e.seq h2, by simp [hx], by simp [hy]⟩
  · refine ⟨xs, ys, e.seq h1, e.seq h2, ?_⟩
    rw [zip_len, r1.length, r2.length]
    omega
  · obtain ⟨T, x1, x2, rfl, nT, rfl, f1, f2⟩ := y
    obtain ⟨u1, u2, e1, e2, rfl⟩ := zip_get hd
    obtain ⟨v1, q1, z1⟩ := r1.get e1
    obtain ⟨v2, q2, z2⟩ := r2.get e2
    have p1 := f1 xs (m.gh.seq (e.seq h1))
    have p2 := f2 ys (m.gh.seq (e.seq h2))
    rw [q1] at p1
    rw [q2] at p2
    cases p1
    cases p2
    exact new_pair m nT (z1.mono e) (z2.mono e)
theorem it_enumL (h : SqL K G a xs) (r : Reps K G xs ds) : ItOk K G (Ite K a) (zipP (rng 0 ds.length) ds) := by
  have hl : (zipP (rng 0 ds.length) ds).length = ds.length := by rw [zip_len, rng_len]; omega
  refine ⟨fun i H hi e => ?_, fun H e => ?_, fun i d hd F G' H as ob e m x H' y => ?_⟩
  · rw [hl] at hi
    have hx : i < xs.length := by rw [r.length]; exact hi
    exact ⟨xs, xs[i], e.seq h, by simp [hx]⟩
  · rw [hl]
    exact ⟨xs, e.seq h, by rw [r.length]; exact Nat.le_refl _⟩
  · obtain ⟨T, x1, rfl, nT, rfl, f1⟩ := y
    obtain ⟨u1, u2, e1, e2, rfl⟩ := zip_get hd
    obtain ⟨_, rfl⟩ := rng_get e1
    obtain ⟨v2, q2, z2⟩ := r.get e2
    have p2 := f1 xs (m.gh.seq (e.seq h))
    rw [q2] at p2
    cases p2
    rw [Int.zero_add]
    exact new_pair m nT (.int _) (z2.mono e)
end
section
variable {T : Sta} {pos p : Pos} {a b c e tg : Expr} {es : List Expr} {wa wb wc we : WE} {w : WA} {wt wu : WT} {st : Stmt} {rest : List Stmt} {w1 w2 w3 : WS} {K : PySem.W.Frag}
/-- over data: a tuple, a list -/
def wiT (wa : WE) : WI := fun ρ Q X => wa ρ (fun x ρ1 => match x with
  | .d (.tuple ds) => Q ds ρ1
  | _ => False) X
def wiL (wa : WE) : WI := fun ρ Q X => wa ρ (fun x ρ1 => match x with
  | .d (.list ds) => Q ds ρ1
  | _ => False) X
theorem pdi_tup (ha : PD T a wa) : PDI T tg a (wiT wa) := by
  obtain ⟨t, ht, d⟩ := ha
  refine ⟨fun W => iTup T.K (t W), fun W X g tk => by rw [← g.K]; exact pi_tup (ht W X g tk), fun ρ Q X h W σ F G H as ok acc R k => ?_⟩
  refine d _ _ _ h W σ F G H as ok acc _ fun x ρ1 v G1 H1 as1 h1 ok1 n1 r1 => ?_
  match x, h1, r1 with
  | .d (.tuple ds), h1, r1 =>
    obtain ⟨a, xs, rfl, hs, r⟩ := repT r1
    exact ⟨a, rfl, ⟨xs, same_sqT ok1.mem.gh hs⟩, k ds ρ1 G1 H1 as1 _ h1 ok1 n1 (it_tup hs r)⟩
theorem pdi_list (ha : PD T a wa) : PDI T tg a (wiL wa) := by
  obtain ⟨t, ht, d⟩ := ha
  refine ⟨fun W => iList T.K (t W), fun W X g tk => by rw [← g.K]; exact pi_list (ht W X g tk), fun ρ Q X h W σ F G H as ok acc R k => ?_⟩
  refine d _ _ _ h W σ F G H as ok acc _ fun x ρ1 v G1 H1 as1 h1 ok1 n1 r1 => ?_
  match x, h1, r1 with
  | .d (.list ds), h1, r1 =>
    obtain ⟨a, xs, rfl, hs, r⟩ := repL r1
    exact ⟨a, rfl, ⟨xs, ok1.mem.gh.seq hs⟩, k ds ρ1 G1 H1 as1 _ h1 ok1 n1 (it_list hs r)⟩
def RgB (i : Int) : Prop := -(2 ^ 62) ≤ i ∧ i < 2 ^ 62
def wiR1 (w : WA) : WI := fun ρ Q X => w ρ (fun xs ρ1 => match xs with
  | [.d (.int j)] => RgB j ∧ Q (rng 0 j.toNat) ρ1
  | _ => False) X
def wiR2 (w : WA) : WI := fun ρ Q X => w ρ (fun xs ρ1 => match xs with
  | [.d (.int i), .d (.int j)] => RgB i ∧ RgB j ∧ Q (rng i (j - i).toNat) ρ1
  | _ => False) X
theorem pdi_range1 (ha : PDA T [a] w) (hg : T.sc.names.lookup ("range" : Str) = some .globalImplicit) (hm : T.mg "range" = none) (hs : ∀ env, starEach [a] env = [(false, eval a env)] := by intro _; rfl) : PDI T tg (.Call (.Name "range" p) [a] [] pos) (wiR1 w) := by
  obtain ⟨t, ht, d⟩ := ha
  refine ⟨fun W => iRng1 (t W), fun W X g tk => pi_range1 (by show X.env.scope.names.lookup _ = _; rw [g.sc]; exact hg) (by rw [g.mg]; exact hm) (ht W X g tk) (hs _), fun ρ Q X h W σ F G H as ok acc R k => ?_⟩
  refine d _ _ _ h W σ F G H as ok acc _ fun x ρ1 v G1 H1 as1 h1 ok1 n1 r1 => ?_
  match x, h1, r1 with
  | [.d (.int j)], ⟨hj, h1⟩, .cons (v := v) q .nil =>
    have := repI q
    subst this
    exact ⟨j, rfl, hj.1, hj.2, k _ ρ1 G1 H1 as1 _ h1 ok1 n1 (it_rng 0 _)⟩
theorem pdi_range2 (ha : PDA T [a, b] w) (hg : T.sc.names.lookup ("range" : Str) = some .globalImplicit) (hm : T.mg "range" = none) (hs : ∀ env, starEach [a, b] env = [(false, eval a env), (false, eval b env)] := by intro _; rfl) (hs2 : ∀ env, starEach [b] env = [(false, eval b env)] := by intro _; rfl) :
    PDI T tg (.Call (.Name "range" p) [a, b] [] pos) (wiR2 w) := by
  obtain ⟨t, ht, d⟩ := ha
  refine ⟨fun W => iRng2 (t W), fun W X g tk => pi_range2 (by show X.env.scope.names.lookup _ = _; rw [g.sc]; exact hg) (by rw [g.mg]; exact hm) (ht W X g tk) (hs _) (hs2 _), fun ρ Q X h W σ F G H as ok acc R k => ?_⟩
  refine d _ _ _ h W σ F G H as ok acc _ fun x ρ1 v G1 H1 as1 h1 ok1 n1 r1 => ?_
  match x, h1, r1 with
  | [.d (.int i), .d (.int j)], ⟨hi, hj, h1⟩, .cons (v := v) q (.cons (v := u) q2 .nil) =>
    have := repI q
    subst this
    have := repI q2
    subst this
    exact ⟨i, j, rfl, ⟨hi.1, hi.2, hj.1, hj.2⟩, k _ ρ1 G1 H1 as1 _ h1 ok1 n1 (it_rng i _)⟩
def wiZip (w : WA) : WI := fun ρ Q X => w ρ (fun xs ρ1 => match xs with
  | [.d (.tuple ds), .d (.tuple es)] => Q (zipP ds es) ρ1
  | [.d (.list ds), .d (.list es)] => Q (zipP ds es) ρ1
  | _ => False) X
theorem pdi_zip {elts : List Expr} {kk : Nat} {tpos : Pos} (ha : PDA T [a, b] w) (hg : T.sc.names.lookup ("zip" : Str) = some .globalImplicit) (hm : T.mg "zip" = none)
    (hs : ∀ env, starEach [a, b] env = (false, eval a env) :: starEach [b] env := by intro _; rfl) (hpl : ∀ env, (backTo pos (starEach [b] env)).any (·.1) = false := by intro _; rfl) : PDI T (.Tuple elts kk tpos) (.Call (.Name "zip" p) [a, b] [] pos) (wiZip w) := by
  obtain ⟨t, ht, d⟩ := ha
  refine ⟨fun W => RZ.iZipA T.K (t W), fun W X g tk => by rw [← g.K]; exact RZ.pi_zipA (by show X.env.scope.names.lookup _ = _; rw [g.sc]; exact hg) (by rw [g.mg]; exact hm) (ht W X g tk) (hs _) (hpl _), fun ρ Q X h W σ F G H as ok acc R k => ?_⟩
  refine d _ _ _ h W σ F G H as ok acc _ fun x ρ1 v G1 H1 as1 h1 ok1 n1 r1 => ?_
  match x, h1, r1 with
  | [.d (.tuple ds), .d (.tuple es)], h1, .cons (v := v) q (.cons (v := u) q2 .nil) =>
    obtain ⟨a, xs, rfl, hs, r⟩ := repT q
    obtain ⟨b, ys, rfl, hs2, r2⟩ := repT q2
    exact ⟨a, b, xs, ys, rfl, .inr ⟨same_sqT ok1.mem.gh hs, same_sqT ok1.mem.gh hs2, k _ ρ1 G1 H1 as1 _ h1 ok1 n1 (it_zipT hs r hs2 r2)⟩⟩
  | [.d (.list ds), .d (.list es)], h1, .cons (v := v) q (.cons (v := u) q2 .nil) =>
    obtain ⟨a, xs, rfl, hs, r⟩ := repL q
    obtain ⟨b, ys, rfl, hs2, r2⟩ := repL q2
    exact ⟨a, b, xs, ys, rfl, .inl ⟨ok1.mem.gh.seq hs, ok1.mem.gh.seq hs2, k _ ρ1 G1 H1 as1 _ h1 ok1 n1 (it_zipL hs r hs2 r2)⟩⟩
/-! ### for -/
def wFor (wi : WI) (wg : WG) (wb : WS) : WS := fun E ρ => wi ρ (fun xs ρ1 => ∃ I : Nat → S → Prop, I 0 ρ1 ∧
  (∀ (i : Nat) (x : PyData) (ρ' : S), xs[i]? = some x → I i ρ' → wg (.d x) ρ' fun ρ2 => wb { E with nx := I (i + 1), ct := I (i + 1), bk := E.nx } ρ2) ∧ (∀ ρ' : S, I xs.length ρ' → E.nx ρ')) E.xr
theorem pds_for {iter : Expr} {body : List Stmt} {wi : WI} {wg : WG} {js : List Nat} {wb : WS} (hi : PDI T tg iter wi) (hg : PDG T tg wg js) (hb : PDSs T body wb)
    (hs : ∀ env x, foldedSetIterable iter env x = pure x := by intro _ _; rfl) : PDS T (.For tg iter body [] pos) (wFor wi wg wb) := by
  obtain ⟨ti, hti, di⟩ := hi
  obtain ⟨g, hg, dg⟩ := hg
  obtain ⟨tb, htb, db⟩ := hb
  refine ⟨fun W => tFor (ti W) g (tb W), fun W X gd tk => ps_for gd.po gd.calm (hti W X gd tk) (hg X gd) (htb W X gd tk) (hs _), fun ρ E h W σ F G H as ok acc D l => ?_⟩
  refine di _ _ _ h W σ F G H as ok (acc.at σ) _ fun xs ρ1 G1 H1 as1 J h1 ok1 n1 it => ?_
  obtain ⟨I, h0, hst, hd⟩ := h1
  refine ⟨fun i m σ H => m = xs.length - i ∧ i ≤ xs.length ∧ ∃ ρ' G' as', I i ρ' ∧ Ok T.K ρ' σ F G' H as' ∧ Nxt G1 as1 G' as', ⟨xs.length, by simp, Nat.zero_le _, ρ1, G1, as1, h0, ok1, Nxt.refl _ _⟩, ?_⟩
  rintro i m σ2 H2 ⟨rfl, hi, ρ2, G2, as2, hI, ok2, n2⟩
  by_cases hlt : i < xs.length
  · refine .inr ⟨it.go i H2 hlt (n2.g.trans ok2.mem.gh), fun σ' H' => xs.length - (i + 1) = xs.length - (i + 1) ∧ i + 1 ≤ xs.length ∧ ∃ ρ' G' as', I (i + 1) ρ' ∧ Ok T.K ρ' σ' F G' H' as' ∧ Nxt G1 as1 G' as', fun σ' H' hN => ⟨xs.length - (i + 1), by omega, hN⟩, fun x H' y => ?_⟩
    have hx : xs[i]? = some xs[i] := by simp [hlt]
    obtain ⟨G3, m3, s3, r3⟩ := it.yld i _ hx F G2 H2 as2 ρ2.ob n2.g ok2.mem x H' y
    have ok3 : Ok T.K ρ2 σ2 F G3 H' as2 := ⟨m3, ok2.sll, fun j dv e => by
      obtain ⟨u, e1, r⟩ := ok2.sl j dv e
      exact ⟨u, e1, r.mono ⟨s3, [], (List.append_nil _).symm⟩⟩⟩
    have n3 : Nxt G as G3 as2 := (n1.trans n2).trans ⟨s3, [], (List.append_nil _).symm⟩
    refine dg (.d xs[i]) ρ2 _ (hst i _ ρ2 hx hI) σ2 F G3 H' as2 x ok3 r3 _ fun ρ4 σ4 G4 H4 as4 q4 ok4 n4 _ => ?_
    refine db _ _ q4 W σ4 F G4 H4 as4 ok4 (acc.next (n3.trans n4)) _ ⟨?_, ?_, ?_, ?_⟩
    · exact fun ρ' σ' G' H' as' q o n => ⟨rfl, hlt, ρ', G', as', q, o, ((n2.trans ⟨s3, [], (List.append_nil _).symm⟩).trans n4).trans n⟩
    · exact fun dv ρ' σ' v G' H' as' q o n r => l.rt dv ρ' σ' v G' H' as' q o ((n3.trans n4).trans n) r
    · exact fun ρ' σ' G' H' as' q o n => l.nx ρ' σ' G' H' as' q o ((n3.trans n4).trans n)
    · exact fun ρ' σ' G' H' as' q o n => ⟨rfl, hlt, ρ', G', as', q, o, ((n2.trans ⟨s3, [], (List.append_nil _).symm⟩).trans n4).trans n⟩
  · have e : i = xs.length := by omega
    subst e
    exact .inl ⟨it.stop H2 (n2.g.trans ok2.mem.gh), l.nx ρ2 σ2 G2 H2 as2 (hd ρ2 hI) ok2 (n1.trans n2)⟩
end
end DL
end

section
set_option Elab.async false
set_option linter.all false
set_option maxRecDepth 100000
set_option maxHeartbeats 1000000
set_option autoImplicit false
namespace DL
open PySem PySem.Spec PyProof.Rows L2

def wipeS (sl : List (Option DV)) : List Nat → List (Option DV)
  | [] => sl
  | v :: vs => (wipeS sl vs).set v none
section
variable {K : PySem.W.Frag} {F G H : Hp} {as : List Addr} {ρ : S} {σ : St} {ob : List OB}
theorem Ok.setN (ok : Ok K ρ σ F G H as) (i : Nat) : Ok K ⟨ρ.sl.set i none, ρ.ob⟩ (σ.set i none) F G H as := by
  refine ⟨ok.mem, by rw [List.length_set, List.length_set]; exact ok.sll, fun j dx e => ?_⟩
  have e : (ρ.sl.set i none)[j]? = some (some dx) := e
  by_cases h : i = j
  · subst h
    have hl : i < ρ.sl.length := by
      have := (List.getElem?_eq_some_iff.mp e).1
      rwa [List.length_set] at this
    rw [List.getElem?_set_self hl] at e
    cases e
  · rw [List.getElem?_set_ne h] at e
    obtain ⟨u, e1, r1⟩ := ok.sl j dx e
    exact ⟨u, by rw [List.getElem?_set_ne h]; exact e1, r1⟩
theorem Ok.wipe (ok : Ok K ρ σ F G H as) : ∀ vs : List Nat, Ok K ⟨wipeS ρ.sl vs, ρ.ob⟩ (L2.wipe σ vs) F G H as
  | [] => ok
  | v :: vs => (Ok.wipe ok vs).setN v
theorem Ok.to {G' H' : Hp} {as' : List Addr} (ok : Ok K ρ σ F G H as) (m : Mem K F G' H' as' ob) (n : Nxt G as G' as') : Ok K ⟨ρ.sl, ob⟩ σ F G' H' as' :=
  ⟨m, ok.sll, fun j dx e => by
    obtain ⟨u, e1, r1⟩ := ok.sl j dx e
    exact ⟨u, e1, r1.mono n⟩⟩
/-- one's own objects from n on are forgotten -/
theorem Mem.trim (m : Mem K F G H as ob) (n : Nat) (hb : (ob.take n).all (belB n) = true) : Mem K F G H (as.take n) (ob.take n) := by
  have lt : ∀ {k : Nat} {a : Addr}, (as.take n)[k]? = some a → k < n := fun {k a} e => by
    have := (List.getElem?_eq_some_iff.mp e).1
    rw [List.length_take] at this
    omega
  refine ⟨m.gh, m.fh, m.gf, m.nd.sublist (List.take_sublist _ _), by rw [List.length_take, List.length_take, m.len], fun a ha => m.al a (List.mem_of_mem_take ha), fun a ha => m.ofr a (List.mem_of_mem_take ha), fun k a x e1 e2 e3 => ?_, fun k a x e1 e2 => ?_⟩
  · have hk := lt e1
    rw [take_get hk] at e1 e2
    exact m.own k a x e1 e2 e3
  · have hk := lt e1
    have hx : belB n x = true := List.all_eq_true.mp hb x (List.mem_of_getElem? e2)
    rw [take_get hk] at e1 e2
    exact (m.at_ k a x e1 e2).cut (fun j hj => take_get hj) hx
end
def blkT (T : Sta) (scope : Scope) : Sta := { T with sc := relS scope T.sc, top := false }
theorem Good.blk {T : Sta} {X : Cx} (g : Good T X) (s : Shared) (H : Hp) (scope : Scope) (cl : List (Str × Addr)) (C : Addr) (fp : List Addr) : Good (blkT T scope) (X.blk s H scope (compEnvC scope cl C X.env) fp) :=
  ⟨g.P, g.w, g.K, g.mg, g.base, g.N, by rw [show (X.blk s H scope (compEnvC scope cl C X.env) fp).env.scope = relS scope X.env.scope from rfl, g.sc] <;> rfl, g.calm, g.room, g.nd, (fun h => nomatch h), PassesOwn.never, g.gds⟩
def W0 : WX := fun _ _ _ _ => False
def X0 : QX := fun _ _ => False
theorem acc0 {K : PySem.W.Frag} {F G : Hp} {as : List Addr} {σ : St} : AccE K F G as σ W0 X0 := fun _ _ _ _ _ _ h => h.elim

/-- a clause's tests -/
def PDTs (T : Sta) (es : List Expr) (w : WT) : Prop := ∃ t : TT, (∀ X, Good T X → Takes X W0 → PTs X es t) ∧ ∀ ρ Q, w ρ Q X0 → DT T.K (fun _ => t) ρ Q X0
def wYes : WT := fun ρ Q _ => Q true ρ
section
variable {T : Sta} {pos p : Pos} {a b c e tg elt iter : Expr} {es ifs : List Expr} {wa wb wc we : WE} {w : WA} {wt wu : WT} {K : PySem.W.Frag}
theorem pdts_nil : PDTs T [] wYes := ⟨tYes, fun _ _ _ => pts_nil, fun ρ Q h W σ F G H as ok acc C k => k true ρ G H as h ok (Nxt.refl _ _)⟩
theorem pdts_one (h : PDT T c wt) : PDTs T [c] wt := by
  obtain ⟨t, ht, d⟩ := h
  exact ⟨t W0, fun X g tk => pts_one (ht W0 X g tk), fun ρ Q h W σ F G H as ok acc C k => d ρ Q X0 h W0 σ F G H as ok acc0 C k⟩

/-! ### list comprehensions -/
def wLc (wi : WI) (wg : WG) (wt : WT) (we : WE) (vs : List Nat) : WE := fun ρ Q X => wi ρ (fun xs ρ1 => ∃ I : Nat → List OB → List PyData → Prop, I 0 ρ1.ob [] ∧
  (∀ (i : Nat) (x : PyData) (ob : List OB) (acc : List PyData), xs[i]? = some x → I i ob acc → ob.length = ρ1.ob.length → wg (.d x) ⟨wipeS ρ1.sl vs, ob ++ [.lst (acc.map .d)]⟩ fun ρ2 => wt ρ2 (fun b ρ3 => match b with
    | true => we ρ3 (fun y ρ4 => acc.length < sizeLine ∧ ∃ (dy : PyData) (ob' ex : List OB), y = .d dy ∧ ρ4.ob = ob' ++ .lst (acc.map .d) :: ex ∧ ob'.length = ρ1.ob.length ∧ (ex = [] ∨ ob'.all (belB (ob'.length + 1)) = true) ∧ I (i + 1) ob' (acc ++ [dy])) X0
    | false => ∃ (ob' : List OB), ρ3.ob = ob' ++ [.lst (acc.map .d)] ∧ ob'.length = ρ1.ob.length ∧ I (i + 1) ob' acc) X0) ∧
  (∀ (ob : List OB) (acc : List PyData), I xs.length ob acc → ob.length = ρ1.ob.length → Q (.o ob.length) ⟨ρ1.sl, ob ++ [.lst (acc.map .d)]⟩)) X
theorem get_mid {α : Type} (l : List α) (x : α) (r : List α) : (l ++ x :: r)[l.length]? = some x := by simp
theorem bel_data (n : Nat) (l : List PyData) : belB n (.lst (l.map .d)) = true := by
  show (l.map DV.d).all (belV n) = true
  rw [List.all_map]
  exact List.all_eq_true.mpr fun _ _ => rfl
theorem de_lc {ti : WX → TI} {wi : WI} {g : TG} {wg : WG} {js vs : List Nat} {tt : TT} {te : TE} (di : ∀ ρ Q X, wi ρ Q X → DI K ti ρ Q X) (dg : DG K g wg js) (dt : ∀ ρ Q, wt ρ Q X0 → DT K (fun _ => tt) ρ Q X0)
    (de : ∀ ρ Q, we ρ Q X0 → DE K (fun _ => te) ρ Q X0) (hj : ∀ j ∈ js, j ∈ vs) {ρ : S} {Q : QD} {X : QX} (h : wLc wi wg wt we vs ρ Q X) : DE K (fun W => tLc (ti W) g tt te vs) ρ Q X := by
  intro W σ F G H as ok acc C k
  refine di _ _ _ h W σ F G H as ok acc _ fun xs ρ1 G1 H1 as1 J h1 ok1 n1 it D hD => ?_
  obtain ⟨I, h0, hst, hd⟩ := h1
  have al : as1.length = ρ1.ob.length := ok1.mem.len
  have ok0 : Ok K ⟨ρ1.sl, ρ1.ob ++ [.lst ([].map .d)]⟩ σ F G1 (upd H1 D (.lst [])) (as1 ++ [D]) := ok1.mine (x := .lst []) hD ⟨[], upd_same, .nil⟩
  have nD : Nxt G1 as1 G1 (as1 ++ [D]) := ⟨Same.refl _, [D], rfl⟩
  refine ⟨fun i m H => m = xs.length - i ∧ i ≤ xs.length ∧ ∃ (G' : Hp) (ob : List OB) (ac : List PyData), I i ob ac ∧ ob.length = ρ1.ob.length ∧ Ok K ⟨ρ1.sl, ob ++ [.lst (ac.map .d)]⟩ σ F G' H (as1 ++ [D]) ∧ Same G1 G',
    ⟨xs.length, by simp, Nat.zero_le _, G1, ρ1.ob, [], h0, rfl, ok0, Same.refl _⟩, ?_⟩
  rintro i m H2 ⟨rfl, hi, G2, ob, ac, hI, hl, ok2, s2⟩
  by_cases hlt : i < xs.length
  · refine .inr ⟨it.go i H2 hlt (s2.trans ok2.mem.gh), fun H' => i + 1 ≤ xs.length ∧ ∃ (G' : Hp) (ob : List OB) (ac : List PyData), I (i + 1) ob ac ∧ ob.length = ρ1.ob.length ∧ Ok K ⟨ρ1.sl, ob ++ [.lst (ac.map .d)]⟩ σ F G' H' (as1 ++ [D]) ∧ Same G1 G',
      fun H' hN => ⟨xs.length - (i + 1), by omega, rfl, hN⟩, fun x H' y => ?_⟩
    have hx : xs[i]? = some xs[i] := by simp [hlt]
    obtain ⟨G3, m3, s3, r3⟩ := it.yld i _ hx F G2 H2 _ _ s2 ok2.mem x H' y
    have ok3 : Ok K ⟨ρ1.sl, ob ++ [.lst (ac.map .d)]⟩ σ F G3 H' (as1 ++ [D]) := ok2.to m3 ⟨s3, [], (List.append_nil _).symm⟩
    refine dg (.d xs[i]) _ _ (hst i _ ob ac hx hI hl) (L2.wipe σ vs) F G3 H' (as1 ++ [D]) x (ok3.wipe vs) r3 _ fun ρ4 σ4 G4 H4 as4 q4 ok4 n4 w4 => ?_
    refine ⟨?_, ?_⟩
    · rw [w4 vs hj]
      apply List.ext_getElem?
      intro j
      rw [wipe_get, wipe_get, wipe_length]
      by_cases hv : j ∈ vs ∧ j < σ.length
      · rw [if_pos hv, if_pos hv]
      · rw [if_neg hv, if_neg hv]
    refine dt _ _ q4 W0 σ4 F G4 H4 as4 ok4 acc0 _ fun b ρ5 G5 H5 as5 q5 ok5 n5 => ?_
    have n45 := n4.trans n5
    cases b with
    | false =>
      refine iteF ?_
      obtain ⟨ob', e5, hl5, hI5⟩ := q5
      refine ⟨hlt, G5, ob', ac, hI5, hl5, ?_, (s2.trans s3).trans n45.g⟩
      obtain ⟨r, er⟩ := n45.a
      have : r = [] := by
        have e1 := ok5.mem.len
        rw [er, e5, List.length_append, List.length_append, List.length_append] at e1
        simp only [List.length_cons, List.length_nil] at e1
        exact List.length_eq_zero_iff.mp (by omega)
      rw [this, List.append_nil] at er
      subst er
      rw [← e5]
      exact ok3.to ok5.mem n45
    | true =>
      refine iteT ?_
      refine de _ _ q5 W0 σ4 F G5 H5 as5 ok5 acc0 _ fun y ρ6 v G6 H6 as6 q6 ok6 n6 r6 => ?_
      obtain ⟨hz, dy, ob', ex, rfl, e6, hl6, hex, hI6⟩ := q6
      have n46 := n45.trans n6
      obtain ⟨r, er⟩ := n46.a
      have hN : (as1 ++ [D])[ob'.length]? = some D := by rw [hl6, ← al]; exact get_last _ _
      have hN6 : as6[ob'.length]? = some D := n46.get hN
      have ho6 : ρ6.ob[ob'.length]? = some (.lst (ac.map .d)) := by rw [e6]; exact get_mid _ _ _
      obtain ⟨avs, ha, hr⟩ := ok6.mem.at_ _ _ _ hN6 ho6
      have hra := hr.to
      refine ⟨avs, ha, by rw [hra.length]; exact hz, hlt, G6, ob', ac ++ [dy], hI6, hl6, ?_, (s2.trans s3).trans n46.g⟩
      have rv : Rep K G6 v dy := r6
      have m7 := ok6.mem.wr (o := .lst (avs ++ [v])) (y := .lst ((ac ++ [dy]).map .d)) hN6 ho6 (by intro z; cases z) ⟨avs ++ [v], upd_same, RepVs.of (hra.append (.cons rv .nil))⟩
      have e7 : ρ6.ob.set ob'.length (.lst ((ac ++ [dy]).map .d)) = ob' ++ .lst ((ac ++ [dy]).map .d) :: ex := by
        rw [e6, List.set_append_right _ _ (Nat.le_refl _), Nat.sub_self]
        rfl
      rw [e7] at m7
      have tk : (ob' ++ OB.lst ((ac ++ [dy]).map .d) :: ex).take (ob'.length + 1) = ob' ++ [.lst ((ac ++ [dy]).map .d)] := by
        rw [List.take_append, List.take_of_length_le (Nat.le_succ _)]
        simp
      have ta : as6.take (ob'.length + 1) = as1 ++ [D] := by
        rw [er, List.take_append_of_le_length (by rw [List.length_append]; simp; omega)]
        exact List.take_of_length_le (by rw [List.length_append]; simp; omega)
      have m8 : Mem K F G6 (upd H6 D (.lst (avs ++ [v]))) (as1 ++ [D]) (ob' ++ [.lst ((ac ++ [dy]).map .d)]) := by
        rcases hex with hex | hex
        · subst hex
          have : as6 = as1 ++ [D] := by
            have e1 := ok6.mem.len
            rw [e6] at e1
            rw [← ta]
            refine (List.take_of_length_le ?_).symm
            rw [e1, List.length_append]
            simp
          rw [← this]
          exact m7
        · have z := m7.trim (ob'.length + 1) (by
            rw [tk, List.all_append, hex]
            show (true && (belB (ob'.length + 1) (.lst ((ac ++ [dy]).map .d)) && true)) = true
            rw [bel_data]
            rfl)
          rw [tk, ta] at z
          exact z
      exact ok3.to m8 ⟨n46.g, [], (List.append_nil _).symm⟩
  · have e : i = xs.length := by omega
    subst e
    refine .inl ⟨it.stop H2 (s2.trans ok2.mem.gh), ?_⟩
    refine (k.next n1) (.o ob.length) _ (.ref D) G2 H2 (as1 ++ [D]) (hd ob ac hI hl) ok2 ⟨s2, [D], rfl⟩ ⟨D, ?_, rfl⟩
    rw [hl, ← al]
    exact get_last _ _
theorem pd_lc {scope : Scope} {own : List (Str × Nat)} {wi : WI} {wg : WG} {js : List Nat} (hi : PDI T tg iter wi) (ok : BlkOk T.N T.sc scope own) (hg : PDG (blkT T scope) tg wg js) (ht : PDTs (blkT T scope) ifs wt) (he : PD (blkT T scope) elt we)
    (hj : ∀ j ∈ js, j ∈ own.map (·.2) := by decide) (hs : ∀ env x, foldedSetIterable iter env x = pure x := by intro _ _; rfl) : PD T (.ListComp elt [⟨tg, iter, ifs, 0⟩] scope pos) (wLc wi wg wt we (own.map (·.2))) := by
  obtain ⟨ti, hti, di⟩ := hi
  obtain ⟨g, hg, dg⟩ := hg
  obtain ⟨tt, ht, dt⟩ := ht
  obtain ⟨te, he, de⟩ := he
  refine ⟨fun W => tLc (ti W) g tt (te W0) (own.map (·.2)), fun W X gd tk => pe_lc gd.calm (by rw [gd.N]; exact gd.nd) (hti W X gd tk) (by rw [gd.N, gd.sc]; exact ok) (fun s H C cl fp => hg _ (gd.blk s H scope cl C fp))
    (fun s H C cl fp => ht _ (gd.blk s H scope cl C fp) takes0) (fun s H C cl fp => he W0 _ (gd.blk s H scope cl C fp) takes0) (hs _), fun ρ Q X h => ?_⟩
  exact de_lc (K := T.K) (te := te W0) di dg dt (fun ρ Q h W σ F G H as ok acc C k => de ρ Q X0 h W0 σ F G H as ok acc0 C k) hj h
/-- y = [.. for ..] -/
theorem pds_setLc {y : Str} {py spos : Pos} {scope : Scope} {own : List (Str × Nat)} {wi : WI} {wg : WG} {js : List Nat} (i : Nat) (hi : PDI T tg iter wi) (ok : BlkOk T.N T.sc scope own) (hg : PDG (blkT T scope) tg wg js) (ht : PDTs (blkT T scope) ifs wt) (he : PD (blkT T scope) elt we)
    (hsw : ∀ env : Env, env.scope = T.sc → swapsWith (.ListComp elt [⟨tg, iter, ifs, 0⟩] scope pos) (some (.Name y py)) spos.line env = pure true)
    (hN : T.N[i]? = some y := by rfl) (hy : T.sc.names.lookup y = some .local := by rfl) (hj : ∀ j ∈ js, j ∈ own.map (·.2) := by decide) (hs : ∀ env x, foldedSetIterable iter env x = pure x := by intro _ _; rfl) : PDS T (.Assign [.Name y py] (.ListComp elt [⟨tg, iter, ifs, 0⟩] scope pos) spos) (wAsg (wLc wi wg wt we (own.map (·.2))) (wgName i)) := by
  obtain ⟨ti, hti, di⟩ := hi
  obtain ⟨g, hg, dg⟩ := hg
  obtain ⟨tt, ht, dt⟩ := ht
  obtain ⟨te, he, de⟩ := he
  refine ⟨fun W => tAsg (tLc (ti W) g tt (te W0) (own.map (·.2))) (gName i), fun W X gd tk => ps_setLc gd.calm (by rw [gd.N]; exact gd.nd) (by rw [gd.N]; exact hN) (by rw [gd.sc]; exact hy) (hsw _ gd.sc) (hti W X gd tk) (by rw [gd.N, gd.sc]; exact ok) (fun s H C cl fp => hg _ (gd.blk s H scope cl C fp))
    (fun s H C cl fp => ht _ (gd.blk s H scope cl C fp) takes0) (fun s H C cl fp => he W0 _ (gd.blk s H scope cl C fp) takes0) (hs _), fun ρ E h W σ F G H as ok acc D l => ?_⟩
  have d := de_lc (K := T.K) (te := te W0) di dg dt (fun ρ Q h W σ F G H as ok acc C k => de ρ Q X0 h W0 σ F G H as ok acc0 C k) hj h
  exact d W σ F G H as ok (acc.at σ) _ fun dv ρ' v G' H' as' q o n r => l.nx _ _ G' H' as' q (o.set i r) n
end
end DL
end

section
set_option Elab.async false
set_option linter.all false
set_option maxRecDepth 100000
set_option maxHeartbeats 1000000
set_option autoImplicit false
namespace DL
open PySem PySem.Spec PyProof.Rows L2

/-! ### data without dicts, as the layer below reads them -/
section
variable {K : PySem.W.Frag} {G H : Hp}
mutual
theorem rep_dp (e : Same G H) : ∀ (d : PyData) (v : V), Rep K G v d → d.hasDict = false → Dp K H v d
  | .none, _, h, _ => by cases h; exact .non
  | .bool b, _, h, _ => by cases h; exact .bl b
  | .int b, _, h, _ => by cases h; exact .int b
  | .str b, _, h, _ => by cases h; exact .str b
  | .list ds, _, h, n => by
    cases h with
    | lst hs r => exact .lst (e.seq hs) (reps_dp e ds _ r (by simpa [PyData.hasDict] using n))
  | .tuple ds, _, h, n => by
    cases h with
    | tup hs r => exact .tup (SqT.of (e _ _ hs)) (reps_dp e ds _ r (by simpa [PyData.hasDict] using n))
  | .dict _, _, _, n => by simp [PyData.hasDict] at n
theorem reps_dp (e : Same G H) : ∀ (ds : List PyData) (vs : List V), Reps K G vs ds → PyData.hasDictAll ds = false → DpAll K H vs ds
  | [], _, h, _ => by cases h; exact .nil
  | d :: ds, _, h, n => by
    cases h with
    | cons h r =>
      have n' : d.hasDict = false ∧ PyData.hasDictAll ds = false := by simpa [PyData.hasDictAll] using n
      exact .cons (rep_dp e d _ h n'.1) (reps_dp e ds _ r n'.2)
end
end

/-! ### repr -/
section
variable {X : Cx} {K : PySem.W.Frag}
def rRepr (K : PySem.W.Frag) : List V → Hp → VK → Prop := fun xs H Q => ∃ v d, xs = [v] ∧ Dp K H v d ∧ d.showable = true ∧ d.hasDict = false ∧ d.shown.length ≤ sizeLine ∧ d.depth ≤ 60 ∧ Q (.str d.shown) H
theorem cr_repr (hg : X.A.guards = some []) (hu : X.A.units + 64 < cLine) : CallR X (.builtin "repr") (rRepr X.K) := by
  intro pins s σ H xs us Q I r h
  obtain ⟨v, d, rfl, hd, hs, hn, hz, hp, q⟩ := h
  obtain ⟨u, rfl, rv⟩ := vals1 r
  have text : ∀ {x : Str}, x = d.shown → ∀ (tk : Nat) (t : Tok), EP X pins σ Q (.str x t) { s with toks := tk } := fun {x} e tk t => ⟨.str d.shown, H, I.tok _, ⟨t, by rw [e]⟩, q⟩
  cases hd with
  | non => cases rv; exact PySem.P.repr_of_none (text (by simp [PyData.shown]) _ _)
  | bl b => cases rv; exact PySem.P.repr_of_bool (text (by simp [PyData.shown]) _ _)
  | int i =>
    obtain ⟨t, rfl⟩ := rv
    exact PySem.P.repr_of_int (by simpa [PyData.showable] using hs) (text (by simp [PyData.shown]) _ _)
  | str x =>
    obtain ⟨t, rfl⟩ := rv
    exact PySem.P.repr_of_str (text (by simp [PyData.shown]) _ _) (by simpa [PyData.shown] using hz)
  | lst h1 h2 =>
    cases rv
    obtain ⟨as, rd⟩ := Dp.reads I _ _ _ (.lst h1 h2) rfl
    exact repr_of_reads' rd hs (PyData.noDict_hsm hn) hg (by omega) (fun _ _ e => e) (fun h' u tk k => ⟨.str _, H, I.kept k, ⟨u, rfl⟩, q⟩) hz
  | tup h1 h2 =>
    cases rv
    obtain ⟨as, rd⟩ := Dp.reads I _ _ _ (.tup h1 h2) rfl
    exact repr_of_reads' rd hs (PyData.noDict_hsm hn) hg (by omega) (fun _ _ e => e) (fun h' u tk k => ⟨.str _, H, I.kept k, ⟨u, rfl⟩, q⟩) hz
def Shows (d : PyData) : Prop := d.showable = true ∧ d.hasDict = false ∧ d.shown.length ≤ sizeLine ∧ d.depth ≤ 60
def dRepr : List DV → S → QD → Prop := fun xs ρ Q => match xs with
  | [.d x] => Shows x ∧ Q (.d (.str x.shown)) ρ
  | _ => False
theorem cad_repr : CaD K (rRepr K) dRepr := by
  intro x ρ Q h σ F G H as v ok r C k
  match x, h, r with
  | [.d x], ⟨⟨h1, h2, h3, h4⟩, q⟩, .cons (v := v) r .nil => exact ⟨v, x, rfl, rep_dp ok.mem.gh x v r h2, h1, h2, h3, h4, k.same ok q (.str _)⟩

/-! ### sorted, of data -/
def rSortD (K : PySem.W.Frag) : List V → Hp → VK → Prop := fun xs H Q => ∃ (G : Hp) (p : Addr) (ys : List V) (ds : List PyData), Same G H ∧ xs = [.ref p] ∧ SqL K H p ys ∧ Reps K G ys ds ∧ PyData.hasDictAll ds = false ∧ PySem.W.AllAlike ds ∧ PySem.W.Sortable ds ∧ (∀ d ∈ ds, d.depth ≤ 60) ∧
  ∀ (q : Addr) (zs : List V), H q = none → Reps K G zs (ds.mergeSort (PySem.W.dataLe false id)) → Q (.ref q) (upd H q (.lst zs))
theorem each_of {G : Hp} : ∀ {ys : List V} {us : List Value} {ds : List PyData}, Vals ys us → Reps K G ys ds → PyData.hasDictAll ds = false → PySem.W.EachIs (fun u d => (∃ v, RelV v u ∧ Rep K G v d) ∧ d.hasDict = false) us ds := by
  intro ys us ds r
  induction r generalizing ds with
  | nil => intro h n; cases h; exact .nil
  | cons r rs ih =>
    intro h n
    cases h with
    | cons h hs =>
      rename_i d ds
      have n' : d.hasDict = false ∧ PyData.hasDictAll ds = false := by simpa [PyData.hasDictAll] using n
      exact .cons ⟨⟨_, r, h⟩, n'.1⟩ (ih hs n'.2)
theorem each_to {G : Hp} {us : List Value} {ds : List PyData} (e : PySem.W.EachIs (fun u d => (∃ v, RelV v u ∧ Rep K G v d) ∧ d.hasDict = false) us ds) : ∃ zs, Vals zs us ∧ Reps K G zs ds := by
  induction e with
  | nil => exact ⟨[], .nil, .nil⟩
  | cons h _ ih =>
    obtain ⟨⟨v, r, h⟩, _⟩ := h
    obtain ⟨zs, h1, h2⟩ := ih
    exact ⟨v :: zs, .cons r h1, .cons h h2⟩
theorem cr_sortD (hu : X.A.units + 64 < cLine) : CallR X (.builtin "sorted") (rSortD X.K) := by
  intro pins s σ H xs us Q I r h
  obtain ⟨G, p, ys, ds, sg, rfl, hs, hd, hnd, ha, hso, hdp, q⟩ := h
  obtain ⟨its, rv, hl, hz⟩ := I.list hs
  rw [Vals.ref1 r]
  have e := each_of rv hd hnd
  have er : PySem.W.EachIs (fun v b => ∃ as, Reads s.heap v (id b) as) its ds := e.mono fun u d ⟨⟨v, h1, h2⟩, h3⟩ => Dp.reads I d v u (rep_dp sg d v h2 h3) h1
  have hn := hd.length
  refine PySem.W.sorted_data hl.isList e er (by simpa using ha) (by simpa using hso) (by omega) (fun b hb => by have := hdp b hb; show X.A.units + 2 + b.depth < cLine; omega) fun out ho eo => ?_
  obtain ⟨zs, z1, z2⟩ := each_to eo
  obtain ⟨ep, he'⟩ := PyProof.Rows.sortedAll_at s.heap its out.toArray
  have hlen : zs.length ≤ sizeLine := by
    have e1 := z2.length
    rw [List.length_mergeSort] at e1
    omega
  exact ⟨.ref _, upd H (s.heap.objs.size + 1) (.lst zs), I.laid (t' := s.toks) (fun _ _ => PyProof.Rows.sortedAll_old) (Nat.le_succ _) ⟨hlen, out, ep, z1, he'⟩, rfl, q _ zs (I.hok.fresh (Nat.le_succ _)) z2⟩
def Sorts (ds : List PyData) : Prop := PyData.hasDictAll ds = false ∧ PySem.W.AllAlike ds ∧ PySem.W.Sortable ds ∧ ∀ d ∈ ds, d.depth ≤ 60
abbrev srt (ds : List PyData) : List PyData := ds.mergeSort (PySem.W.dataLe false id)
/-- the data of a list: known, or one's own -/
def lstOf (ρ : S) : DV → Option (List PyData)
  | .d (.list ds) => some ds
  | .o k => match obK ρ k with
    | .lst xs => allD xs
    | _ => none
  | _ => none
theorem lstOf_rep {F G H : Hp} {as : List Addr} {ρ : S} {σ : St} {v : V} {x : DV} {ds : List PyData} (ok : Ok K ρ σ F G H as) (r : RepV K G as v x) (h : lstOf ρ x = some ds) : ∃ a xs, v = .ref a ∧ SqL K H a xs ∧ Reps K G xs ds := by
  match x, h, r with
  | .d (.list ds'), h, r =>
    have h : some ds' = some ds := h
    cases h
    obtain ⟨a, xs, rfl, hs, rr⟩ := repL r
    exact ⟨a, xs, rfl, ok.mem.gh.seq hs, rr⟩
  | .o n, h, r =>
    unfold lstOf at h
    cases e : obK ρ n with
    | lst xs =>
      simp only [e] at h
      obtain ⟨a, rfl, _, _, vs, hv, rr⟩ := repO ok r e (by intro z; cases z)
      have e3 := allD_eq h
      subst e3
      exact ⟨a, vs, rfl, SqL.of hv, rr.to⟩
    | dk _ => simp only [e] at h; cases h
    | dt _ => simp only [e] at h; cases h
    | gone => simp only [e] at h; cases h
def dSorted : List DV → S → QD → Prop := fun xs ρ Q => match xs with
  | [x] => ∃ ds, lstOf ρ x = some ds ∧ Sorts ds ∧ Q (.o ρ.ob.length) ⟨ρ.sl, ρ.ob ++ [.lst ((srt ds).map .d)]⟩
  | _ => False
theorem cad_sorted : CaD K (rSortD K) dSorted := by
  intro x ρ Q h σ F G H as v ok r C k
  match x, h, r with
  | [x], ⟨ds, e, ⟨s1, s2, s3, s4⟩, q⟩, .cons (v := v) r .nil =>
    obtain ⟨a, xs, rfl, hs, rr⟩ := lstOf_rep ok r e
    exact ⟨G, a, xs, ds, ok.mem.gh, rfl, hs, rr, s1, s2, s3, s4, fun p zs hp rz => mineL k ok hp (RepVs.of rz) q⟩
end
section
variable {T : Sta} {pos p : Pos} {e : Expr} {es : List Expr} {w : WA}
theorem pd_repr (hg : T.sc.names.lookup ("repr" : Str) = some .globalImplicit) (hm : T.mg "repr" = none) (ha : PDA T [e] w) (he : ∀ env, starEach [e] env = (false, eval e env) :: starEach [] env := by intro _; rfl) : PD T (.Call (.Name "repr" p) [e] [] pos) (wCa dRepr w) :=
  pd_callB (fun X k _ _ _ u g => by rw [← k]; exact cr_repr g u) cad_repr hg hm (by decide +kernel) ha (he := he) (hpl := fun _ => rfl)
theorem pd_sorted (hg : T.sc.names.lookup ("sorted" : Str) = some .globalImplicit) (hm : T.mg "sorted" = none) (ha : PDA T [e] w) (he : ∀ env, starEach [e] env = (false, eval e env) :: starEach [] env := by intro _; rfl) : PD T (.Call (.Name "sorted" p) [e] [] pos) (wCa dSorted w) :=
  pd_callB (fun X k _ _ _ u g => by rw [← k]; exact cr_sortD u) cad_sorted hg hm (by decide +kernel) ha (he := he) (hpl := fun _ => rfl)
end
end DL
end

section
set_option Elab.async false
set_option linter.all false
set_option maxRecDepth 100000
set_option maxHeartbeats 1000000
set_option autoImplicit false
namespace DL
open PySem PySem.Spec PyProof.Rows L2

/-! ### built-ins by values -/
section
variable {T : Sta} {pos p apos : Pos} {a b c e f o i : Expr} {es : List Expr} {wa wb wc we wo : WE} {w : WA} {wt : WT} {K : PySem.W.Frag} {w1 : WS}
/-- the items of a sequence -/
def seqOf (ρ : S) : DV → Option (List DV)
  | .d (.tuple ds) => some (ds.map .d)
  | .d (.list ds) => some (ds.map .d)
  | .o k => match obK ρ k with
    | .lst xs => some xs
    | _ => none
  | _ => none
theorem seqOf_rep {F G H : Hp} {as : List Addr} {ρ : S} {σ : St} {v : V} {x : DV} {ds : List DV} (ok : Ok K ρ σ F G H as) (r : RepV K G as v x) (h : seqOf ρ x = some ds) : ∃ a xs, v = .ref a ∧ (SqL K H a xs ∨ SqT K H a xs) ∧ RepVs K G as xs ds := by
  match x, h, r with
  | .d (.tuple ds'), h, r =>
    have h : some (ds'.map DV.d) = some ds := h
    cases h
    obtain ⟨a, xs, rfl, hs, rr⟩ := repT r
    exact ⟨a, xs, rfl, .inr (same_sqT ok.mem.gh hs), RepVs.of rr⟩
  | .d (.list ds'), h, r =>
    have h : some (ds'.map DV.d) = some ds := h
    cases h
    obtain ⟨a, xs, rfl, hs, rr⟩ := repL r
    exact ⟨a, xs, rfl, .inl (ok.mem.gh.seq hs), RepVs.of rr⟩
  | .o n, h, r =>
    unfold seqOf at h
    cases e : obK ρ n with
    | lst xs =>
      simp only [e] at h
      cases h
      obtain ⟨a, rfl, _, _, vs, hv, rr⟩ := repO ok r e (by intro z; cases z)
      exact ⟨a, vs, rfl, .inl (SqL.of hv), rr⟩
    | dk _ => simp only [e] at h; cases h
    | dt _ => simp only [e] at h; cases h
    | gone => simp only [e] at h; cases h
def qLen (K : PySem.W.Frag) : List V → Hp → VK → Prop := fun xs H Q => ∃ p ys, xs = [.ref p] ∧ (SqL K H p ys ∨ SqT K H p ys) ∧ Q (.int ys.length) H
def qLst (K : PySem.W.Frag) : List V → Hp → VK → Prop := fun xs H Q => ∃ p ys, xs = [.ref p] ∧ (SqL K H p ys ∨ SqT K H p ys) ∧ ∀ l, H l = none → Q (.ref l) (upd H l (.lst ys))
def qTup (K : PySem.W.Frag) : List V → Hp → VK → Prop := fun xs H Q => ∃ p ys, xs = [.ref p] ∧ ((SqL K H p ys ∧ ∀ l, H l = none → Q (.ref l) (upd H l (.tup ys))) ∨ (SqT K H p ys ∧ Q (.ref p) H))
def dLen : List DV → S → QD → Prop := fun xs ρ Q => match xs with
  | [x] => ∃ l, seqOf ρ x = some l ∧ Q (.d (.int (l.length : Nat))) ρ
  | _ => False
theorem pd_len (hg : T.sc.names.lookup ("len" : Str) = some .globalImplicit) (hm : T.mg "len" = none) (ha : PDA T [e] w) (he : ∀ env, starEach [e] env = (false, eval e env) :: starEach [] env := by intro _; rfl) : PD T (.Call (.Name "len" p) [e] [] pos) (wCa dLen w) :=
  pd_callB (r := qLen T.K) (id := "len") (fun X k _ _ _ _ _ => by rw [← k]; exact call_len_seq) (fun x ρ Q h σ F G H as v ok r C k => by
    match x, h, r with
    | [x], ⟨l, e, q⟩, .cons (v := v) r .nil =>
      obtain ⟨a, xs, rfl, hs, rr⟩ := seqOf_rep ok r e
      exact ⟨a, xs, rfl, hs, by rw [rr.length]; exact k.same ok q (.int _)⟩) hg hm PySem.boot_len ha (he := he) (hpl := fun _ => rfl)
/-- list(..) of a sequence -/
def dList : List DV → S → QD → Prop := fun xs ρ Q => match xs with
  | [x] => ∃ l, seqOf ρ x = some l ∧ Q (.o ρ.ob.length) ⟨ρ.sl, ρ.ob ++ [.lst l]⟩
  | _ => False
theorem pd_list (hg : T.sc.names.lookup ("list" : Str) = some .globalImplicit) (hm : T.mg "list" = none) (ha : PDA T [e] w) (he : ∀ env, starEach [e] env = (false, eval e env) :: starEach [] env := by intro _; rfl) : PD T (.Call (.Name "list" p) [e] [] pos) (wCa dList w) :=
  pd_callTy (r := qLst T.K) (id := "list") (fun X k _ _ _ _ _ => by rw [← k]; exact call_list_of) (fun x ρ Q h σ F G H as v ok r C k => by
    match x, h, r with
    | [x], ⟨l, e, q⟩, .cons (v := v) r .nil =>
      obtain ⟨a, xs, rfl, hs, rr⟩ := seqOf_rep ok r e
      exact ⟨a, xs, rfl, hs, fun p hp => mineL k ok hp rr q⟩) hg hm (by decide +kernel) ha (he := he) (hpl := fun _ => rfl)
/-- tuple(..): of a list a new one, of a tuple itself -/
def dTuple : List DV → S → QD → Prop := fun xs ρ Q => match xs with
  | [.d (.tuple ds)] => Q (.d (.tuple ds)) ρ
  | [x] => ∃ ds, lstOf ρ x = some ds ∧ Q (.d (.tuple ds)) ρ
  | _ => False
theorem pd_tuple (hg : T.sc.names.lookup ("tuple" : Str) = some .globalImplicit) (hm : T.mg "tuple" = none) (ha : PDA T [e] w) (he : ∀ env, starEach [e] env = (false, eval e env) :: starEach [] env := by intro _; rfl) : PD T (.Call (.Name "tuple" p) [e] [] pos) (wCa dTuple w) :=
  pd_callTy (r := qTup T.K) (id := "tuple") (fun X k _ _ _ _ _ => by rw [← k]; exact call_tuple_of) (fun x ρ Q h σ F G H as v ok r C k => by
    have lst : ∀ (x : DV) (v : V), RepV T.K G as v x → (∃ ds, lstOf ρ x = some ds ∧ Q (.d (.tuple ds)) ρ) → ∃ p ys, [v] = [.ref p] ∧ ((SqL T.K H p ys ∧ ∀ l, H l = none → C (.ref l) (upd H l (.tup ys))) ∨ (SqT T.K H p ys ∧ C (.ref p) H)) := fun x v r ⟨ds, e, q⟩ => by
      obtain ⟨a, xs, rfl, hs, rr⟩ := lstOf_rep ok r e
      exact ⟨a, xs, rfl, .inl ⟨hs, fun l hl => k.data ok hl q (.tup upd_same (rr.mono (same_new (ok.mem.fresh hl).1)))⟩⟩
    match x, h, r with
    | [.d (.tuple ds)], q, .cons (v := v) r .nil =>
      obtain ⟨a, xs, rfl, hs, rr⟩ := repTt r
      exact ⟨a, xs, rfl, .inr ⟨same_sqT ok.mem.gh (SqT.of hs), k.same ok q (.tup hs rr)⟩⟩
    | [.d .none], q, .cons (v := v) r .nil => exact lst _ v r q
    | [.d (.bool _)], q, .cons (v := v) r .nil => exact lst _ v r q
    | [.d (.int _)], q, .cons (v := v) r .nil => exact lst _ v r q
    | [.d (.str _)], q, .cons (v := v) r .nil => exact lst _ v r q
    | [.d (.list _)], q, .cons (v := v) r .nil => exact lst _ v r q
    | [.d (.dict _)], q, .cons (v := v) r .nil => exact lst _ v r q
    | [.o _], q, .cons (v := v) r .nil => exact lst _ v r q) hg hm (by decide +kernel) ha (he := he) (hpl := fun _ => rfl)
def dInt : List DV → S → QD → Prop := fun xs ρ Q => match xs with
  | [.d (.int i)] => Q (.d (.int i)) ρ
  | [.d (.bool b)] => Q (.d (.int (if b then 1 else 0))) ρ
  | _ => False
theorem pd_intC (hg : T.sc.names.lookup ("int" : Str) = some .globalImplicit) (hm : T.mg "int" = none) (ha : PDA T [e] w) (he : ∀ env, starEach [e] env = (false, eval e env) :: starEach [] env := by intro _; rfl) : PD T (.Call (.Name "int" p) [e] [] pos) (wCa dInt w) :=
  pd_callTy (id := "int") (fun X k _ _ _ _ _ => call_int1) (fun x ρ Q h σ F G H as v ok r C k => by
    match x, h, r with
    | [.d (.int i)], q, .cons (v := v) r .nil =>
      cases repI r
      exact .inl ⟨i, rfl, k.same ok q (.int i)⟩
    | [.d (.bool i)], q, .cons (v := v) r .nil =>
      cases repB r
      exact .inr ⟨i, rfl, k.same ok q (.int _)⟩) hg hm (by decide +kernel) ha (he := he) (hpl := fun _ => rfl)
def dMin : List DV → S → QD → Prop := fun xs ρ Q => match xs with
  | [.d (.int i), .d (.int j)] => Q (.d (.int (if j < i then j else i))) ρ
  | _ => False
theorem pd_min2 (hg : T.sc.names.lookup ("min" : Str) = some .globalImplicit) (hm : T.mg "min" = none) (ha : PDA T [a, b] w) (he : ∀ env, starEach [a, b] env = (false, eval a env) :: starEach [b] env := by intro _; rfl) (hpl : ∀ env, (backTo pos (starEach [b] env)).any (·.1) = false := by intro _; rfl) :
    PD T (.Call (.Name "min" p) [a, b] [] pos) (wCa dMin w) :=
  pd_callB (fun X k _ _ c _ _ => call_min2 c) (fun x ρ Q h σ F G H as v ok r C k => by
    match x, h, r with
    | [.d (.int i), .d (.int j)], q, .cons (v := v) r (.cons (v := u) r2 .nil) =>
      cases repI r
      cases repI r2
      exact ⟨i, j, rfl, k.same ok q (.int _)⟩) hg hm (by decide +kernel) ha (he := he) (hpl := hpl)
def dMax : List DV → S → QD → Prop := fun xs ρ Q => match xs with
  | [.d (.int i), .d (.int j)] => Q (.d (.int (if j > i then j else i))) ρ
  | _ => False
theorem pd_max2 (hg : T.sc.names.lookup ("max" : Str) = some .globalImplicit) (hm : T.mg "max" = none) (ha : PDA T [a, b] w) (he : ∀ env, starEach [a, b] env = (false, eval a env) :: starEach [b] env := by intro _; rfl) (hpl : ∀ env, (backTo pos (starEach [b] env)).any (·.1) = false := by intro _; rfl) :
    PD T (.Call (.Name "max" p) [a, b] [] pos) (wCa dMax w) :=
  pd_callB (fun X k _ _ c _ _ => call_max2 c) (fun x ρ Q h σ F G H as v ok r C k => by
    match x, h, r with
    | [.d (.int i), .d (.int j)], q, .cons (v := v) r (.cons (v := u) r2 .nil) =>
      cases repI r
      cases repI r2
      exact ⟨i, j, rfl, k.same ok q (.int _)⟩) hg hm (by decide +kernel) ha (he := he) (hpl := hpl)
/-- all(..), any(..) of a list of bools -/
def bools : List PyData → Option (List Bool)
  | [] => some []
  | .bool b :: r => (bools r).map (b :: ·)
  | _ :: _ => none
theorem bools_eq : ∀ {l : List PyData} {bs : List Bool}, bools l = some bs → l = bs.map .bool
  | [], bs, h => by
    have h : some [] = some bs := h
    cases h
    rfl
  | .bool b :: r, bs, h => by
    have h : (bools r).map (b :: ·) = some bs := h
    cases e : bools r with
    | none => rw [e] at h; cases h
    | some l =>
      rw [e] at h
      cases h
      rw [bools_eq e]
      rfl
  | .none :: _, bs, h => by cases h
  | .int _ :: _, bs, h => by cases h
  | .str _ :: _, bs, h => by cases h
  | .list _ :: _, bs, h => by cases h
  | .tuple _ :: _, bs, h => by cases h
  | .dict _ :: _, bs, h => by cases h
theorem bools_map (bs : List Bool) : bools (bs.map .bool) = some bs := by
  induction bs with
  | nil => rfl
  | cons b r ih =>
    show (bools (r.map .bool)).map (b :: ·) = _
    rw [ih]
    rfl
theorem reps_bl {G : Hp} : ∀ {xs : List V} {bs : List Bool}, Reps K G xs (bs.map .bool) → xs = bs.map .bl
  | _, [], h => by cases h; rfl
  | _, b :: r, h => by
    cases h with
    | cons h hs =>
      cases h
      rw [reps_bl hs]
      rfl
def dAll : List DV → S → QD → Prop := fun xs ρ Q => match xs with
  | [x] => ∃ ds bs, lstOf ρ x = some ds ∧ bools ds = some bs ∧ Q (.d (.bool (bs.all id))) ρ
  | _ => False
def dAny : List DV → S → QD → Prop := fun xs ρ Q => match xs with
  | [x] => ∃ ds bs, lstOf ρ x = some ds ∧ bools ds = some bs ∧ Q (.d (.bool (bs.any id))) ρ
  | _ => False
theorem pd_all (hg : T.sc.names.lookup ("all" : Str) = some .globalImplicit) (hm : T.mg "all" = none) (ha : PDA T [e] w) (he : ∀ env, starEach [e] env = (false, eval e env) :: starEach [] env := by intro _; rfl) : PD T (.Call (.Name "all" p) [e] [] pos) (wCa dAll w) :=
  pd_callB (r := L2.rAll T.K) (id := "all") (fun X k _ _ c _ _ => by rw [← k]; exact cr_all c) (fun x ρ Q h σ F G H as v ok r C k => by
    match x, h, r with
    | [x], ⟨ds, bs, e, eb, q⟩, .cons (v := v) r .nil =>
      obtain ⟨a, xs, rfl, hs, rr⟩ := lstOf_rep ok r e
      have e2 := bools_eq eb
      subst e2
      have e3 := reps_bl rr
      subst e3
      exact ⟨a, bs, rfl, hs, k.same ok q (.bl _)⟩) hg hm (by decide +kernel) ha (he := he) (hpl := fun _ => rfl)
theorem pd_any (hg : T.sc.names.lookup ("any" : Str) = some .globalImplicit) (hm : T.mg "any" = none) (ha : PDA T [e] w) (he : ∀ env, starEach [e] env = (false, eval e env) :: starEach [] env := by intro _; rfl) : PD T (.Call (.Name "any" p) [e] [] pos) (wCa dAny w) :=
  pd_callB (r := L2.rAny T.K) (id := "any") (fun X k _ _ c _ _ => by rw [← k]; exact cr_any c) (fun x ρ Q h σ F G H as v ok r C k => by
    match x, h, r with
    | [x], ⟨ds, bs, e, eb, q⟩, .cons (v := v) r .nil =>
      obtain ⟨a, xs, rfl, hs, rr⟩ := lstOf_rep ok r e
      have e2 := bools_eq eb
      subst e2
      have e3 := reps_bl rr
      subst e3
      exact ⟨a, bs, rfl, hs, k.same ok q (.bl _)⟩) hg hm (by decide +kernel) ha (he := he) (hpl := fun _ => rfl)

/-! ### == and != -/
/-- data as a whole: known, or a list of one's own -/
def datOf (ρ : S) : DV → Option PyData
  | .d x => some x
  | .o k => match obK ρ k with
    | .lst xs => (allD xs).map .list
    | _ => none
theorem datOf_rep {F G H : Hp} {as : List Addr} {ρ : S} {σ : St} {v : V} {x : DV} {d : PyData} (ok : Ok K ρ σ F G H as) (r : RepV K G as v x) (h : datOf ρ x = some d) : Rep K H v d := by
  match x, h, r with
  | .d y, h, r =>
    have h : some y = some d := h
    cases h
    exact Rep.mono ok.mem.gh r
  | .o n, h, r =>
    unfold datOf at h
    cases e : obK ρ n with
    | lst xs =>
      simp only [e] at h
      cases e2 : allD xs with
      | none => rw [e2] at h; cases h
      | some ds =>
        rw [e2] at h
        cases h
        obtain ⟨a, rfl, _, _, vs, hv, rr⟩ := repO ok r e (by intro z; cases z)
        have e3 := allD_eq e2
        subst e3
        exact .lst (SqL.of hv) (rr.to.mono ok.mem.gh)
    | dk _ => simp only [e] at h; cases h
    | dt _ => simp only [e] at h; cases h
    | gone => simp only [e] at h; cases h
def Eqs (d : PyData) : Prop := d.hasDict = false ∧ SeqAt.shaped d = true
def dEq : DV → DV → S → QD → Prop := fun x y ρ Q => ∃ d e, datOf ρ x = some d ∧ datOf ρ y = some e ∧ Eqs d ∧ Eqs e ∧ Q (.d (.bool (PyData.eqv d e))) ρ
def dNe : DV → DV → S → QD → Prop := fun x y ρ Q => ∃ d e, datOf ρ x = some d ∧ datOf ρ y = some e ∧ Eqs d ∧ Eqs e ∧ Q (.d (.bool (!PyData.eqv d e))) ρ
theorem pd_eqD (ha : PD T a wa) (hb : PD T b wb) : PD T (.Compare a [.Eq] [b] pos) (wOp dEq wa wb) :=
  pd_cmp (r := L2.rEqD T.K) (fun X k _ u => by rw [← k]; exact op_eqD u) (fun x y ρ Q h σ F G H as v u ok rx ry C k => by
    obtain ⟨d, e, h1, h2, s1, s2, q⟩ := h
    exact ⟨d, e, rep_dp (Same.refl H) d v (datOf_rep ok rx h1) s1.1, rep_dp (Same.refl H) e u (datOf_rep ok ry h2) s2.1, s1.2, s2.2, k.same ok q (.bl _)⟩) ha hb
theorem pd_neD (ha : PD T a wa) (hb : PD T b wb) : PD T (.Compare a [.NotEq] [b] pos) (wOp dNe wa wb) :=
  pd_cmp (r := L2.rNeD T.K) (fun X k _ u => by rw [← k]; exact op_neD u) (fun x y ρ Q h σ F G H as v u ok rx ry C k => by
    obtain ⟨d, e, h1, h2, s1, s2, q⟩ := h
    exact ⟨d, e, rep_dp (Same.refl H) d v (datOf_rep ok rx h1) s1.1, rep_dp (Same.refl H) e u (datOf_rep ok ry h2) s2.1, s1.2, s2.2, k.same ok q (.bl _)⟩) ha hb
/-- texts, ints -/
def dEqS : DV → DV → S → QD → Prop := fun x y ρ Q => match x, y with
  | .d (.str s), .d (.str t) => Q (.d (.bool (decide (s = t)))) ρ
  | .d (.int s), .d (.int t) => Q (.d (.bool (decide (s = t)))) ρ
  | _, _ => False
def dNeS : DV → DV → S → QD → Prop := fun x y ρ Q => match x, y with
  | .d (.str s), .d (.str t) => Q (.d (.bool (!decide (s = t)))) ρ
  | .d (.int s), .d (.int t) => Q (.d (.bool (!decide (s = t)))) ρ
  | _, _ => False
theorem repS {G : Hp} {as : List Addr} {v : V} {i : Str} (r : RepV K G as v (.d (.str i))) : v = .str i := by
  have r : Rep K G v (.str i) := r
  cases r
  rfl
theorem dec_s {s t : Str} : decide (V.str s = V.str t) = decide (s = t) := by rw [Bool.eq_iff_iff]; simp
theorem dec_i {s t : Int} : decide (V.int s = V.int t) = decide (s = t) := by rw [Bool.eq_iff_iff]; simp
theorem pd_eqS (ha : PD T a wa) (hb : PD T b wb) : PD T (.Compare a [.Eq] [b] pos) (wOp dEqS wa wb) :=
  pd_cmp (fun X _ _ _ => op_eq) (fun x y ρ Q h σ F G H as v u ok rx ry C k => by
    match x, y, h, rx, ry with
    | .d (.str s), .d (.str t), q, rx, ry =>
      cases repS rx
      cases repS ry
      exact ⟨rfl, by rw [dec_s]; exact k.same ok q (.bl _)⟩
    | .d (.int s), .d (.int t), q, rx, ry =>
      cases repI rx
      cases repI ry
      exact ⟨rfl, by rw [dec_i]; exact k.same ok q (.bl _)⟩) ha hb
theorem pd_neS (ha : PD T a wa) (hb : PD T b wb) : PD T (.Compare a [.NotEq] [b] pos) (wOp dNeS wa wb) :=
  pd_cmp (fun X _ _ _ => op_ne) (fun x y ρ Q h σ F G H as v u ok rx ry C k => by
    match x, y, h, rx, ry with
    | .d (.str s), .d (.str t), q, rx, ry =>
      cases repS rx
      cases repS ry
      exact ⟨rfl, by rw [dec_s]; exact k.same ok q (.bl _)⟩
    | .d (.int s), .d (.int t), q, rx, ry =>
      cases repI rx
      cases repI ry
      exact ⟨rfl, by rw [dec_i]; exact k.same ok q (.bl _)⟩) ha hb
/-- is None, is not None -/
def isNn : PyData → Bool
  | .none => true
  | _ => false
def dIsN : DV → DV → S → QD → Prop := fun x y ρ Q => match x, y with
  | .d d, .d .none => Q (.d (.bool (isNn d))) ρ
  | _, _ => False
def dNotN : DV → DV → S → QD → Prop := fun x y ρ Q => match x, y with
  | .d d, .d .none => Q (.d (.bool (!isNn d))) ρ
  | _, _ => False
theorem repN {G : Hp} {v : V} {d : PyData} (r : Rep K G v d) : decide (v = .non) = isNn d := by
  cases r <;> rfl
theorem repNo {G : Hp} {as : List Addr} {v : V} (r : RepV K G as v (.d .none)) : v = .non := by
  have r : Rep K G v .none := r
  cases r
  rfl
theorem pd_isN (ha : PD T a wa) (hb : PD T b wb) : PD T (.Compare a [.Is] [b] pos) (wOp dIsN wa wb) :=
  pd_cmp (r := fun x y H Q => y = .non ∧ Q (.bl (decide (x = .non))) H) (fun X _ _ _ => op_isN) (fun x y ρ Q h σ F G H as v u ok rx ry C k => by
    match x, y, h, rx, ry with
    | .d d, .d .none, q, rx, ry => exact ⟨repNo ry, by rw [repN rx]; exact k.same ok q (.bl _)⟩) ha hb
theorem pd_notN (ha : PD T a wa) (hb : PD T b wb) : PD T (.Compare a [.IsNot] [b] pos) (wOp dNotN wa wb) :=
  pd_cmp (r := fun x y H Q => y = .non ∧ Q (.bl (!decide (x = .non))) H) (fun X _ _ _ => op_notN) (fun x y ρ Q h σ F G H as v u ok rx ry C k => by
    match x, y, h, rx, ry with
    | .d d, .d .none, q, rx, ry => exact ⟨repNo ry, by rw [repN rx]; exact k.same ok q (.bl _)⟩) ha hb
theorem pd_mulW (ha : PD T a wa) (hb : PD T b wb) : PD T (.BinOp a .Mult b pos) (wOp (dII CMulW gMul) wa wb) := pd_op (fun _ _ _ _ => op_mulW) (opd_I (g := gMul) fun _ _ => rfl) ha hb
theorem pd_fdivW (ha : PD T a wa) (hb : PD T b wb) : PD T (.BinOp a .FloorDiv b pos) (wOp (dII CDivW gDiv) wa wb) := pd_op (fun _ _ _ _ => op_fdivW) (opd_I (g := gDiv) fun _ _ => rfl) ha hb

/-! ### what one's own becomes known -/
def ren (k : Nat) (x : PyData) : Option DV → Option DV
  | some (.o j) => if j = k then some (.d x) else some (.o j)
  | y => y
def frz (ρ : S) (k : Nat) : Option (PyData × S) := match obK ρ k with
  | .lst xs => (allD xs).map fun ds => (.list ds, ⟨ρ.sl.map (ren k (.list ds)), ρ.ob.set k .gone⟩)
  | .dk kvs => (allD (kvs.map (·.2))).map fun ds => (.dict ((kvs.map fun p => kP p.1).zip ds), ⟨ρ.sl.map (ren k (.dict ((kvs.map fun p => kP p.1).zip ds))), ρ.ob.set k .gone⟩)
  | .dt kvs => (allD (kvs.map (·.2))).map fun ds => (.dict ((.none, .none) :: (kvs.map fun p => .tuple (p.1.map kP)).zip ds), ⟨ρ.sl.map (ren k (.dict ((.none, .none) :: (kvs.map fun p => .tuple (p.1.map kP)).zip ds))), ρ.ob.set k .gone⟩)
  | .gone => none
def wFrz (wa : WE) : WE := fun ρ Q X => wa ρ (fun dv ρ1 => match dv with
  | .d x => Q (.d x) ρ1
  | .o k => match frz ρ1 k with
    | some (x, ρ2) => Q (.d x) ρ2
    | none => False) X
theorem fz_ok {F G H : Hp} {as : List Addr} {ρ : S} {σ : St} {k : Nat} {a : Addr} {o : HO} {x : PyData} (ok : Ok K ρ σ F G H as) (ha : as[k]? = some a) (ho : H a = some o) (hg : G a = none) (r : Rep K (upd G a o) (.ref a) x) :
    Ok K ⟨ρ.sl.map (ren k x), ρ.ob.set k .gone⟩ σ F (upd G a o) H as ∧ Nxt G as (upd G a o) as := by
  have n : Nxt G as (upd G a o) as := ⟨same_new hg, [], (List.append_nil as).symm⟩
  refine ⟨⟨ok.mem.fz ha ho hg, by rw [List.length_map]; exact ok.sll, fun i dv e => ?_⟩, n⟩
  have e : (ρ.sl.map (ren k x))[i]? = some (some dv) := e
  rw [List.getElem?_map] at e
  cases q : ρ.sl[i]? with
  | none => rw [q] at e; cases e
  | some y =>
    rw [q] at e
    have e : some (ren k x y) = some (some dv) := e
    match y, q, e with
    | none, q, e => cases e
    | some (.d z), q, e =>
      cases e
      obtain ⟨v, e1, rv⟩ := ok.sl i _ q
      exact ⟨v, e1, rv.mono n⟩
    | some (.o j), q, e =>
      obtain ⟨v, e1, rv⟩ := ok.sl i _ q
      by_cases hj : j = k
      · subst hj
        have e : some (if j = j then some (DV.d x) else some (.o j)) = some (some dv) := e
        rw [if_pos rfl] at e
        cases e
        obtain ⟨a', h1, h2⟩ := rv
        rw [ha] at h1
        cases h1
        exact ⟨v, e1, by rw [h2]; exact r⟩
      · have e : some (if j = k then some (DV.d x) else some (.o j)) = some (some dv) := e
        rw [if_neg hj] at e
        cases e
        exact ⟨v, e1, rv.mono n⟩
theorem pd_frz (ha : PD T a wa) : PD T a (wFrz wa) := by
  obtain ⟨t, ht, d⟩ := ha
  refine ⟨t, ht, fun ρ Q X h W σ F G H as ok acc C kk => ?_⟩
  refine d _ _ _ h W σ F G H as ok acc _ fun dv ρ1 v G1 H1 as1 h1 ok1 n1 r1 => ?_
  match dv, h1, r1 with
  | .d x, h1, r1 => exact kk (.d x) ρ1 v G1 H1 as1 h1 ok1 n1 r1
  | .o n, h1, r1 =>
    simp only [frz] at h1
    cases e : obK ρ1 n with
    | gone => simp only [e] at h1
    | lst xs =>
      simp only [e] at h1
      cases e2 : allD xs with
      | none => simp [e2] at h1
      | some ds =>
        simp only [e2, Option.map_some] at h1
        obtain ⟨a, rfl, hk, hob, vs, hv, rr⟩ := repO ok1 r1 e (by intro z; cases z)
        have e3 := allD_eq e2
        subst e3
        have hg := ok1.mem.own n a _ hk hob (by intro z; cases z)
        have r : Rep T.K (upd G1 a (.lst vs)) (.ref a) (.list ds) := .lst (SqL.of upd_same) (rr.to.mono (same_new hg))
        obtain ⟨ok2, n2⟩ := fz_ok ok1 hk hv hg r
        exact kk _ _ _ _ _ _ h1 ok2 (n1.trans n2) r
    | dk kvs =>
      simp only [e] at h1
      cases e2 : allD (kvs.map (·.2)) with
      | none => simp [e2] at h1
      | some ds =>
        simp only [e2, Option.map_some] at h1
        obtain ⟨a, rfl, hk, hob, ws, hv, hm, rr⟩ := repO ok1 r1 e (by intro z; cases z)
        have e3 := allD_eq e2
        rw [e3] at rr
        have hg := ok1.mem.own n a _ hk hob (by intro z; cases z)
        have r : Rep T.K (upd G1 a (.dK ws)) (.ref a) (.dict ((kvs.map fun p => kP p.1).zip ds)) := by
          have q : Rep T.K (upd G1 a (.dK ws)) (.ref a) (.dict ((ws.map fun p => kP p.1).zip ds)) := .dK upd_same (rr.to.mono (same_new hg))
          have : (ws.map fun p => kP p.1) = kvs.map fun p => kP p.1 := by
            have := congrArg (List.map kP) hm
            rw [List.map_map, List.map_map] at this
            exact this
          rwa [this] at q
        obtain ⟨ok2, n2⟩ := fz_ok ok1 hk hv hg r
        exact kk _ _ _ _ _ _ h1 ok2 (n1.trans n2) r
    | dt kvs =>
      simp only [e] at h1
      cases e2 : allD (kvs.map (·.2)) with
      | none => simp [e2] at h1
      | some ds =>
        simp only [e2, Option.map_some] at h1
        obtain ⟨a, rfl, hk, hob, ws, hv, hm, rr⟩ := repO ok1 r1 e (by intro z; cases z)
        have e3 := allD_eq e2
        rw [e3] at rr
        have hg := ok1.mem.own n a _ hk hob (by intro z; cases z)
        have r : Rep T.K (upd G1 a (.dT ws)) (.ref a) (.dict ((.none, .none) :: (kvs.map fun p => .tuple (p.1.map kP)).zip ds)) := by
          have q : Rep T.K (upd G1 a (.dT ws)) (.ref a) (.dict ((.none, .none) :: (ws.map fun p => .tuple (p.1.map kP)).zip ds)) := .dT upd_same (rr.to.mono (same_new hg))
          have : (ws.map fun p => PyData.tuple (p.1.map kP)) = kvs.map fun p => .tuple (p.1.map kP) := by
            have := congrArg (List.map fun k : List Key => PyData.tuple (k.map kP)) hm
            rw [List.map_map, List.map_map] at this
            exact this
          rwa [this] at q
        obtain ⟨ok2, n2⟩ := fz_ok ok1 hk hv hg r
        exact kk _ _ _ _ _ _ h1 ok2 (n1.trans n2) r
end
end DL
end

section
set_option Elab.async false
set_option linter.all false
set_option maxRecDepth 100000
set_option maxHeartbeats 1000000
set_option autoImplicit false
/-! enumerate over a tuple -/
namespace DL
open PySem PySem.Spec PyProof.Rows L2

abbrev tupIt (t : Addr) : Obj := { cls := .type "tuple_iterator", data := .fields #[.ref t, .int 0 0] }
abbrev enuOf (j : Addr) : Obj := { cls := .type "enumerate", data := .fields #[.none, .bool false, .ref j, rawInt 0, .none, .none] }
theorem enu_new (t : Addr) (cells : Array Value) : Meets (Builtin.«enumerate.__new__» ⟨[.type "enumerate", .ref t], []⟩) fun _ R s =>
    s.heap.IsTuple t cells ∧ R (.ok (.ret (.ref (s.heap.push (tupIt t)).objs.size))) { s with heap := (s.heap.push (tupIt t)).push (enuOf s.heap.objs.size) } := .of_wp fun prog w A R s hh => by
  obtain ⟨hp, g, d, tk, os⟩ := s
  obtain ⟨ht, hq⟩ := hh
  have hsub := sub_enumerate
  have it : ∀ {A' : Around} {E : Value → Shared → Prop} {Q : Value → Shared → Prop}, Q (.ref hp.objs.size) ⟨hp.push (tupIt t), g, d, tk, os⟩ → wpAny (model prog w) A' (pyIter (.ref t)) Q E ⟨hp, g, d, tk, os⟩ := fun q => wpAny_pyIter_tuple ht q
  wp_walk using it
  refine wpAny_stack_any fun _ => wpAny_pure ?_
  split
  · rename_i c _ _ _ _ _
    cases (c == Value.type "enumerate") <;> (wp_walk using it; exact ⟨_, rfl, hq⟩)
  · wp_walk using it
    exact ⟨_, rfl, hq⟩
section
variable {prog : Program} {w : World} {A : Around} {E : Value → Shared → Prop} {s : Shared}
theorem enu_call {t : Addr} {cells : Array Value} {Q : Value → Shared → Prop} (ht : s.heap.IsTuple t cells)
    (k : ∀ h2 : Heap, IsEnum h2 (s.heap.objs.size + 1) s.heap.objs.size 0 .none → h2.IsTupleIter s.heap.objs.size t 0 → (∀ (b : Addr) (o : Obj), s.heap.get? b = some o → h2.get? b = some o) → Q (.ref (s.heap.objs.size + 1)) { s with heap := h2 }) :
    wpAny (model prog w) A (call (.type "enumerate") [.ref t]) Q E s := by
  refine callType_new F.called_enumerate (by decide) (F.typeCall_enumerate_1 _) (F.newCall_enumerate_1 _) (fun _ => F.args_object_init_2 _ _) F.entry_enumerate_new (enu_new t cells) ⟨ht, ?_⟩
  have e1 : (s.heap.push (tupIt t)).objs.size = s.heap.objs.size + 1 := Heap.size_push ..
  have g1 : ((s.heap.push (tupIt t)).push (enuOf s.heap.objs.size)).get? (s.heap.objs.size + 1) = some (enuOf s.heap.objs.size) := by
    rw [← e1]
    exact Heap.get?_push_size _ rfl
  have g0 : ((s.heap.push (tupIt t)).push (enuOf s.heap.objs.size)).get? s.heap.objs.size = some (tupIt t) := Heap.get?_push_of_some _ (Heap.get?_push_size _ rfl)
  show _ ∧ _
  rw [e1]
  exact ⟨⟨_, g1, rfl⟩, k _ g1 ⟨_, g0, rfl, rfl⟩ fun b o q => Heap.get?_push_of_some _ (Heap.get?_push_of_some _ q)⟩
end
def IteT (K : PySem.W.Frag) (a : Addr) : It where
  go := fun i H => ∃ (xs : List V) (x : V), SqT K H a xs ∧ xs[i]? = some x
  yld := fun i H v H2 => ∃ (p : Addr) (x : V), v = .ref p ∧ H p = none ∧ H2 = upd H p (.tup [.int (i : Nat), x]) ∧ ∀ xs, SqT K H a xs → xs[i]? = some x
  stop := fun i H => ∃ xs : List V, SqT K H a xs ∧ xs.length ≤ i
theorem turn_enuT {P : Program} {w : World} {K : PySem.W.Frag} {elts : List Expr} {kk : Nat} {tpos : Pos} {a e it : Addr} (hai : a ≠ it) (hae : a ≠ e) :
    Turn P w K (.Tuple elts kk tpos) (IteT K a) [e, it] e fun i h => (∃ old, IsEnum h e it ((i : Nat) : Int) old) ∧ h.IsTupleIter it a i ∧ e ≠ it where
  mem := List.mem_cons_self
  obj := by
    rintro i h ⟨⟨old, he⟩, ⟨o, ho, hc, hd⟩, _⟩ b hb
    rcases List.mem_cons.mp hb with rfl | hb
    · exact ⟨_, he, fun v q => nomatch q⟩
    · cases List.mem_singleton.mp hb
      exact ⟨o, ho, fun v q => by rw [hd] at q; cases q⟩
  keep := by
    rintro i h h2 ⟨⟨old, he⟩, hi, hne⟩ k
    exact ⟨⟨old, k e List.mem_cons_self _ he⟩, hi.at fun o q => k it (by simp) o q, hne⟩
  item := by
    intro X hP hw hK hc i pins s σ H E I hf st hg
    subst hP hw hK
    obtain ⟨⟨old, he⟩, hit, hne⟩ := st
    obtain ⟨xs, x, hq, hx⟩ := hg
    obtain ⟨its, rv, p, hz⟩ := I.tuple hq
    obtain ⟨u, hu, ru⟩ := rv.get hx
    have tup : s.heap.IsTuple a its.toArray := p
    have li : i < its.toArray.size := by simpa using (List.getElem?_eq_some_iff.mp hu).1
    have hel : e < s.heap.objs.size := Heap.lt_size he
    have hil : it < s.heap.objs.size := by obtain ⟨_, q, _⟩ := hit; exact Heap.lt_size q
    have Dr := Draws.tuple (prog := X.prog) (w := X.w) (A := X.A.in1) (I.ok.hd hc) it a hai its.toArray
    refine wpAny_pyNext_enum_itemD Dr he ⟨hit, tup⟩ li hne (by simp [hne, Ne.symm hae]) fun x2 h2 tk hx2 out hst hT hsz hk => ?_
    have ex : x2 = u := by
      have : its[i]? = some x2 := by simpa using hx2
      rw [hu] at this
      exact (Option.some.inj this).symm
    subst ex
    refine ⟨_, rfl, wpAny_letOwnedTupleGo_enum (s := { s with heap := h2, toks := tk + 1 }) out fun h3 en sb => ?_⟩
    have far : ∀ {b : Addr}, b ∈ [e, it] → b ≠ s.heap.objs.size := fun {b} hb => by
      rcases List.mem_cons.mp hb with rfl | hb
      · exact Nat.ne_of_lt hel
      · cases List.mem_singleton.mp hb
        exact Nat.ne_of_lt hil
    have hT3 : h3.get? s.heap.objs.size = some { cls := .type "tuple", data := .seq #[.int i tk, x2] } := (sb.2 _ (Ne.symm (far List.mem_cons_self))).trans hT
    have laid : ObjOk X.prog X.w (upd H s.heap.objs.size (.tup [.int (i : Nat), x])) h3 s.heap.objs.size (.tup [.int (i : Nat), x]) :=
      ⟨by show 2 ≤ sizeLine; decide, [.int i tk, x2], .cons ⟨_, rfl⟩ (.cons ru .nil), ⟨_, hT3, rfl, _, rfl⟩⟩
    have stay : ∀ (b : Addr) (o : Obj), b ∉ [e, it] → s.heap.get? b = some o → h3.get? b = some o := fun b o hb q => by
      have be : b ≠ e := fun z => hb (z ▸ List.mem_cons_self)
      exact (sb.2 b be).trans (hk b o be (fun z => hb (by simp [z])) q)
    have I1 : Inv X pins σ (upd H s.heap.objs.size (.tup [.int (i : Nat), x])) { s with heap := h3, toks := tk + 1 } := I.turnedNew (ch := [e, it]) stay hf (Nat.le_refl _) laid
    refine ⟨.ref s.heap.objs.size, _, I1, rfl, ⟨_, x, rfl, I.hok.fresh (Nat.le_refl _), rfl, fun ys hy => by rw [I.tuple_inj hy hq]; exact hx⟩, ⟨⟨x2, ?_⟩, hst.1.at fun o q => (sb.2 it (Ne.symm hne)).trans q, hne⟩, fun b hb => ?_⟩
    · rw [Int.natCast_succ]
      exact en
    · rw [upd_ne (far hb)]
      exact (hf b hb).1
  done := by
    intro X hP hw hK hc i pins s σ H E I hf st hg
    subst hP hw hK
    obtain ⟨⟨old, he⟩, hit, hne⟩ := st
    obtain ⟨xs, hq, hx⟩ := hg
    obtain ⟨its, rv, p, hz⟩ := I.tuple hq
    have tup : s.heap.IsTuple a its.toArray := p
    obtain ⟨f0, f1, f2, f3, f4, f5⟩ := hf it (by simp)
    have ge : its.toArray[i]? = none := by
      have := rv.length
      simp
      omega
    have Dr : Draws X.prog X.w X.A.in1 it [it, a] i (fun _ _ => True) fun j h => j = i ∧ h.IsTupleIter it a i ∧ h.IsTuple a its.toArray := by
      refine ⟨fun j h st => let ⟨o, ho, _⟩ := st.2.1; ⟨o, ho⟩, fun j h h2 st k => ⟨st.1, st.2.1.at fun o q => k it (by simp) o q, st.2.2.at fun o q => k a (by simp) o q⟩, fun j s Q E lt st => absurd st.1 (Nat.ne_of_lt lt), fun s Q E st hE => ?_⟩
      exact wpAny_nextOf_tuple_end (I.ok.hd hc) st.2.1 st.2.2 ge hE
    exact wpAny_pyNext_enum_endD Dr he ⟨rfl, hit, tup⟩ fun h2 eb => ⟨rfl, I.turned (t' := s.toks) (fun b o hb q => eb b o hb q) f0 f1 f3 f4 f5⟩
  self := by
    rintro A i s Q E ⟨⟨_, he⟩, _⟩ h
    exact wpAny_pyIter_enum he h
def iEnuT (K : PySem.W.Frag) (ta : TA) : TI := fun σ H R => ta σ H fun vs H1 => ∃ (a : Addr) (xs : List V), vs = [.ref a] ∧ SqT K H1 a xs ∧ R (IteT K a) H1
theorem pi_enuT {X : Cx} {e : Expr} {ta : TA} {p pos tpos : Pos} {elts : List Expr} {kk : Nat} (hg : Gl X "enumerate") (hm : X.mg "enumerate" = none) (ha : PA X [e] ta) (hs : starEach [e] X.env = [(false, eval e X.env)]) :
    PI X (.Tuple elts kk tpos) (.Call (.Name "enumerate" p) [e] [] pos) (iEnuT X.K ta) := by
  constructor
  intro pins s σ H R I h
  refine Call_ (ld_blt I hg hm boot_enumerate ?_)
  refine PyProof.Rows.callWith_type1 (thn (ha.run pos pins s σ H _ I h) ?_) hs rfl
  rintro us s1 ⟨vs, H1, I1, r1, a, xs, ex, hq, q⟩
  subst ex
  rw [Vals.ref1 r1]
  obtain ⟨its, rv, p2, hz⟩ := I1.tuple hq
  have tup : s1.heap.IsTuple a its.toArray := p2
  have ha2 : a < s1.heap.objs.size := by obtain ⟨o, ho, _⟩ := id tup; exact Heap.lt_size ho
  refine enu_call tup fun h2 en ti k => wpAny_pyIter_enum en ?_
  refine ⟨s1.heap.objs.size + 1, [s1.heap.objs.size + 1, s1.heap.objs.size], _, IteT X.K a, H1, rfl, I1.kept (t' := s1.toks) k, turn_enuT (it := s1.heap.objs.size) (Nat.ne_of_lt ha2) (Nat.ne_of_lt (Nat.lt_succ_of_lt ha2)), ⟨⟨.none, en⟩, ti, Nat.succ_ne_self _⟩, fun b hb => ?_, q⟩
  have le : s1.heap.objs.size ≤ b := by
    rcases List.mem_cons.mp hb with rfl | hb
    · exact Nat.le_succ _
    · exact Nat.le_of_eq (List.mem_singleton.mp hb).symm
  exact I1.fpOk le (I1.hok.fresh le)
section
variable {K : PySem.W.Frag} {G : Hp} {a : Addr} {xs : List V} {ds : List PyData}
theorem it_enumT (h : SqT K G a xs) (r : Reps K G xs ds) : ItOk K G (IteT K a) (zipP (rng 0 ds.length) ds) := by
  have hl : (zipP (rng 0 ds.length) ds).length = ds.length := by rw [zip_len, rng_len]; omega
  refine ⟨fun i H hi e => ?_, fun H e => ?_, fun i d hd F G' H as ob e m x H' y => ?_⟩
  · rw [hl] at hi
    have hx : i < xs.length := by rw [r.length]; exact hi
    exact ⟨xs, xs[i], same_sqT e h, by simp [hx]⟩
  · rw [hl]
    exact ⟨xs, same_sqT e h, by rw [r.length]; exact Nat.le_refl _⟩
  · obtain ⟨p, x1, rfl, nT, rfl, f1⟩ := y
    obtain ⟨u1, u2, e1, e2, rfl⟩ := zip_get hd
    obtain ⟨_, rfl⟩ := rng_get e1
    obtain ⟨v2, q2, z2⟩ := r.get e2
    have p2 := f1 xs (same_sqT m.gh (same_sqT e h))
    rw [q2] at p2
    cases p2
    rw [Int.zero_add]
    exact new_pair m nT (.int _) (z2.mono e)
end
section
variable {T : Sta} {pos p : Pos} {a : Expr} {w : WA}
def wiEnu (w : WA) : WI := fun ρ Q X => w ρ (fun xs ρ1 => match xs with
  | [.d (.tuple ds)] => Q (zipP (rng 0 ds.length) ds) ρ1
  | _ => False) X
theorem pdi_enum {elts : List Expr} {kk : Nat} {tpos : Pos} (ha : PDA T [a] w) (hg : T.sc.names.lookup ("enumerate" : Str) = some .globalImplicit) (hm : T.mg "enumerate" = none) (hs : ∀ env, starEach [a] env = [(false, eval a env)] := by intro _; rfl) :
    PDI T (.Tuple elts kk tpos) (.Call (.Name "enumerate" p) [a] [] pos) (wiEnu w) := by
  obtain ⟨t, ht, d⟩ := ha
  refine ⟨fun W => iEnuT T.K (t W), fun W X g tk => by rw [← g.K]; exact pi_enuT (by show X.env.scope.names.lookup _ = _; rw [g.sc]; exact hg) (by rw [g.mg]; exact hm) (ht W X g tk) (hs _), fun ρ Q X h W σ F G H as ok acc R k => ?_⟩
  refine d _ _ _ h W σ F G H as ok acc _ fun x ρ1 v G1 H1 as1 h1 ok1 n1 r1 => ?_
  match x, h1, r1 with
  | [.d (.tuple ds)], h1, .cons (v := v) q .nil =>
    obtain ⟨a, xs, rfl, hs, r⟩ := repT q
    exact ⟨a, xs, rfl, same_sqT ok1.mem.gh hs, k _ ρ1 G1 H1 as1 _ h1 ok1 n1 (it_enumT hs r)⟩
end
end DL
end

section
set_option Elab.async false
set_option linter.all false
set_option maxRecDepth 100000
set_option maxHeartbeats 1000000
set_option autoImplicit false
namespace DL
open PySem PySem.Spec PyProof.Rows L2

section
variable {T : Sta} {pos p apos cpos : Pos} {a b c e f o i value : Expr} {es : List Expr} {wa wb wc we wo wi wv : WE} {w : WA} {wt : WT} {K : PySem.W.Frag} {w1 : WS}
/-! ### a list's methods -/
def tyD (ty : String) (ρ : S) : DV → Prop
  | .d (.list _) => ty = "list"
  | .d (.str _) => ty = "str"
  | .o k => match obK ρ k with
    | .lst _ => ty = "list"
    | .dk _ => ty = "dict"
    | .dt _ => ty = "dict"
    | .gone => False
  | _ => False
theorem tyD_ok {F G H : Hp} {as : List Addr} {ρ : S} {σ : St} {v : V} {x : DV} {ty : String} (ok : Ok K ρ σ F G H as) (r : RepV K G as v x) (h : tyD ty ρ x) : tyV K ty v H := by
  match x, h, r with
  | .d (.list _), h, r =>
    obtain ⟨a, xs, rfl, hs, _⟩ := repL r
    exact .inl ⟨h, xs, ok.mem.gh.seq hs⟩
  | .d (.str _), h, r =>
    cases repS r
    exact h
  | .o n, h, r =>
    unfold tyD at h
    cases e : obK ρ n with
    | lst xs =>
      simp only [e] at h
      obtain ⟨a, rfl, _, _, vs, hv, _⟩ := repO ok r e (by intro z; cases z)
      exact .inl ⟨h, vs, SqL.of hv⟩
    | dk xs =>
      simp only [e] at h
      obtain ⟨a, rfl, _, _, vs, hv, _⟩ := repO ok r e (by intro z; cases z)
      exact .inr (.inr (.inl ⟨h, .inl ⟨vs, hv⟩⟩))
    | dt xs =>
      simp only [e] at h
      obtain ⟨a, rfl, _, _, vs, hv, _⟩ := repO ok r e (by intro z; cases z)
      exact .inr (.inr (.inl ⟨h, .inr ⟨vs, hv⟩⟩))
    | gone => simp only [e] at h
/-- a method by values -/
def MtD (K : PySem.W.Frag) (r : V → List V → Hp → VK → Prop) (R : DV → List DV → S → QD → Prop) : Prop :=
  ∀ (x : DV) (xs : List DV) (ρ : S) (Q : QD), R x xs ρ Q → ∀ (σ : St) (F G H : Hp) (as : List Addr) (v : V) (vs : List V), Ok K ρ σ F G H as → RepV K G as v x → RepVs K G as vs xs → ∀ C : VK, Kv K F G as σ Q C → r v vs H C
def wBM (ty : String) (R : DV → List DV → S → QD → Prop) (wo : WE) (w : WA) : WE := fun ρ Q X => wo ρ (fun x ρ1 => tyD ty ρ1 x ∧ w ρ1 (fun xs ρ2 => R x xs ρ2 Q) X) X
theorem pd_bm {name : Str} {ty id : String} {r : V → List V → Hp → VK → Prop} {R : DV → List DV → S → QD → Prop} (pa : PlainAttrs ty) (sl : Slot ty name id) (hty : typeOf (.builtin id) = pure (.type "method_descriptor")) (hm : ∀ X, X.K = T.K → MtR X id r) (hr : MtD T.K r R) (ho : PD T o wo) (ha : PDA T (e :: es) w)
    (hbase : ∀ env, attributeBase o name env (eval o env) = eval o env := by intro _; rfl)
    (hfew : ∀ env, ((backTo cpos (starEach (e :: es) env)).all (fun x => !x.1) && (backToKw cpos (keywordEach [] env)).all (fun x => x.1.isSome)
      && decide ((e :: es).length + ([] : List Keyword).length + (if ([] : List Keyword).isEmpty then 0 else 1) < 30)) = true := by intro _; rfl)
    (hline : (apos.endLine == cpos.line) = true := by rfl) (hs : ∀ env, starEach (e :: es) env = (false, eval e env) :: starEach es env := by intro _; rfl) (hp : ∀ env, (backTo cpos (starEach es env)).any (·.1) = false := by intro _; rfl) :
    PD T (.Call (.Attribute o name apos) (e :: es) [] cpos) (wBM ty R wo w) := by
  obtain ⟨to, ho, d1⟩ := ho
  obtain ⟨ta, ha, da⟩ := ha
  refine ⟨fun W => tBM T.K ty r (to W) (ta W), fun W X g tk => by rw [← g.K]; exact pe_bm pa sl hty (hm X g.K) (ho W X g tk) (ha W X g tk) (hbase _) (hfew _) hline (hs _) (hp _), fun ρ Q X h W σ F G H as ok acc C k => ?_⟩
  refine d1 _ _ _ h W σ F G H as ok acc _ fun x ρ1 v G1 H1 as1 h1 ok1 n1 r1 => ⟨tyD_ok ok1 r1 h1.1, ?_⟩
  refine da _ _ _ h1.2 W σ F G1 H1 as1 ok1 (acc.next n1) _ fun xs ρ2 vs G2 H2 as2 h2 ok2 n2 r2 => ?_
  exact hr x xs ρ2 Q h2 σ F G2 H2 as2 v vs ok2 (r1.mono n2) r2 C (k.next (n1.trans n2))
def wBM0 (ty : String) (R : DV → List DV → S → QD → Prop) (wo : WE) : WE := fun ρ Q X => wo ρ (fun x ρ1 => tyD ty ρ1 x ∧ R x [] ρ1 Q) X
theorem wr_lst {F G H : Hp} {as : List Addr} {ρ : S} {σ : St} {k : Nat} {a : Addr} {vs ws : List V} {xs ys : List DV} (ok : Ok K ρ σ F G H as) (ha : as[k]? = some a) (hk : ρ.ob[k]? = some (.lst xs)) (r : RepVs K G as ws ys) : Ok K ⟨ρ.sl, ρ.ob.set k (.lst ys)⟩ σ F G (upd H a (.lst ws)) as :=
  ok.wr ha hk (by intro z; cases z) ⟨ws, upd_same, r⟩
def dApp : DV → List DV → S → QD → Prop := fun x ys ρ Q => match x, ys with
  | .o k, [y] => match obK ρ k with
    | .lst xs => xs.length < sizeLine ∧ Q (.d .none) ⟨ρ.sl, ρ.ob.set k (.lst (xs ++ [y]))⟩
    | _ => False
  | _, _ => False
theorem mtd_app : MtD K rAppend dApp := by
  intro x ys ρ Q h σ F G H as v vs ok rx ry C k
  match x, ys, h, rx, ry with
  | .o n, [y], h, rx, .cons (v := u) r .nil =>
    unfold dApp at h
    cases e : obK ρ n with
    | lst xs =>
      simp only [e] at h
      obtain ⟨a, rfl, ha, hk, ws, hv, rr⟩ := repO ok rx e (by intro z; cases z)
      refine ⟨a, ws, u, rfl, rfl, hv, by rw [rr.length]; exact h.1, ?_⟩
      exact k _ _ _ G _ as h.2 (wr_lst (vs := ws) ok ha hk (rr.append (.cons r .nil))) (Nxt.refl _ _) .non
    | dk _ => simp only [e] at h
    | dt _ => simp only [e] at h
    | gone => simp only [e] at h
theorem pd_append (ho : PD T o wo) (ha : PDA T [e] w)
    (hbase : ∀ env, attributeBase o ("append" : Str) env (eval o env) = eval o env := by intro _; rfl)
    (hfew : ∀ env, ((backTo cpos (starEach [e] env)).all (fun x => !x.1) && (backToKw cpos (keywordEach [] env)).all (fun x => x.1.isSome)
      && decide ([e].length + ([] : List Keyword).length + (if ([] : List Keyword).isEmpty then 0 else 1) < 30)) = true := by intro _; rfl)
    (hline : (apos.endLine == cpos.line) = true := by rfl) (hs : ∀ env, starEach [e] env = (false, eval e env) :: starEach [] env := by intro _; rfl) :
    PD T (.Call (.Attribute o "append" apos) [e] [] cpos) (wBM "list" dApp wo w) :=
  pd_bm PySem.F.plainAttrs_list PySem.F.slot_list_append PySem.F.type_list_append (fun X _ => mt_append) mtd_app ho ha hbase hfew hline hs (fun _ => rfl)
def dPopAt : DV → List DV → S → QD → Prop := fun x ys ρ Q => match x, ys with
  | .o k, [.d (.int i)] => match obK ρ k with
    | .lst xs => ∃ z, 0 ≤ i ∧ i < 2 ^ 62 ∧ xs[i.toNat]? = some z ∧ Q z ⟨ρ.sl, ρ.ob.set k (.lst (xs.eraseIdx i.toNat))⟩
    | _ => False
  | _, _ => False
theorem RepVs.erase {G : Hp} {as : List Addr} : ∀ {v : List V} {d : List DV} (n : Nat), RepVs K G as v d → RepVs K G as (v.eraseIdx n) (d.eraseIdx n)
  | _, _, _, .nil => .nil
  | _, _, 0, .cons _ r => r
  | _, _, n + 1, .cons h r => .cons h (RepVs.erase n r)
theorem mtd_popAt : MtD K rPopAt dPopAt := by
  intro x ys ρ Q h σ F G H as v vs ok rx ry C k
  match x, ys, h, rx, ry with
  | .o n, [.d (.int i)], h, rx, .cons (v := u) r .nil =>
    cases repI r
    unfold dPopAt at h
    cases e : obK ρ n with
    | lst xs =>
      simp only [e] at h
      obtain ⟨z, h0, h62, hz, q⟩ := h
      obtain ⟨a, rfl, ha, hk, ws, hv, rr⟩ := repO ok rx e (by intro z; cases z)
      obtain ⟨y, hy, ry⟩ := rr.get hz
      have hl : i.toNat < ws.length := (List.getElem?_eq_some_iff.mp hy).1
      refine ⟨a, ws, i, i.toNat, y, rfl, rfl, hv, by omega, by omega, PySem.StrLaws.seqIndex_nonneg h0 (by omega), hy, ?_⟩
      exact k _ _ _ G _ as q (wr_lst (vs := ws) ok ha hk (rr.erase _)) (Nxt.refl _ _) ry
    | dk _ => simp only [e] at h
    | dt _ => simp only [e] at h
    | gone => simp only [e] at h
theorem pd_popAt (ho : PD T o wo) (ha : PDA T [e] w)
    (hbase : ∀ env, attributeBase o ("pop" : Str) env (eval o env) = eval o env := by intro _; rfl)
    (hfew : ∀ env, ((backTo cpos (starEach [e] env)).all (fun x => !x.1) && (backToKw cpos (keywordEach [] env)).all (fun x => x.1.isSome)
      && decide ([e].length + ([] : List Keyword).length + (if ([] : List Keyword).isEmpty then 0 else 1) < 30)) = true := by intro _; rfl)
    (hline : (apos.endLine == cpos.line) = true := by rfl) (hs : ∀ env, starEach [e] env = (false, eval e env) :: starEach [] env := by intro _; rfl) :
    PD T (.Call (.Attribute o "pop" apos) [e] [] cpos) (wBM "list" dPopAt wo w) :=
  pd_bm PySem.F.plainAttrs_list PySem.F.slot_list_pop PySem.F.type_list_pop (fun X _ => mt_popAt) mtd_popAt ho ha hbase hfew hline hs (fun _ => rfl)
def dExt : DV → List DV → S → QD → Prop := fun x ys ρ Q => match x, ys with
  | .o k, [.o j] => match obK ρ k, obK ρ j with
    | .lst xs, .lst zs => xs.length + zs.length ≤ sizeLine ∧ Q (.d .none) ⟨ρ.sl, ρ.ob.set k (.lst (xs ++ zs))⟩
    | _, _ => False
  | _, _ => False
theorem mtd_ext : MtD K rExtend dExt := by
  intro x ys ρ Q h σ F G H as v vs ok rx ry C k
  match x, ys, h, rx, ry with
  | .o n, [.o m], h, rx, .cons (v := u) r .nil =>
    unfold dExt at h
    cases e : obK ρ n with
    | lst xs =>
      cases e2 : obK ρ m with
      | lst zs =>
        simp only [e, e2] at h
        obtain ⟨a, rfl, ha, hk, ws, hv, rr⟩ := repO ok rx e (by intro z; cases z)
        obtain ⟨b, rfl, hb, hj, us, hu, rz⟩ := repO ok r e2 (by intro z; cases z)
        refine ⟨a, b, ws, us, rfl, rfl, hv, hu, by rw [rr.length, rz.length]; exact h.1, ?_⟩
        exact k _ _ _ G _ as h.2 (wr_lst (vs := ws) ok ha hk (rr.append rz)) (Nxt.refl _ _) .non
      | dk _ => simp only [e, e2] at h
      | dt _ => simp only [e, e2] at h
      | gone => simp only [e, e2] at h
    | dk _ => simp only [e] at h
    | dt _ => simp only [e] at h
    | gone => simp only [e] at h
theorem pd_extend (ho : PD T o wo) (ha : PDA T [e] w)
    (hbase : ∀ env, attributeBase o ("extend" : Str) env (eval o env) = eval o env := by intro _; rfl)
    (hfew : ∀ env, ((backTo cpos (starEach [e] env)).all (fun x => !x.1) && (backToKw cpos (keywordEach [] env)).all (fun x => x.1.isSome)
      && decide ([e].length + ([] : List Keyword).length + (if ([] : List Keyword).isEmpty then 0 else 1) < 30)) = true := by intro _; rfl)
    (hline : (apos.endLine == cpos.line) = true := by rfl) (hs : ∀ env, starEach [e] env = (false, eval e env) :: starEach [] env := by intro _; rfl) :
    PD T (.Call (.Attribute o "extend" apos) [e] [] cpos) (wBM "list" dExt wo w) :=
  pd_bm PySem.F.plainAttrs_list PySem.F.slot_list_extend PySem.F.type_list_extend (fun X _ => mt_extend) mtd_ext ho ha hbase hfew hline hs (fun _ => rfl)
def dPop : DV → List DV → S → QD → Prop := fun x ys ρ Q => match x, ys with
  | .o k, [] => match obK ρ k with
    | .lst xs => ∃ z, xs[xs.length - 1]? = some z ∧ Q z ⟨ρ.sl, ρ.ob.set k (.lst xs.dropLast)⟩
    | _ => False
  | _, _ => False
theorem dropLast_take {α : Type} (l : List α) : l.dropLast = l.take (l.length - 1) := List.dropLast_eq_take
theorem pd_pop {pl : Sem Bool} (ho : PD T o wo) (hbase : ∀ env, attributeBase o ("pop" : Str) env (eval o env) = eval o env := by intro _; rfl) (hline : (apos.endLine == cpos.line) = true := by rfl) :
    PD T (.Call (.Attribute o "pop" apos) [] [] cpos) (wBM0 "list" dPop wo) := by
  obtain ⟨to, ho, d1⟩ := ho
  refine ⟨fun W => tBM0 T.K "list" rPop (to W), fun W X g tk => by rw [← g.K]; exact pe_bm0 PySem.F.plainAttrs_list PySem.F.slot_list_pop PySem.F.type_list_pop mt_pop (ho W X g tk) (hbase _) (hline := hline), fun ρ Q X h W σ F G H as ok acc C k => ?_⟩
  refine d1 _ _ _ h W σ F G H as ok acc _ fun x ρ1 v G1 H1 as1 h1 ok1 n1 r1 => ⟨tyD_ok ok1 r1 h1.1, ?_⟩
  obtain ⟨_, h2⟩ := h1
  match x, h2, r1 with
  | .o n, h2, r1 =>
    unfold dPop at h2
    cases e : obK ρ1 n with
    | lst xs =>
      simp only [e] at h2
      obtain ⟨z, hz, q⟩ := h2
      obtain ⟨a, rfl, ha, hk, ws, hv, rr⟩ := repO ok1 r1 e (by intro z; cases z)
      rw [← rr.length] at hz
      obtain ⟨y, hy, ry⟩ := rr.get hz
      refine ⟨a, ws, y, rfl, rfl, hv, hy, ?_⟩
      have r2 : RepVs T.K G1 as1 ws.dropLast xs.dropLast := by
        rw [dropLast_take, dropLast_take, rr.length]
        exact rr.take _
      exact (k.next n1) _ _ _ G1 _ as1 q (wr_lst (vs := ws) ok1 ha hk r2) (Nxt.refl _ _) ry
    | dk _ => simp only [e] at h2
    | dt _ => simp only [e] at h2
    | gone => simp only [e] at h2

/-! ### dicts -/
def toK : PyData → Option Key
  | .int i => some (.inl i)
  | .str x => some (.inr x)
  | _ => none
theorem toK_kP (k : Key) : toK (kP k) = some k := by cases k <;> rfl
theorem toK_eq {d : PyData} {k : Key} (h : toK d = some k) : d = kP k := by
  cases d <;> first | cases h; rfl | cases h
def toKs : List PyData → Option (List Key)
  | [] => some []
  | d :: r => match toK d, toKs r with
    | some k, some l => some (k :: l)
    | _, _ => none
theorem toKs_kP : ∀ k : List Key, toKs (k.map kP) = some k
  | [] => rfl
  | k :: r => by
    show (match toK (kP k), toKs (r.map kP) with | some k, some l => some (k :: l) | _, _ => none) = _
    rw [toK_kP, toKs_kP r]
theorem toKs_eq : ∀ {d : List PyData} {k : List Key}, toKs d = some k → d = k.map kP
  | [], k, h => by
    have h : some [] = some k := h
    cases h
    rfl
  | d :: r, k, h => by
    unfold toKs at h
    cases e : toK d with
    | none => rw [e] at h; cases h
    | some k1 =>
      cases e2 : toKs r with
      | none => rw [e, e2] at h; cases h
      | some l =>
        rw [e, e2] at h
        cases h
        rw [toK_eq e, toKs_eq e2]
        rfl
def tkey : PyData → Option (List Key)
  | .tuple ds => toKs ds
  | _ => none
theorem tkey_kP (k : List Key) : tkey (.tuple (k.map kP)) = some k := toKs_kP k
theorem tkey_eq {d : PyData} {k : List Key} (h : tkey d = some k) : d = .tuple (k.map kP) := by
  cases d with
  | tuple ds => rw [toKs_eq (show toKs ds = some k from h)]
  | _ => cases h
/-- a table's value at a key -/
def lookD {κ α : Type} [DecidableEq κ] (kvs : List (κ × α)) (k : κ) : Option α := match kvs with
  | [] => none
  | p :: r => if p.1 = k then some p.2 else lookD r k
/-- .. in a known dict with tuple keys -/
def lookT (ps : List (PyData × PyData)) (k : List Key) : Option PyData := match ps with
  | [] => none
  | p :: r => if tkey p.1 = some k then some p.2 else lookT r k
theorem look_rep {κ : Type} [DecidableEq κ] {G : Hp} {as : List Addr} (k : κ) : ∀ {ws : List (κ × V)} {kvs : List (κ × DV)}, ws.map (·.1) = kvs.map (·.1) → RepVs K G as (ws.map (·.2)) (kvs.map (·.2)) →
    (∀ z, lookD kvs k = some z → ∃ v, valV ws k = some v ∧ RepV K G as v z) ∧ (lookD kvs k = none → valV ws k = none)
  | [], [], _, _ => ⟨fun z h => (nomatch h), fun _ => rfl⟩
  | p :: ws, q :: kvs, e, r => by
    have e1 : p.1 = q.1 := (List.cons.inj e).1
    have e2 := (List.cons.inj e).2
    cases r with
    | cons r1 r2 =>
      obtain ⟨i1, i2⟩ := look_rep k e2 r2
      by_cases h : q.1 = k
      · refine ⟨fun z hz => ?_, fun hz => ?_⟩
        · rw [lookD, if_pos h] at hz
          cases hz
          exact ⟨p.2, valV_pos (e1.trans h), r1⟩
        · rw [lookD, if_pos h] at hz
          cases hz
      · rw [lookD, if_neg h, valV_neg (fun z => h (e1.symm.trans z))]
        exact ⟨i1, i2⟩
theorem lookT_rep {G : Hp} (k : List Key) : ∀ {kvs : List (List Key × V)} {ds : List PyData}, Reps K G (kvs.map (·.2)) ds →
    (∀ z, lookT ((kvs.map fun p => .tuple (p.1.map kP)).zip ds) k = some z → ∃ v, valV kvs k = some v ∧ Rep K G v z) ∧ (lookT ((kvs.map fun p => PyData.tuple (p.1.map kP)).zip ds) k = none → valV kvs k = none)
  | [], [], _ => ⟨fun z h => (nomatch h), fun _ => rfl⟩
  | p :: kvs, d :: ds, .cons r1 r2 => by
    obtain ⟨i1, i2⟩ := lookT_rep k r2
    have t : tkey (.tuple (p.1.map kP)) = some p.1 := tkey_kP p.1
    show (∀ z, lookT ((PyData.tuple (p.1.map kP), d) :: _) k = some z → _) ∧ (lookT ((PyData.tuple (p.1.map kP), d) :: _) k = none → _)
    by_cases h : p.1 = k
    · refine ⟨fun z hz => ?_, fun hz => ?_⟩
      · rw [lookT, if_pos (by rw [t, h])] at hz
        cases hz
        exact ⟨p.2, valV_pos h, r1⟩
      · rw [lookT, if_pos (by rw [t, h])] at hz
        cases hz
    · rw [lookT, if_neg (by rw [t]; exact fun z => h (Option.some.inj z)), valV_neg h]
      exact ⟨i1, i2⟩
/-- what d has at y: some: asked rightly -/
def getR (ρ : S) (x : DV) (y : DV) : Option (Option DV) := match x, y with
  | .o k, .d y => match obK ρ k with
    | .dk kvs => (toK y).map fun kk => lookD kvs kk
    | .dt kvs => (tkey y).map fun kl => lookD kvs kl
    | _ => none
  | .d (.dict ((.none, .none) :: ps)), .d y => (tkey y).map fun kl => (lookT ps kl).map .d
  | _, _ => none
def OptRep (K : PySem.W.Frag) (G : Hp) (as : List Addr) : Option V → Option DV → Prop
  | some v, some z => RepV K G as v z
  | none, none => True
  | _, _ => False
theorem tup_key {G : Hp} {as : List Addr} {v : V} {y : PyData} {kl : List Key} (r : RepV K G as v (.d y)) (h : tkey y = some kl) : ∃ b, v = .ref b ∧ G b = some (.tup (kl.map kV)) := by
  rw [tkey_eq h] at r
  obtain ⟨b, xs, e, hb, rr⟩ := repTt r
  refine ⟨b, e, ?_⟩
  have : xs = kl.map kV := by
    clear h r hb e
    induction kl generalizing xs with
    | nil => cases rr; rfl
    | cons k kl ih =>
      cases rr with
      | cons r1 r2 =>
        rw [ih _ r2]
        cases k with
        | inl i => cases r1; rfl
        | inr s => cases r1; rfl
  rw [← this]
  exact hb
theorem getR_ok {F G H : Hp} {as : List Addr} {ρ : S} {σ : St} {v u : V} {x y : DV} {oz : Option DV} (ok : Ok K ρ σ F G H as) (rx : RepV K G as v x) (ry : RepV K G as u y) (h : getR ρ x y = some oz) : ∃ a ov, v = .ref a ∧ DGet H a u ov ∧ OptRep K G as ov oz := by
  have fin : ∀ {ov : Option V} {oz : Option DV}, (∀ z, oz = some z → ∃ v, ov = some v ∧ RepV K G as v z) → (oz = none → ov = none) → OptRep K G as ov oz := fun {ov oz} h1 h2 => by
    cases oz with
    | none => rw [h2 rfl]; trivial
    | some z =>
      obtain ⟨v, e, r⟩ := h1 z rfl
      rw [e]
      exact r
  match x, y, h, rx, ry with
  | .o n, .d y, h, rx, ry =>
    unfold getR at h
    cases e : obK ρ n with
    | dk kvs =>
      simp only [e] at h
      cases e2 : toK y with
      | none => rw [e2] at h; cases h
      | some kk =>
        rw [e2] at h
        cases h
        obtain ⟨a, rfl, _, _, ws, hv, hm, rr⟩ := repO ok rx e (by intro z; cases z)
        obtain ⟨i1, i2⟩ := look_rep kk hm rr
        have eu : u = kV kk := by
          rw [toK_eq e2] at ry
          cases kk with
          | inl i => exact repI ry
          | inr i => exact repS ry
        rw [eu]
        exact ⟨a, _, rfl, DGet.k hv, fin i1 i2⟩
    | dt kvs =>
      simp only [e] at h
      cases e2 : tkey y with
      | none => rw [e2] at h; cases h
      | some kk =>
        rw [e2] at h
        cases h
        obtain ⟨a, rfl, _, _, ws, hv, hm, rr⟩ := repO ok rx e (by intro z; cases z)
        obtain ⟨i1, i2⟩ := look_rep kk hm rr
        obtain ⟨b, rfl, hb⟩ := tup_key ry e2
        exact ⟨a, _, rfl, DGet.t hv (ok.mem.gh _ _ hb), fin i1 i2⟩
    | lst _ => simp only [e] at h; cases h
    | gone => simp only [e] at h; cases h
  | .d (.dict ((.none, .none) :: ps)), .d y, h, rx, ry =>
    have h : (tkey y).map (fun kl => (lookT ps kl).map DV.d) = some oz := h
    cases e2 : tkey y with
    | none => rw [e2] at h; cases h
    | some kl =>
      rw [e2] at h
      cases h
      obtain ⟨b, rfl, hb⟩ := tup_key ry e2
      have rx : Rep K G v (.dict ((.none, .none) :: ps)) := rx
      generalize ez : (PyData.dict ((.none, .none) :: ps)) = dz at rx
      cases rx with
      | @dK a kvs ds hg rr =>
        exfalso
        cases kvs with
        | nil => injection ez with ez; cases ez
        | cons q kvs =>
          cases ds with
          | nil => cases rr
          | cons d ds =>
            injection ez with ez
            injection ez with ez _
            injection ez with ez _
            cases hq : q.1 with
            | inl _ =>
              have ez : PyData.none = kP q.1 := ez
              rw [hq] at ez
              cases ez
            | inr _ =>
              have ez : PyData.none = kP q.1 := ez
              rw [hq] at ez
              cases ez
      | @dT a kvs ds hg rr =>
        injection ez with ez
        injection ez with _ ez
        subst ez
        obtain ⟨i1, i2⟩ := lookT_rep kl rr
        refine ⟨a, _, rfl, DGet.t (ok.mem.gh _ _ hg) (ok.mem.gh _ _ hb), fin (fun z hz => ?_) (fun hz => ?_)⟩
        · have hz : (lookT ((kvs.map fun p => PyData.tuple (p.1.map kP)).zip ds) kl).map DV.d = some z := hz
          cases e3 : lookT ((kvs.map fun p => PyData.tuple (p.1.map kP)).zip ds) kl with
          | none => rw [e3] at hz; cases hz
          | some z2 =>
            rw [e3] at hz
            cases hz
            exact i1 z2 e3
        · have hz : (lookT ((kvs.map fun p => PyData.tuple (p.1.map kP)).zip ds) kl).map DV.d = none := hz
          cases e3 : lookT ((kvs.map fun p => PyData.tuple (p.1.map kP)).zip ds) kl with
          | none => exact i2 e3
          | some z2 => rw [e3] at hz; cases hz
      | _ => cases ez
end
end DL
end

section
set_option Elab.async false
set_option linter.all false
set_option maxRecDepth 100000
set_option maxHeartbeats 1000000
set_option autoImplicit false
namespace DL
open PySem PySem.Spec PyProof.Rows L2

section
variable {T : Sta} {pos pos' p apos cpos : Pos} {a b c e f o i value : Expr} {es : List Expr} {wa wb wc we wo wi wv wx : WE} {w : WA} {wt : WT} {K : PySem.W.Frag} {w1 : WS}
theorem u1 {A : Around} (h : A.units + 64 < cLine) : A.units + 1 < cLine := by omega
def dDG : DV → DV → S → QD → Prop := fun x y ρ Q => match getR ρ x y with
  | some (some z) => Q z ρ
  | _ => False
def dDI (neg : Bool) : DV → DV → S → QD → Prop := fun y x ρ Q => match getR ρ x y with
  | some oz => Q (.d (.bool (if neg then !oz.isSome else oz.isSome))) ρ
  | none => False
/-- d[k] -/
theorem pd_dget (ho : PD T o wo) (hi : PD T i wi) (hs : NoSl i := by exact fun _ _ => rfl) : PD T (.Subscript o i pos) (wOp dDG wo wi) := by
  obtain ⟨to, ho, d1⟩ := ho
  obtain ⟨ti, hi, d2⟩ := hi
  refine ⟨fun W => tDGet (to W) (ti W), fun W X g tk => pe_dget (u1 g.room.units) (ho W X g tk) (hi W X g tk) hs, fun ρ Q X h W σ F G H as ok acc C k => ?_⟩
  refine d1 _ _ _ h W σ F G H as ok acc _ fun x ρ1 v G1 H1 as1 h1 ok1 n1 r1 => ?_
  refine d2 _ _ _ h1 W σ F G1 H1 as1 ok1 (acc.next n1) _ fun y ρ2 u G2 H2 as2 h2 ok2 n2 r2 => ?_
  have h2 : dDG x y ρ2 Q := h2
  unfold dDG at h2
  cases e : getR ρ2 x y with
  | none => rw [e] at h2; exact h2.elim
  | some oz =>
    cases oz with
    | none => rw [e] at h2; exact h2.elim
    | some z =>
      rw [e] at h2
      obtain ⟨a, ov, rfl, dg, rr⟩ := getR_ok ok2 (r1.mono n2) r2 e
      cases ov with
      | none => exact rr.elim
      | some vv => exact ⟨a, vv, rfl, dg, (k.next (n1.trans n2)).same ok2 h2 rr⟩
theorem opt_some {G : Hp} {as : List Addr} {ov : Option V} {oz : Option DV} (r : OptRep K G as ov oz) : ov.isSome = oz.isSome := by
  cases ov <;> cases oz <;> first | rfl | exact r.elim
/-- k in d, k not in d -/
theorem pd_din (hi : PD T i wi) (ho : PD T o wo) (hm : behindInMarks .In o = false := by rfl) : PD T (.Compare i [.In] [o] pos) (wOp (dDI false) wi wo) := by
  obtain ⟨to, ho, d1⟩ := ho
  obtain ⟨ti, hi, d2⟩ := hi
  refine ⟨fun W => tDIn (ti W) (to W), fun W X g tk => L2.pe_cmp (pc_din (u1 g.room.units) (hi W X g tk) (ho W X g tk)) hm, fun ρ Q X h W σ F G H as ok acc C k => ?_⟩
  refine d2 _ _ _ h W σ F G H as ok acc _ fun y ρ1 u G1 H1 as1 h1 ok1 n1 r1 => ?_
  refine d1 _ _ _ h1 W σ F G1 H1 as1 ok1 (acc.next n1) _ fun x ρ2 v G2 H2 as2 h2 ok2 n2 r2 => ?_
  have h2 : dDI false y x ρ2 Q := h2
  unfold dDI at h2
  cases e : getR ρ2 x y with
  | none => rw [e] at h2; exact h2.elim
  | some oz =>
    rw [e] at h2
    obtain ⟨a, ov, rfl, dg, rr⟩ := getR_ok ok2 r2 (r1.mono n2) e
    exact ⟨a, ov, rfl, dg, by rw [opt_some rr]; exact (k.next (n1.trans n2)).same ok2 h2 (.bl _)⟩
theorem pd_dnin (hi : PD T i wi) (ho : PD T o wo) (hm : behindInMarks .NotIn o = false := by rfl) : PD T (.Compare i [.NotIn] [o] pos) (wOp (dDI true) wi wo) := by
  obtain ⟨to, ho, d1⟩ := ho
  obtain ⟨ti, hi, d2⟩ := hi
  refine ⟨fun W => tDNotIn (ti W) (to W), fun W X g tk => L2.pe_cmp (pc_dnotin (u1 g.room.units) (hi W X g tk) (ho W X g tk)) hm, fun ρ Q X h W σ F G H as ok acc C k => ?_⟩
  refine d2 _ _ _ h W σ F G H as ok acc _ fun y ρ1 u G1 H1 as1 h1 ok1 n1 r1 => ?_
  refine d1 _ _ _ h1 W σ F G1 H1 as1 ok1 (acc.next n1) _ fun x ρ2 v G2 H2 as2 h2 ok2 n2 r2 => ?_
  have h2 : dDI true y x ρ2 Q := h2
  unfold dDI at h2
  cases e : getR ρ2 x y with
  | none => rw [e] at h2; exact h2.elim
  | some oz =>
    rw [e] at h2
    obtain ⟨a, ov, rfl, dg, rr⟩ := getR_ok ok2 r2 (r1.mono n2) e
    exact ⟨a, ov, rfl, dg, by rw [opt_some rr]; exact (k.next (n1.trans n2)).same ok2 h2 (.bl _)⟩
/-- whether it is a dict -/
def isDc (ρ : S) : DV → Bool
  | .o k => match obK ρ k with
    | .dk _ => true
    | .dt _ => true
    | _ => false
  | .d (.dict _) => true
  | _ => false
theorem isDc_ok {F G H : Hp} {as : List Addr} {ρ : S} {σ : St} {v : V} {x : DV} (ok : Ok K ρ σ F G H as) (rx : RepV K G as v x) (h : isDc ρ x = true) : ∃ a, v = .ref a ∧ IsD H a := by
  match x, h, rx with
  | .o n, h, rx =>
    unfold isDc at h
    cases e : obK ρ n with
    | dk kvs =>
      obtain ⟨a, rfl, _, _, ws, hv, _⟩ := repO ok rx e (by intro z; cases z)
      exact ⟨a, rfl, .inl ⟨ws, .inl hv⟩⟩
    | dt kvs =>
      obtain ⟨a, rfl, _, _, ws, hv, _⟩ := repO ok rx e (by intro z; cases z)
      exact ⟨a, rfl, .inr ⟨ws, .inl hv⟩⟩
    | lst _ => simp [e] at h
    | gone => simp [e] at h
  | .d (.dict ps), h, rx =>
    have rx : Rep K G v (.dict ps) := rx
    cases rx with
    | dK hg _ => exact ⟨_, rfl, .inl ⟨_, .inl (ok.mem.gh _ _ hg)⟩⟩
    | dT hg _ => exact ⟨_, rfl, .inr ⟨_, .inl (ok.mem.gh _ _ hg)⟩⟩
/-- d.get(k), d.get(k, x) -/
def wGet1 (wo wi : WE) : WE := fun ρ Q X => wo ρ (fun x ρ1 => isDc ρ1 x = true ∧ wi ρ1 (fun y ρ2 => match getR ρ2 x y with
  | some oz => Q (oz.getD (.d .none)) ρ2
  | none => False) X) X
def wGet2 (wo wi wx : WE) : WE := fun ρ Q X => wo ρ (fun x ρ1 => isDc ρ1 x = true ∧ wi ρ1 (fun y ρ2 => wx ρ2 (fun z ρ3 => match getR ρ3 x y with
  | some oz => Q (oz.getD z) ρ3
  | none => False) X) X) X
theorem opt_get {G : Hp} {as : List Addr} {ov : Option V} {oz : Option DV} {v : V} {z : DV} (r : OptRep K G as ov oz) (q : RepV K G as v z) : RepV K G as (ov.getD v) (oz.getD z) := by
  cases ov <;> cases oz <;> first | exact q | exact r | exact r.elim
theorem pd_get1 (ho : PD T o wo) (he : PD T e we) (m : ∀ X : Cx, M1 X o "get" apos e cpos := by exact fun _ => ⟨rfl, rfl, rfl, rfl⟩) : PD T (.Call (.Attribute o "get" apos) [e] [] cpos) (wGet1 wo we) := by
  obtain ⟨to, ho, d1⟩ := ho
  obtain ⟨te, he, d2⟩ := he
  refine ⟨fun W => tDGet1 (to W) (te W), fun W X g tk => pe_dget1 (u1 g.room.units) (ho W X g tk) (he W X g tk) (m X), fun ρ Q X h W σ F G H as ok acc C k => ?_⟩
  refine d1 _ _ _ h W σ F G H as ok acc _ fun x ρ1 v G1 H1 as1 h1 ok1 n1 r1 => ?_
  obtain ⟨a0, e0, id⟩ := isDc_ok ok1 r1 h1.1
  refine ⟨a0, e0, id, ?_⟩
  refine d2 _ _ _ h1.2 W σ F G1 H1 as1 ok1 (acc.next n1) _ fun y ρ2 u G2 H2 as2 h2 ok2 n2 r2 => ?_
  have h2 : (match getR ρ2 x y with | some oz => Q (oz.getD (.d .none)) ρ2 | none => False) := h2
  cases q : getR ρ2 x y with
  | none => rw [q] at h2; exact h2.elim
  | some oz =>
    rw [q] at h2
    obtain ⟨a, ov, ev, dg, rr⟩ := getR_ok ok2 (r1.mono n2) r2 q
    rw [e0] at ev
    cases ev
    exact ⟨ov, dg, (k.next (n1.trans n2)).same ok2 h2 (opt_get rr (show RepV T.K G2 as2 .non (.d .none) from .non))⟩
theorem pd_get2 (ho : PD T o wo) (he : PD T e we) (hf : PD T f wx) (m : ∀ X : Cx, M2 X o "get" apos e f cpos := by exact fun _ => ⟨rfl, rfl, rfl, rfl⟩) : PD T (.Call (.Attribute o "get" apos) [e, f] [] cpos) (wGet2 wo we wx) := by
  obtain ⟨to, ho, d1⟩ := ho
  obtain ⟨te, he, d2⟩ := he
  obtain ⟨tf, hf, d3⟩ := hf
  refine ⟨fun W => tDGet2 (to W) (te W) (tf W), fun W X g tk => pe_dget2 (u1 g.room.units) (ho W X g tk) (he W X g tk) (hf W X g tk) (m X), fun ρ Q X h W σ F G H as ok acc C k => ?_⟩
  refine d1 _ _ _ h W σ F G H as ok acc _ fun x ρ1 v G1 H1 as1 h1 ok1 n1 r1 => ?_
  obtain ⟨a0, e0, id⟩ := isDc_ok ok1 r1 h1.1
  refine ⟨a0, e0, id, ?_⟩
  refine d2 _ _ _ h1.2 W σ F G1 H1 as1 ok1 (acc.next n1) _ fun y ρ2 u G2 H2 as2 h2 ok2 n2 r2 => ?_
  refine d3 _ _ _ h2 W σ F G2 H2 as2 ok2 (acc.next (n1.trans n2)) _ fun z ρ3 uz G3 H3 as3 h3 ok3 n3 r3 => ?_
  have h3 : (match getR ρ3 x y with | some oz => Q (oz.getD z) ρ3 | none => False) := h3
  cases q : getR ρ3 x y with
  | none => rw [q] at h3; exact h3.elim
  | some oz =>
    rw [q] at h3
    obtain ⟨a, ov, ev, dg, rr⟩ := getR_ok ok3 (r1.mono (n2.trans n3)) (r2.mono n3) q
    rw [e0] at ev
    cases ev
    exact ⟨ov, dg, (k.next ((n1.trans n2).trans n3)).same ok3 h3 (opt_get rr r3)⟩
/-- d[k] = v -/
def putD {κ α : Type} [DecidableEq κ] (kvs : List (κ × α)) (k : κ) (v : α) : List (κ × α) := if (kvs.any fun p => decide (p.1 = k)) = true then kvs.map (fun p => if p.1 = k then (p.1, v) else p) else kvs ++ [(k, v)]
theorem put_rep {κ : Type} [DecidableEq κ] {G : Hp} {as : List Addr} (k : κ) {v : V} {z : DV} (hv : RepV K G as v z) {ws : List (κ × V)} {kvs : List (κ × DV)} (e : ws.map (·.1) = kvs.map (·.1)) (r : RepVs K G as (ws.map (·.2)) (kvs.map (·.2))) :
    (putK ws k v).map (·.1) = (putD kvs k z).map (·.1) ∧ RepVs K G as ((putK ws k v).map (·.2)) ((putD kvs k z).map (·.2)) := by
  have any : ∀ {ws : List (κ × V)} {kvs : List (κ × DV)}, ws.map (·.1) = kvs.map (·.1) → (ws.any fun p => decide (p.1 = k)) = (kvs.any fun p => decide (p.1 = k)) := fun {ws kvs} e => by
    have h1 : (ws.any fun p => decide (p.1 = k)) = (ws.map (·.1)).any fun q => decide (q = k) := by rw [List.any_map]; rfl
    have h2 : (kvs.any fun p => decide (p.1 = k)) = (kvs.map (·.1)).any fun q => decide (q = k) := by rw [List.any_map]; rfl
    rw [h1, h2, e]
  unfold putK putD
  rw [any e]
  by_cases h : (kvs.any fun p => decide (p.1 = k)) = true
  · rw [if_pos h, if_pos h]
    clear h any
    induction ws generalizing kvs with
    | nil =>
      cases kvs with
      | nil => exact ⟨rfl, .nil⟩
      | cons _ _ => cases e
    | cons p ws ih =>
      cases kvs with
      | nil => cases e
      | cons q kvs =>
        have e1 : p.1 = q.1 := (List.cons.inj e).1
        cases r with
        | cons r1 r2 =>
          obtain ⟨i1, i2⟩ := ih (List.cons.inj e).2 r2
          rw [List.map_cons, List.map_cons, List.map_cons, List.map_cons, List.map_cons, List.map_cons, i1]
          by_cases hq : q.1 = k
          · rw [if_pos hq, if_pos (e1.trans hq)]
            exact ⟨by rw [e1], .cons hv i2⟩
          · rw [if_neg hq, if_neg (fun z => hq (e1.symm.trans z))]
            exact ⟨by rw [e1], .cons r1 i2⟩
  · rw [if_neg h, if_neg h, List.map_append, List.map_append, List.map_append, List.map_append, e]
    exact ⟨rfl, r.append (.cons hv .nil)⟩
def putR (ρ : S) (x y z : DV) : Option S := match x, y with
  | .o k, .d y => match obK ρ k with
    | .dk kvs => (toK y).map fun kk => ⟨ρ.sl, ρ.ob.set k (.dk (putD kvs kk z))⟩
    | .dt kvs => (tkey y).map fun kl => ⟨ρ.sl, ρ.ob.set k (.dt (putD kvs kl z))⟩
    | _ => none
  | _, _ => none
def fewD (ρ : S) : DV → Bool
  | .o k => match obK ρ k with
    | .dk kvs => decide (kvs.length < sizeLine)
    | .dt kvs => decide (kvs.length < sizeLine)
    | _ => false
  | _ => false
def wPut (wo wi wv : WE) : WS := fun E ρ => wv ρ (fun z ρ1 => wo ρ1 (fun x ρ2 => wi ρ2 (fun y ρ3 => fewD ρ3 x = true ∧ match putR ρ3 x y z with
  | some ρ4 => E.nx ρ4
  | none => False) E.xr) E.xr) E.xr
theorem pds_put (ho : PD T o wo) (hi : PD T i wi) (hv : PD T value wv) (hs : ∀ env, swapsWith value (some (.Subscript o i pos')) pos.line env = pure false := by intro _; rfl) : PDS T (.Assign [.Subscript o i pos'] value pos) (wPut wo wi wv) := by
  obtain ⟨to, ho, d1⟩ := ho
  obtain ⟨ti, hi, d2⟩ := hi
  obtain ⟨tv, hv, d3⟩ := hv
  refine ⟨fun W => sDPut (to W) (ti W) (tv W), fun W X g tk => ps_dput (u1 g.room.units) (ho W X g tk) (hi W X g tk) (hv W X g tk) (hs _), fun ρ E h W σ F G H as ok acc D l => ?_⟩
  refine d3 _ _ _ h W σ F G H as ok (acc.at σ) _ fun z ρ1 v G1 H1 as1 h1 ok1 n1 r1 => ?_
  refine d1 _ _ _ h1 W σ F G1 H1 as1 ok1 ((acc.next n1).at σ) _ fun x ρ2 vx G2 H2 as2 h2 ok2 n2 r2 => ?_
  refine d2 _ _ _ h2 W σ F G2 H2 as2 ok2 ((acc.next (n1.trans n2)).at σ) _ fun y ρ3 vy G3 H3 as3 h3 ok3 n3 r3 => ?_
  obtain ⟨hf, h3⟩ := h3
  have n := (n1.trans n2).trans n3
  have rz := r1.mono (n2.trans n3)
  have rx := r2.mono n3
  match x, y, h3, hf, rx, r3 with
  | .o m, .d y, h3, hf, rx, ry =>
    unfold putR at h3
    unfold fewD at hf
    cases e : obK ρ3 m with
    | dk kvs =>
      simp only [e] at h3 hf
      cases e2 : toK y with
      | none => simp [e2] at h3
      | some kk =>
        simp only [e2, Option.map_some] at h3
        obtain ⟨a, rfl, ha, hk, ws, hw, hm, rr⟩ := repO ok3 rx e (by intro z; cases z)
        have ey : vy = kV kk := by
          rw [toK_eq e2] at ry
          cases kk with
          | inl i => exact repI ry
          | inr i => exact repS ry
        obtain ⟨p1, p2⟩ := put_rep kk rz hm rr
        have len : ws.length = kvs.length := by
          have := congrArg List.length hm
          rwa [List.length_map, List.length_map] at this
        refine ⟨a, _, rfl, by rw [ey]; exact DPut.k hw (by rw [len]; exact of_decide_eq_true hf), ?_⟩
        exact l.nx _ σ G3 _ as3 h3 (ok3.wr (y := .dk (putD kvs kk z)) ha hk (by intro z; cases z) ⟨_, upd_same, p1, p2⟩) n
    | dt kvs =>
      simp only [e] at h3 hf
      cases e2 : tkey y with
      | none => simp [e2] at h3
      | some kl =>
        simp only [e2, Option.map_some] at h3
        obtain ⟨a, rfl, ha, hk, ws, hw, hm, rr⟩ := repO ok3 rx e (by intro z; cases z)
        obtain ⟨b, rfl, hb⟩ := tup_key ry e2
        obtain ⟨p1, p2⟩ := put_rep kl rz hm rr
        have len : ws.length = kvs.length := by
          have := congrArg List.length hm
          rwa [List.length_map, List.length_map] at this
        refine ⟨a, _, rfl, DPut.t hw (ok3.mem.gh _ _ hb) (by rw [len]; exact of_decide_eq_true hf), ?_⟩
        exact l.nx _ σ G3 _ as3 h3 (ok3.wr (y := .dt (putD kvs kl z)) ha hk (by intro z; cases z) ⟨_, upd_same, p1, p2⟩) n
    | lst _ => simp only [e] at h3
    | gone => simp only [e] at h3
/-- {}: keys that are tuples, other keys -/
def wNewT : WE := fun ρ Q _ => Q (.o ρ.ob.length) ⟨ρ.sl, ρ.ob ++ [.dt []]⟩
def wNewK : WE := fun ρ Q _ => Q (.o ρ.ob.length) ⟨ρ.sl, ρ.ob ++ [.dk []]⟩
theorem mineX {F G H : Hp} {as : List Addr} {ρ : S} {σ : St} {Q : QD} {C : VK} {p : Addr} {o : HO} {x : OB} (k : Kv K F G as σ Q C) (ok : Ok K ρ σ F G H as) (hp : H p = none) (hx : ObAt K G (upd H p o) (as ++ [p]) p x) (q : Q (.o ρ.ob.length) ⟨ρ.sl, ρ.ob ++ [x]⟩) : C (.ref p) (upd H p o) := by
  refine k _ _ _ G _ (as ++ [p]) q (ok.mine (x := x) hp hx) ⟨Same.refl _, [p], rfl⟩ ⟨p, ?_, rfl⟩
  rw [← ok.mem.len]
  exact get_last _ _
theorem pd_newT : PD T (.Dict [] [] pos) wNewT := ⟨fun _ => tDNewT, fun _ _ _ _ => pe_dnewT, fun ρ Q X h W σ F G H as ok acc C k p hp => mineX (x := .dt []) k ok hp ⟨[], upd_same, rfl, .nil⟩ h⟩
theorem pd_newK : PD T (.Dict [] [] pos) wNewK := ⟨fun _ => tDNewK, fun _ _ _ _ => pe_dnewK, fun ρ Q X h W σ F G H as ok acc C k p hp => mineX (x := .dk []) k ok hp ⟨[], upd_same, rfl, .nil⟩ h⟩
end
end DL
end

section
set_option Elab.async false
set_option linter.all false
set_option maxRecDepth 100000
set_option maxHeartbeats 1000000
set_option autoImplicit false
namespace DL
open PySem PySem.Spec PyProof.Rows L2

/-! ### isinstance -/
section
variable {T : Sta} {pos p p2 q apos cpos : Pos} {a b c e f o i value : Expr} {es : List Expr} {wa wb wc we wo wi wv wx : WE} {w : WA} {wt : WT} {K : PySem.W.Frag} {w1 : WS}
/-- the name of a value's type -/
def tyN (ρ : S) : DV → String
  | .d .none => "NoneType"
  | .d (.bool _) => "bool"
  | .d (.int _) => "int"
  | .d (.str _) => "str"
  | .d (.list _) => "list"
  | .d (.tuple _) => "tuple"
  | .d (.dict _) => "dict"
  | .o k => match obK ρ k with
    | .lst _ => "list"
    | .dk _ => "dict"
    | .dt _ => "dict"
    | .gone => "?"
theorem tyN_ok {F G H : Hp} {as : List Addr} {ρ : S} {σ : St} {v : V} {x : DV} (ok : Ok K ρ σ F G H as) (r : RepV K G as v x) (h : tyN ρ x ≠ "?") : TyX K H v (.type (tyN ρ x)) := by
  match x, h, r with
  | .d .none, _, r => cases repNo r; exact .base .non
  | .d (.bool _), _, r => cases repB r; exact .base (.bl _)
  | .d (.int _), _, r => cases repI r; exact .base (.int _)
  | .d (.str _), _, r => cases repS r; exact .base (.str _)
  | .d (.list _), _, r =>
    obtain ⟨a, xs, rfl, hs, _⟩ := repL r
    rcases ok.mem.gh.seq hs with (h | ⟨ob, h⟩) | ⟨ob, its, n, h, hc, _⟩
    · exact .base (.lst h)
    · exact .base (.frz h)
    · exact .kList h hc
  | .d (.tuple _), _, r =>
    obtain ⟨a, xs, rfl, hs, _⟩ := repTt r
    exact .base (.tup (ok.mem.gh _ _ hs))
  | .d (.dict _), _, r =>
    have r : Rep K G v _ := r
    cases r with
    | dK hg _ => exact .base (.dK (ok.mem.gh _ _ hg))
    | dT hg _ => exact .base (.dT (ok.mem.gh _ _ hg))
  | .o n, h, r =>
    unfold tyN at h ⊢
    cases e : obK ρ n with
    | lst xs =>
      obtain ⟨a, rfl, _, _, vs, hv, _⟩ := repO ok r e (by intro z; cases z)
      simp only [e]
      exact .base (.lst hv)
    | dk xs =>
      obtain ⟨a, rfl, _, _, vs, hv, _⟩ := repO ok r e (by intro z; cases z)
      simp only [e]
      exact .base (.dK hv)
    | dt xs =>
      obtain ⟨a, rfl, _, _, vs, hv, _⟩ := repO ok r e (by intro z; cases z)
      simp only [e]
      exact .base (.dT hv)
    | gone => simp [e] at h
/-- isinstance(x, T), by the types' names -/
def isiN (t u : String) : Option Bool := kitB t u
def dIsi (u : String) : DV → S → QD → Prop := fun x ρ Q => tyN ρ x ≠ "?" ∧ ∃ b, kitB (tyN ρ x) u = some b ∧ Q (.d (.bool b)) ρ
theorem pd_isi {x : Str} {u : String} (ha : PD T e we) (hg : T.sc.names.lookup ("isinstance" : Str) = some .globalImplicit) (hm : T.mg "isinstance" = none) (hg2 : T.sc.names.lookup x = some .globalImplicit) (hm2 : T.mg x = none) (hv : bootBuiltins x = some (.type u))
    (hn : x ≠ "__name__" := by decide) (hdb : (x == ("__debug__" : Str)) = false := by decide)
    (he : ∀ env, starEach [e, .Name x q] env = (false, eval e env) :: starEach [.Name x q] env := by intro _; rfl) : PD T (.Call (.Name "isinstance" p) [e, .Name x q] [] pos) (wUn (dIsi u) we) := by
  obtain ⟨te, he', d⟩ := ha
  refine ⟨fun W => tCB (rIsi T.K) (tCons (te W) (tCons (tC (.ty u)) tNil)), fun W X g tk => ?_, fun ρ Q X h W σ F G H as ok acc C k => ?_⟩
  · rw [← g.K]
    refine pe_callB call_isi (by show X.env.scope.names.lookup _ = _; rw [g.sc]; exact hg) (by rw [g.mg]; exact hm) (by decide +kernel) (pa_cons (he' W X g tk) (pa_cons (pe_bltn (by show X.env.scope.names.lookup x = _; rw [g.sc]; exact hg2) (by rw [g.mg]; exact hm2) hv rfl hn hdb) pa_nil rfl) (he _)) (by decide) (by decide) (he _) rfl
  · refine d _ _ _ h W σ F G H as ok acc _ fun x ρ1 v G1 H1 as1 h1 ok1 n1 r1 => ?_
    obtain ⟨h0, b, hb, q⟩ := h1
    exact ⟨v, .ty u, .type _, .type u, b, rfl, .ty u, tyN_ok ok1 r1 h0, kit_ty hb, (k.next n1).same ok1 q (.bl _)⟩

/-! ### < of data -/
def rLtDD (K : PySem.W.Frag) : R2 := fun x y H Q => ∃ d e, Dp K H x d ∧ Dp K H y e ∧ PySem.W.alike d e = true ∧ d ≠ .none ∧ d.depth ≤ 60 ∧ Q (.bl (PySem.W.dataLt d e)) H
theorem op_ltDD {X : Cx} (hu : X.A.units + 64 < cLine) : OpR X (compareOp .Lt) (rLtDD X.K) := by
  intro pins s σ H x y v u Q I rx ry h
  obtain ⟨d, e, hd, he, al, hn, hp, q⟩ := h
  obtain ⟨as, r1⟩ := Dp.reads I d x v hd rx
  obtain ⟨bs, r2⟩ := Dp.reads I e y u he ry
  exact PySem.W.rcLt_alike d e X.A s v u as bs r1 r2 al hn (by have := Nat.min_le_left d.depth e.depth; omega) X.prog X.w _ _ ⟨.bl _, H, I, rfl, q⟩
def Lts (d e : PyData) : Prop := PySem.W.alike d e = true ∧ d.hasDict = false ∧ e.hasDict = false ∧ isNn d = false ∧ d.depth ≤ 60
def dLtD : DV → DV → S → QD → Prop := fun x y ρ Q => match x, y with
  | .d d, .d e => Lts d e ∧ Q (.d (.bool (PySem.W.dataLt d e))) ρ
  | _, _ => False
theorem pd_ltD (ha : PD T a wa) (hb : PD T b wb) : PD T (.Compare a [.Lt] [b] pos) (wOp dLtD wa wb) :=
  pd_cmp (r := rLtDD T.K) (fun X k _ u => by rw [← k]; exact op_ltDD u) (fun x y ρ Q h σ F G H as v u ok rx ry C k => by
    match x, y, h, rx, ry with
    | .d d, .d e, ⟨⟨h1, h2, h3, h4, h5⟩, q⟩, rx, ry =>
      exact ⟨d, e, rep_dp ok.mem.gh d v rx h2, rep_dp ok.mem.gh e u ry h3, h1, (fun z => by subst z; cases h4), h5, k.same ok q (.bl _)⟩) ha hb

/-! ### list(range(n)) -/
def dLrg : DV → S → QD → Prop := fun x ρ Q => match x with
  | .d (.int n) => RgOk 0 n ∧ Q (.o ρ.ob.length) ⟨ρ.sl, ρ.ob ++ [.lst ((rng 0 n.toNat).map .d)]⟩
  | _ => False
theorem reps_mapR {α : Type} {K : PySem.W.Frag} {G : Hp} {f : α → V} {g : α → PyData} (h : ∀ x, Rep K G (f x) (g x)) : ∀ l : List α, Reps K G (l.map f) (l.map g)
  | [] => .nil
  | x :: r => .cons (h x) (reps_mapR h r)
theorem reps_rg {K : PySem.W.Frag} {G : Hp} (n : Int) : Reps K G (rgV 0 n) (rng 0 n.toNat) := by
  unfold rgV rng
  rw [Int.sub_zero]
  exact reps_mapR (fun i => .int _) _
theorem pd_listRg (ha : PD T e we) (hg : T.sc.names.lookup ("range" : Str) = some .globalImplicit) (hm : T.mg "range" = none) (hg2 : T.sc.names.lookup ("list" : Str) = some .globalImplicit) (hm2 : T.mg "list" = none)
    (na : ∀ env, starEach [e] env = (false, eval e env) :: starEach [] env := by intro _; rfl)
    (nb : ∀ env, starEach [.Call (.Name "range" p2) [e] [] q] env = (false, eval (.Call (.Name "range" p2) [e] [] q) env) :: starEach [] env := by intro _; rfl) :
    PD T (.Call (.Name "list" p) [.Call (.Name "range" p2) [e] [] q] [] pos) (wUn dLrg we) := by
  obtain ⟨te, he, d⟩ := ha
  refine ⟨fun W => tLstRg (tRg1 (te W)), fun W X g tk => ?_, fun ρ Q X h W σ F G H as ok acc C k => ?_⟩
  · exact pe_listRg g.calm (by show X.env.scope.names.lookup _ = _; rw [g.sc]; exact hg2) (by rw [g.mg]; exact hm2) (prg_1 (by show X.env.scope.names.lookup _ = _; rw [g.sc]; exact hg) (by rw [g.mg]; exact hm) (he W X g tk) (na _)) (nb _)
  · refine d _ _ _ h W σ F G H as ok acc _ fun x ρ1 v G1 H1 as1 h1 ok1 n1 r1 => ?_
    match x, h1, r1 with
    | .d (.int n), ⟨hr, h1⟩, r1 =>
      cases repI r1
      exact ⟨n, rfl, hr, fun p hp => mineL (k.next n1) ok1 hp (RepVs.of (reps_rg n)) h1⟩
/-! ### t * n, sum of a tuple -/
def repD (n : Nat) (ds : List PyData) : List PyData := (List.replicate n ds).flatten
theorem reps_rep {K : PySem.W.Frag} {G : Hp} {xs : List V} {ds : List PyData} (r : Reps K G xs ds) : ∀ n : Nat, Reps K G (List.replicate n xs).flatten (repD n ds)
  | 0 => .nil
  | n + 1 => by
    unfold repD
    rw [List.replicate_succ, List.replicate_succ, List.flatten_cons, List.flatten_cons]
    exact r.append (reps_rep r n)
def dRep : DV → DV → S → QD → Prop := fun x y ρ Q => match x, y with
  | .d (.tuple ds), .d (.int k) => ds ≠ [] ∧ 2 ≤ k ∧ k ≤ 1000 ∧ ds.length ≤ 1000 ∧ Q (.d (.tuple (repD k.toNat ds))) ρ
  | _, _ => False
theorem pd_repT (ha : PD T a wa) (hb : PD T b wb) : PD T (.BinOp a .Mult b pos) (wOp dRep wa wb) :=
  pd_op (r := rRepT T.K) (fun X k _ _ => by rw [← k]; exact op_repT) (fun x y ρ Q h σ F G H as v u ok rx ry C k => by
    match x, y, h, rx, ry with
    | .d (.tuple ds), .d (.int n), ⟨h1, h2, h3, h4, q⟩, rx, ry =>
      cases repI ry
      obtain ⟨a, xs, rfl, hs, r⟩ := repT rx
      refine ⟨a, n, xs, rfl, rfl, same_sqT ok.mem.gh hs, ?_, h2, h3, by rw [r.length]; exact h4, fun p hp => ?_⟩
      · intro z
        subst z
        cases r
        exact h1 rfl
      · exact k.data ok hp q (.tup upd_same ((reps_rep r _).mono (same_new (ok.mem.fresh hp).1)))) ha hb
theorem sum_tupG {prog : Program} {w : World} {A : Around} {E : Value → Shared → Prop} {s : Shared} {l : Addr} {xs : Array (Int × Tok)} {Q : Value → Shared → Prop} (hh : A.handled = none) (hl : s.heap.IsTuple l (intItems xs))
    (h : ∀ h' tk t', (∀ b o, s.heap.get? b = some o → h'.get? b = some o) → Q (.int (preSum (numAt xs) xs.size) t') { s with heap := h', toks := tk }) :
    wpAny (model prog w) A (call (.builtin "sum") [.ref l]) Q E s := by
  have hlt : l < s.heap.objs.size := by obtain ⟨_, e, _⟩ := hl; exact Heap.lt_size e
  have e1 : (s.heap.push (tupIt l)).objs.size = s.heap.objs.size + 1 := Heap.size_push ..
  refine call_sum_walkG (wpAny_pyIter_tuple hl ⟨_, _, _, _, _, _, numAt xs, rfl, Walks.tuple (A := A.in1) hh s.heap.objs.size l (Nat.ne_of_lt hlt) (intItems xs), ⟨⟨_, Heap.get?_push_size _ rfl, rfl, rfl⟩, ?_⟩, fun b hb => ?_, fun _ _ => intItems_at, fun h' tk t' hk => ?_⟩)
  · exact hl.at fun o q => Heap.get?_push_of_some _ q
  · show b < (s.heap.push (tupIt l)).objs.size
    rw [e1]
    rcases List.mem_cons.mp hb with rfl | hb
    · exact Nat.lt_succ_self _
    · cases List.mem_singleton.mp hb
      exact Nat.lt_succ_of_lt hlt
  · have := h h' tk t' fun b o e => hk b o (fun hm => absurd (Heap.lt_size e) (by cases List.mem_singleton.mp hm; exact Nat.lt_irrefl _)) (Heap.get?_push_of_some _ e)
    simpa [intItems] using this
def rSumT (K : PySem.W.Frag) : List V → Hp → VK → Prop := fun vs H Q => ∃ (a : Addr) (ns : List Int), vs = [V.ref a] ∧ SqT K H a (ns.map V.int) ∧ Q (.int ns.sum) H
theorem cr_sumT {X : Cx} (hc : X.calm = true) : CallR X (.builtin "sum") (rSumT X.K) := by
  intro pins s σ H vs us Q I r h
  obtain ⟨a, ns, rfl, hs, q⟩ := h
  obtain ⟨its, rv, hl, _⟩ := I.tuple hs
  rw [Vals.ref1 r]
  have hi := intsAre_of rv
  obtain ⟨xs, e⟩ := hi.allInts.items
  have hn : PySem.numsOf (intItems xs).toList = ns := by rw [← e]; exact hi.numsOf
  rw [nums_intItems] at hn
  have hl : s.heap.IsTuple a its.toArray := hl
  have e : its.toArray = intItems xs := e
  rw [e] at hl
  refine sum_tupG (I.ok.hd hc) hl fun h' tk t' hk => ?_
  rw [preSum_eq, List.take_of_length_le (by simp), hn]
  exact ⟨.int _, H, I.kept hk, ⟨_, rfl⟩, q⟩
/-- the whole numbers of data -/
def intsOf : List PyData → Option (List Int)
  | [] => some []
  | .int i :: r => (intsOf r).map (i :: ·)
  | _ :: _ => none
theorem intsOf_eq : ∀ {l : List PyData} {bs : List Int}, intsOf l = some bs → l = bs.map .int
  | [], bs, h => by
    have h : some [] = some bs := h
    cases h
    rfl
  | .int b :: r, bs, h => by
    have h : (intsOf r).map (b :: ·) = some bs := h
    cases e : intsOf r with
    | none => rw [e] at h; cases h
    | some l =>
      rw [e] at h
      cases h
      rw [intsOf_eq e]
      rfl
  | .none :: _, bs, h => by cases h
  | .bool _ :: _, bs, h => by cases h
  | .str _ :: _, bs, h => by cases h
  | .list _ :: _, bs, h => by cases h
  | .tuple _ :: _, bs, h => by cases h
  | .dict _ :: _, bs, h => by cases h
theorem intsOf_map (bs : List Int) : intsOf (bs.map .int) = some bs := by
  induction bs with
  | nil => rfl
  | cons b r ih =>
    show (intsOf (r.map .int)).map (b :: ·) = _
    rw [ih]
    rfl
theorem reps_int {K : PySem.W.Frag} {G : Hp} : ∀ {xs : List V} {bs : List Int}, Reps K G xs (bs.map .int) → xs = bs.map V.int
  | _, [], h => by cases h; rfl
  | _, b :: r, h => by
    cases h with
    | cons h hs =>
      cases h
      rw [reps_int hs]
      rfl
def dSumT : List DV → S → QD → Prop := fun xs ρ Q => match xs with
  | [.d (.tuple ds)] => ∃ ns, intsOf ds = some ns ∧ Q (.d (.int ns.sum)) ρ
  | _ => False
theorem pd_sumT (hg : T.sc.names.lookup ("sum" : Str) = some .globalImplicit) (hm : T.mg "sum" = none) (ha : PDA T [e] w) (he : ∀ env, starEach [e] env = (false, eval e env) :: starEach [] env := by intro _; rfl) : PD T (.Call (.Name "sum" p) [e] [] pos) (wCa dSumT w) :=
  pd_callB (r := rSumT T.K) (id := "sum") (fun X k _ _ c _ _ => by rw [← k]; exact cr_sumT c) (fun x ρ Q h σ F G H as v ok r C k => by
    match x, h, r with
    | [.d (.tuple ds)], ⟨ns, e, q⟩, .cons (v := v) r .nil =>
      obtain ⟨a, xs, rfl, hs, rr⟩ := repT r
      rw [intsOf_eq e] at rr
      rw [reps_int rr] at hs
      exact ⟨a, ns, rfl, same_sqT ok.mem.gh hs, k.same ok q (.int _)⟩) hg hm (by decide +kernel) ha (he := he) (hpl := fun _ => rfl)
/-! ### xs[::-1] -/
def dRevL : DV → S → QD → Prop := fun x ρ Q => ∃ ds, lstOf ρ x = some ds ∧ Q (.o ρ.ob.length) ⟨ρ.sl, ρ.ob ++ [.lst (ds.reverse.map .d)]⟩
theorem pd_revL {k : Nat} {p1 p3 : Pos} (ha : PD T e we) : PD T (.Subscript e (.Slice none none (some (.UnaryOp .USub (.Constant (.int 1) k p1) p2)) p3) pos) (wUn dRevL we) := by
  obtain ⟨te, he, d⟩ := ha
  refine ⟨fun W => tRevL T.K (te W), fun W X g tk => by rw [← g.K]; exact pe_revL (he W X g tk), fun ρ Q X h W σ F G H as ok acc C kk => ?_⟩
  refine d _ _ _ h W σ F G H as ok acc _ fun x ρ1 v G1 H1 as1 h1 ok1 n1 r1 => ?_
  obtain ⟨ds, e, q⟩ := h1
  obtain ⟨a, xs, rfl, hs, rr⟩ := lstOf_rep ok1 r1 e
  exact ⟨a, xs, rfl, hs, fun p hp => mineL (kk.next n1) ok1 hp (RepVs.of rr.reverse) q⟩
end
end DL
end

section
set_option Elab.async false
set_option linter.all false
set_option maxRecDepth 100000
set_option maxHeartbeats 1000000
set_option autoImplicit false
namespace DL
open PySem PySem.Spec PyProof.Rows L2

section
variable {T : Sta} {pos p p2 q : Pos} {a b c e tg elt iter tg1 iter1 : Expr} {es : List Expr} {wa wb wc we : WE} {w : WA} {wt : WT} {K : PySem.W.Frag}
/-! ### [.. for .. for ..] -/
def wLc2 (wi : WI) (wg : WG) (wi1 : WI) (wg1 : WG) (we : WE) (vs vs1 : List Nat) : WE := fun ρ Q X => wi ρ (fun xs ρ1 => ∃ f : PyData → List PyData, (xs.flatMap f).length ≤ sizeLine ∧
  (∀ (i : Nat) (x : PyData), xs[i]? = some x → ∀ l : List PyData, wg (.d x) ⟨wipeS ρ1.sl vs, ρ1.ob ++ [.lst (l.map .d)]⟩ fun ρ2 => wi1 ρ2 (fun ys ρ3 => ρ3.ob = ρ1.ob ++ [.lst (l.map .d)] ∧ ys.length = (f x).length ∧
    ∀ (j : Nat) (y : PyData), ys[j]? = some y → ∀ l' : List PyData, wg1 (.d y) ⟨wipeS ρ3.sl vs1, ρ1.ob ++ [.lst (l'.map .d)]⟩ fun ρ4 => we ρ4 (fun z ρ5 => ρ5.ob = ρ1.ob ++ [.lst (l'.map .d)] ∧ ∃ dz, (f x)[j]? = some dz ∧ z = .d dz) X0) X0) ∧
  Q (.o ρ1.ob.length) ⟨ρ1.sl, ρ1.ob ++ [.lst ((xs.flatMap f).map .d)]⟩) X
theorem flat_take {f : PyData → List PyData} {xs : List PyData} {i : Nat} {x : PyData} (h : xs[i]? = some x) : (xs.take (i + 1)).flatMap f = (xs.take i).flatMap f ++ f x := by
  rw [List.take_succ, h, List.flatMap_append]
  simp
theorem flat_len {f : PyData → List PyData} {xs : List PyData} {i : Nat} : ((xs.take i).flatMap f).length ≤ (xs.flatMap f).length := by
  have : xs.flatMap f = (xs.take i).flatMap f ++ (xs.drop i).flatMap f := by rw [← List.flatMap_append, List.take_append_drop]
  rw [this, List.length_append]
  omega
theorem same_as {as0 as2 : List Addr} {n : Nat} (h : ∃ r, as2 = as0 ++ r) (l : as2.length = n) (l0 : as0.length = n) : as2 = as0 := by
  obtain ⟨r, e⟩ := h
  have : r = [] := by
    rw [e, List.length_append] at l
    exact List.length_eq_zero_iff.mp (by omega)
  rw [e, this, List.append_nil]
theorem wipe_wipe (σ : St) (vs : List Nat) : L2.wipe (L2.wipe σ vs) vs = L2.wipe σ vs := by
  apply List.ext_getElem?
  intro j
  rw [wipe_get, wipe_get, wipe_length]
  by_cases hv : j ∈ vs ∧ j < σ.length
  · rw [if_pos hv, if_pos hv]
  · rw [if_neg hv, if_neg hv]
theorem yesIte {σ : St} {H : Hp} {A B : Hp → Prop} (h : A H) : tYes σ H (fun b H' => if b = true then A H' else B H') := by
  show if true = true then A H else B H
  rw [if_pos rfl]
  exact h
theorem de_lc2 {ti : WX → TI} {wi wi1 : WI} {g g1 : TG} {wg wg1 : WG} {js js1 vs vs1 : List Nat} {ti1 : TI} {te : TE} (di : ∀ ρ Q X, wi ρ Q X → DI K ti ρ Q X) (dg : DG K g wg js) (di1 : ∀ ρ Q, wi1 ρ Q X0 → DI K (fun _ => ti1) ρ Q X0) (dg1 : DG K g1 wg1 js1)
    (de : ∀ ρ Q, we ρ Q X0 → DE K (fun _ => te) ρ Q X0) (hj : ∀ j ∈ js, j ∈ vs) (hj1 : ∀ j ∈ js1, j ∈ vs1) {ρ : S} {Q : QD} {X : QX} (h : wLc2 wi wg wi1 wg1 we vs vs1 ρ Q X) : DE K (fun W => tLc2 (ti W) g tYes ti1 g1 tYes te vs vs1) ρ Q X := by
  intro W σ F G H as ok acc C k
  refine di _ _ _ h W σ F G H as ok acc _ fun xs ρ1 G1 H1 as1 J h1 ok1 n1 it D hD => ?_
  obtain ⟨f, hz, hst, hd⟩ := h1
  have al : as1.length = ρ1.ob.length := ok1.mem.len
  have nD : Nxt G1 as1 G1 (as1 ++ [D]) := ⟨Same.refl _, [D], rfl⟩
  have lN : ∀ {l : List PyData}, (ρ1.ob ++ [OB.lst (l.map .d)]).length = ρ1.ob.length + 1 := fun {l} => by rw [List.length_append]; rfl
  have lA : (as1 ++ [D]).length = ρ1.ob.length + 1 := by rw [List.length_append, al]; rfl
  have ok0 : Ok K ⟨ρ1.sl, ρ1.ob ++ [.lst ((((xs.take 0).flatMap f)).map .d)]⟩ σ F G1 (upd H1 D (.lst [])) (as1 ++ [D]) := ok1.mine (x := .lst []) hD ⟨[], upd_same, .nil⟩
  refine ⟨fun i m H => m = xs.length - i ∧ i ≤ xs.length ∧ ∃ (G' : Hp), Ok K ⟨ρ1.sl, ρ1.ob ++ [.lst (((xs.take i).flatMap f).map .d)]⟩ σ F G' H (as1 ++ [D]) ∧ Same G1 G',
    ⟨xs.length, by simp, Nat.zero_le _, G1, ok0, Same.refl _⟩, ?_⟩
  rintro i m H2 ⟨rfl, hi, G2, ok2, s2⟩
  by_cases hlt : i < xs.length
  · refine .inr ⟨it.go i H2 hlt (s2.trans ok2.mem.gh), fun H' => i + 1 ≤ xs.length ∧ ∃ (G' : Hp), Ok K ⟨ρ1.sl, ρ1.ob ++ [.lst (((xs.take (i + 1)).flatMap f).map .d)]⟩ σ F G' H' (as1 ++ [D]) ∧ Same G1 G',
      fun H' hN => ⟨xs.length - (i + 1), by omega, rfl, hN⟩, fun x H' y => ?_⟩
    have hx : xs[i]? = some xs[i] := by simp [hlt]
    obtain ⟨G3, m3, s3, r3⟩ := it.yld i _ hx F G2 H2 _ _ s2 ok2.mem x H' y
    have ok3 := ok2.to m3 ⟨s3, [], (List.append_nil _).symm⟩
    refine dg (.d xs[i]) _ _ (hst i _ hx _) (L2.wipe σ vs) F G3 H' (as1 ++ [D]) x (ok3.wipe vs) r3 _ fun ρ4 σ4 G4 H4 as4 q4 ok4 n4 w4 => ⟨by rw [w4 vs hj, wipe_wipe], ?_⟩
    refine yesIte ?_
    refine di1 _ _ q4 W0 σ4 F G4 H4 as4 ok4 acc0 _ fun ys ρ5 G5 H5 as5 J1 q5 ok5 n5 it1 => ?_
    obtain ⟨e5, hyl, hin⟩ := q5
    have n45 := n4.trans n5
    have e5a : as5 = as1 ++ [D] := same_as n45.a (by rw [ok5.mem.len, e5, lN]) lA
    subst e5a
    have ok5' : Ok K ⟨ρ5.sl, ρ1.ob ++ [.lst (((xs.take i).flatMap f ++ (f xs[i]).take 0).map .d)]⟩ σ4 F G5 H5 (as1 ++ [D]) := by
      rw [List.take_zero, List.append_nil, ← e5]
      exact ok5
    refine ⟨fun j k H => k = ys.length - j ∧ j ≤ ys.length ∧ ∃ (G' : Hp), Ok K ⟨ρ5.sl, ρ1.ob ++ [.lst (((xs.take i).flatMap f ++ (f xs[i]).take j).map .d)]⟩ σ4 F G' H (as1 ++ [D]) ∧ Same G5 G',
      ⟨ys.length, by simp, Nat.zero_le _, G5, ok5', Same.refl _⟩, ?_⟩
    rintro j m H6 ⟨rfl, hjl, G6, ok6, s6⟩
    by_cases hlt1 : j < ys.length
    · refine .inr ⟨it1.go j H6 hlt1 (s6.trans ok6.mem.gh), fun H' => j + 1 ≤ ys.length ∧ ∃ (G' : Hp), Ok K ⟨ρ5.sl, ρ1.ob ++ [.lst (((xs.take i).flatMap f ++ (f xs[i]).take (j + 1)).map .d)]⟩ σ4 F G' H' (as1 ++ [D]) ∧ Same G5 G',
        fun H' hN => ⟨ys.length - (j + 1), by omega, rfl, hN⟩, fun x' H' y' => ?_⟩
      have hy : ys[j]? = some ys[j] := by simp [hlt1]
      obtain ⟨G7, m7, s7, r7⟩ := it1.yld j _ hy F G6 H6 _ _ s6 ok6.mem x' H' y'
      have ok7 := ok6.to m7 ⟨s7, [], (List.append_nil _).symm⟩
      refine dg1 (.d ys[j]) _ _ (hin j _ hy _) (L2.wipe σ4 vs1) F G7 H' (as1 ++ [D]) x' (ok7.wipe vs1) r7 _ fun ρ8 σ8 G8 H8 as8 q8 ok8 n8 w8 => ⟨by rw [w8 vs1 hj1, wipe_wipe], ?_⟩
      refine yesIte ?_
      refine de _ _ q8 W0 σ8 F G8 H8 as8 ok8 acc0 _ fun z ρ9 v G9 H9 as9 q9 ok9 n9 r9 => ?_
      obtain ⟨e9, dz, hdz, rfl⟩ := q9
      have n89 := n8.trans n9
      have e9a : as9 = as1 ++ [D] := same_as n89.a (by rw [ok9.mem.len, e9, lN]) lA
      subst e9a
      have hN : (as1 ++ [D])[ρ1.ob.length]? = some D := by rw [← al]; exact get_last _ _
      have ho : ρ9.ob[ρ1.ob.length]? = some (.lst (((xs.take i).flatMap f ++ (f xs[i]).take j).map .d)) := by rw [e9]; exact get_last _ _
      obtain ⟨avs, ha, hr⟩ := ok9.mem.at_ _ _ _ hN ho
      have hra := hr.to
      have hnew : ((xs.take i).flatMap f ++ (f xs[i]).take j) ++ [dz] = (xs.take i).flatMap f ++ (f xs[i]).take (j + 1) := by
        rw [List.take_succ, hdz, List.append_assoc]
        rfl
      refine ⟨avs, ha, ?_, hlt1, G9, ?_, (s6.trans s7).trans n89.g⟩
      · rw [hra.length]
        have q1 : ((xs.take (i + 1)).flatMap f).length ≤ (xs.flatMap f).length := flat_len
        rw [flat_take hx, List.length_append] at q1
        have q2 : j < (f xs[i]).length := (List.getElem?_eq_some_iff.mp hdz).1
        rw [List.length_append, List.length_take]
        omega
      · have m10 := ok9.mem.wr (o := .lst (avs ++ [v])) (y := .lst ((((xs.take i).flatMap f ++ (f xs[i]).take j) ++ [dz]).map .d)) hN ho (by intro z; cases z) ⟨avs ++ [v], upd_same, RepVs.of (hra.append (.cons r9 .nil))⟩
        have e10 : ρ9.ob.set ρ1.ob.length (.lst ((((xs.take i).flatMap f ++ (f xs[i]).take j) ++ [dz]).map .d)) = ρ1.ob ++ [.lst (((xs.take i).flatMap f ++ (f xs[i]).take (j + 1)).map .d)] := by
          rw [e9, List.set_append_right _ _ (Nat.le_refl _), Nat.sub_self, hnew]
          rfl
        rw [e10] at m10
        exact ok7.to m10 n89
    · have e : j = ys.length := by omega
      subst e
      refine .inl ⟨it1.stop H6 (s6.trans ok6.mem.gh), hlt, G6, ?_, (s2.trans s3).trans (n45.g.trans s6)⟩
      have : (xs.take (i + 1)).flatMap f = (xs.take i).flatMap f ++ (f xs[i]).take ys.length := by rw [flat_take hx, hyl, List.take_length]
      rw [this]
      exact ok3.to ok6.mem ⟨n45.g.trans s6, [], (List.append_nil _).symm⟩
  · have e : i = xs.length := by omega
    subst e
    rw [List.take_length] at ok2
    refine .inl ⟨it.stop H2 (s2.trans ok2.mem.gh), ?_⟩
    refine (k.next n1) (.o ρ1.ob.length) _ (.ref D) G2 H2 (as1 ++ [D]) hd ok2 ⟨s2, [D], rfl⟩ ⟨D, ?_, rfl⟩
    rw [← al]
    exact get_last _ _
theorem pd_lc2 {scope : Scope} {own : List (Str × Nat)} {wi wi1 : WI} {wg wg1 : WG} {js js1 : List Nat} (vs1 : List Nat) (hi : PDI T tg iter wi) (ok : BlkOk T.N T.sc scope own) (hg : PDG (blkT T scope) tg wg js) (hi1 : PDI (blkT T scope) tg1 iter1 wi1) (hg1 : PDG (blkT T scope) tg1 wg1 js1) (he : PD (blkT T scope) elt we)
    (hj : ∀ j ∈ js, j ∈ own.map (·.2) := by decide) (hj1 : ∀ j ∈ js1, j ∈ vs1 := by decide) (hv : ∀ j ∈ vs1, j ∈ own.map (·.2) := by decide) (hs : ∀ env x, foldedSetIterable iter env x = pure x := by intro _ _; rfl) (hs1 : ∀ env x, foldedSetIterable iter1 env x = pure x := by intro _ _; rfl) :
    PD T (.ListComp elt [⟨tg, iter, [], 0⟩, ⟨tg1, iter1, [], 0⟩] scope pos) (wLc2 wi wg wi1 wg1 we (own.map (·.2)) vs1) := by
  obtain ⟨ti, hti, di⟩ := hi
  obtain ⟨g, hg, dg⟩ := hg
  obtain ⟨ti1, hti1, di1⟩ := hi1
  obtain ⟨g1, hg1, dg1⟩ := hg1
  obtain ⟨te, he, de⟩ := he
  refine ⟨fun W => tLc2 (ti W) g tYes (ti1 W0) g1 tYes (te W0) (own.map (·.2)) vs1, fun W X gd tk => pe_lc2 gd.calm (by rw [gd.N]; exact gd.nd) (hti W X gd tk) (by rw [gd.N, gd.sc]; exact ok) hv (fun s H C cl fp => hg _ (gd.blk s H scope cl C fp))
    (fun s H C cl fp => pts_nil) (fun s H C cl fp => hti1 W0 _ (gd.blk s H scope cl C fp) takes0) (fun s H C cl fp => hg1 _ (gd.blk s H scope cl C fp)) (fun s H C cl fp => pts_nil)
    (fun s H C cl fp => he W0 _ (gd.blk s H scope cl C fp) takes0) (hs _) (hs1 := hs1), fun ρ Q X h => ?_⟩
  exact de_lc2 (K := T.K) (ti1 := ti1 W0) (te := te W0) di dg (fun ρ Q h W σ F G H as ok acc R k => di1 ρ Q X0 h W0 σ F G H as ok acc0 R k) dg1 (fun ρ Q h W σ F G H as ok acc C k => de ρ Q X0 h W0 σ F G H as ok acc0 C k) hj hj1 h
end
end DL
end

section
set_option Elab.async false
set_option linter.all false
set_option maxRecDepth 100000
set_option maxHeartbeats 1000000
set_option autoImplicit false
namespace DL
open PySem PySem.Spec PyProof.Rows L2

section
variable {T : Sta} {pos p p2 q : Pos} {a b c e o i v tg elt iter tg1 iter1 : Expr} {es : List Expr} {wa wb wc we wo wi wv : WE} {w : WA} {wt : WT} {K : PySem.W.Frag}
/-! ### {text: value, ..} -/
def PDP (T : Sta) (pos : Pos) (ks : List Str) (keys : List (Option Expr)) (values : List Expr) (w : WA) : Prop := ∃ trs : WX → List (TE × TE), (∀ W X, Good T X → Takes X W → PPs X pos keys values (trs W)) ∧
  ∀ ρ Q Xq, w ρ Q Xq → ∀ (W : WX) (σ : St) (F G H : Hp) (as : List Addr), Ok T.K ρ σ F G H as → AccE T.K F G as σ W Xq → ∀ C : List (V × V) → Hp → Prop,
    (∀ (xs : List DV) (ρ' : S) (vs : List V) (G' H' : Hp) (as' : List Addr), Q xs ρ' → Ok T.K ρ' σ F G' H' as' → Nxt G as G' as' → RepVs T.K G' as' vs xs → vs.length = ks.length → C ((ks.map V.str).zip vs) H') → tPairs (trs W) σ H C
theorem pdp_nil : PDP T pos [] [] [] wNil := ⟨fun _ => [], fun _ _ _ _ => pps_nil, fun ρ Q X h W σ F G H as ok acc C k => k [] ρ [] G H as h ok (Nxt.refl _ _) .nil rfl⟩
theorem pdp_cons {x : Str} {j : Nat} {kp : Pos} {ks : List Str} {keys : List (Option Expr)} {values : List Expr} (ha : PD T v wv) (hr : PDP T pos ks keys values w) : PDP T pos (x :: ks) (some (.Constant (.str x) j kp) :: keys) (v :: values) (wCons wv w) := by
  obtain ⟨ta, ha, da⟩ := ha
  obtain ⟨tr, hr, dr⟩ := hr
  refine ⟨fun W => (tC (.str x), ta W) :: tr W, fun W X g tk => pps_cons pe_str (ha W X g tk) (hr W X g tk), fun ρ Q X h W σ F G H as ok acc C k => ?_⟩
  show ta W σ H fun y H2 => tPairs (tr W) σ H2 fun ps H3 => C ((V.str x, y) :: ps) H3
  refine da _ _ _ h W σ F G H as ok acc _ fun y ρ1 u G1 H1 as1 h1 ok1 n1 r1 => ?_
  refine dr _ _ _ h1 W σ F G1 H1 as1 ok1 (acc.next n1) _ fun xs ρ2 vs G2 H2 as2 h2 ok2 n2 r2 l2 => ?_
  exact k (y :: xs) ρ2 (u :: vs) G2 H2 as2 h2 ok2 (n1.trans n2) (.cons (r1.mono n2) r2) (by rw [List.length_cons, List.length_cons, l2])
def putsD : List (Key × DV) → List Str → List DV → List (Key × DV)
  | kvs, k :: ks, x :: xs => putsD (putD kvs (.inr k) x) ks xs
  | kvs, _, _ => kvs
def wDisp (ks : List Str) (w : WA) : WE := fun ρ Q X => w ⟨ρ.sl, ρ.ob ++ [.dk []]⟩ (fun xs ρ1 => ρ1.ob[ρ.ob.length]? = some (.dk []) ∧ Q (.o ρ.ob.length) ⟨ρ1.sl, ρ1.ob.set ρ.ob.length (.dk (putsD [] ks xs))⟩) X
theorem puts_rep {G : Hp} {as : List Addr} : ∀ (ks : List Str) {vs : List V} {xs : List DV} {ws : List (Key × V)} {kvs : List (Key × DV)}, RepVs K G as vs xs → vs.length = ks.length → ws.map (·.1) = kvs.map (·.1) → RepVs K G as (ws.map (·.2)) (kvs.map (·.2)) →
    (mergeK ws ((ks.map Sum.inr).zip vs)).map (·.1) = (putsD kvs ks xs).map (·.1) ∧ RepVs K G as ((mergeK ws ((ks.map Sum.inr).zip vs)).map (·.2)) ((putsD kvs ks xs).map (·.2))
  | [], vs, xs, ws, kvs, r, l, e, rr => by
    cases r with
    | nil => exact ⟨e, rr⟩
    | cons _ _ => cases l
  | k :: ks, _, _, ws, kvs, .nil, l, e, rr => by cases l
  | k :: ks, _, _, ws, kvs, .cons (v := v) (vs := vs) (d := x) (ds := xs) r1 r, l, e, rr => by
    obtain ⟨p1, p2⟩ := put_rep (Sum.inr k) r1 e rr
    exact puts_rep ks r (Nat.succ.inj l) p1 p2
theorem zip_kv : ∀ (ks : List Str) (vs : List V), (ks.map V.str).zip vs = ((ks.map Sum.inr).zip vs).map (fun kv : Key × V => (kV kv.1, kv.2))
  | [], _ => rfl
  | _ :: _, [] => rfl
  | k :: ks, v :: vs => by
    show (V.str k, v) :: (ks.map V.str).zip vs = (V.str k, v) :: _
    rw [zip_kv ks vs]
    rfl
theorem pd_disp {ks : List Str} {keys : List (Option Expr)} {values : List Expr} (h : PDP T pos ks keys values w) (hall : keys.all (·.isSome) = true) (hl : keys.length = values.length) (h0 : keys ≠ []) (h15 : keys.length ≤ 15) (hk : ks.length ≤ 15) : PD T (.Dict keys values pos) (wDisp ks w) := by
  obtain ⟨tr, hr, dr⟩ := h
  refine ⟨fun W => tDisp (tr W), fun W X g tk => pe_disp (hr W X g tk) hall hl h0 h15, fun ρ Q X h W σ F G H as ok acc C k p hp => ?_⟩
  have ok1 : Ok T.K ⟨ρ.sl, ρ.ob ++ [.dk []]⟩ σ F G (upd H p (.dK [])) (as ++ [p]) := ok.mine (x := .dk []) hp ⟨[], upd_same, rfl, .nil⟩
  have n1 : Nxt G as G (as ++ [p]) := ⟨Same.refl _, [p], rfl⟩
  refine dr _ _ _ h W σ F G _ _ ok1 (acc.next n1) _ fun xs ρ1 vs G2 H2 as2 h2 ok2 n2 r2 l2 => ?_
  obtain ⟨ho, q⟩ := h2
  have hN : (as ++ [p])[ρ.ob.length]? = some p := by rw [← ok.mem.len]; exact get_last _ _
  have hN2 := n2.get hN
  obtain ⟨ws, hw, hm, rr⟩ := ok2.mem.at_ _ _ _ hN2 ho
  have ew : ws = [] := List.map_eq_nil_iff.mp hm
  subst ew
  obtain ⟨p1, p2⟩ := puts_rep ks (ws := []) (kvs := []) r2 l2 rfl .nil
  refine ⟨hw, (ks.map Sum.inr).zip vs, zip_kv ks vs, ?_, ?_⟩
  · rw [List.length_zip, List.length_map]
    omega
  · exact k _ _ _ G2 _ as2 q (ok2.wr (y := .dk (putsD [] ks xs)) hN2 ho (by intro z; cases z) ⟨_, upd_same, p1, p2⟩) (n1.trans n2) ⟨p, hN2, rfl⟩
/-! ### len(set(..)) of tuples of whole numbers -/
def dcn : List (List Int) → Nat
  | [] => 0
  | x :: r => if x ∈ r then dcn r else dcn r + 1
theorem dcn_eq : ∀ (l M : List (List Int)), M.Nodup → (∀ y, y ∈ M ↔ y ∈ l) → M.length = dcn l
  | [], M, hN, h => by
    cases M with
    | nil => rfl
    | cons x r => exact absurd ((h x).mp List.mem_cons_self) (by simp)
  | x :: r, M, hN, h => by
    unfold dcn
    by_cases hx : x ∈ r
    · rw [if_pos hx]
      refine dcn_eq r M hN fun y => (h y).trans ?_
      rw [List.mem_cons]
      exact ⟨fun z => z.elim (fun e => e ▸ hx) id, .inr⟩
    · rw [if_neg hx]
      have hm : x ∈ M := (h x).mpr List.mem_cons_self
      have := dcn_eq r (M.erase x) (hN.erase x) fun y => by
        rw [hN.mem_erase_iff, h y, List.mem_cons]
        refine ⟨fun ⟨h1, h2⟩ => h2.resolve_left h1, fun hy => ⟨fun e => hx (e ▸ hy), .inr hy⟩⟩
      rw [List.length_erase_of_mem hm] at this
      have hp : 0 < M.length := List.length_pos_of_mem hm
      omega
def tLenSetT (K : PySem.W.Frag) (ta : TE) : TE := fun σ H Q => ta σ H fun x H1 => ∃ (l : Addr) (ks : List (Addr × List Int)), x = V.ref l ∧ SqL K H1 l (ks.map fun p => V.ref p.1) ∧ (∀ p ∈ ks, SqT K H1 p.1 (p.2.map V.int)) ∧ ks.length < 64 ∧ Q (.int (dcn (ks.map (·.2)) : Nat)) H1
theorem pe_lenSetT {X : Cx} {a : Expr} {ta : TE} {p p2 q pos : Pos} (hc : X.calm = true) (hu : X.A.units + 64 < cLine) (hg : Gl X "len") (hm : X.mg "len" = none) (hg2 : Gl X "set") (hm2 : X.mg "set" = none) (ha : PE X a ta)
    (na : starEach [a] X.env = (false, eval a X.env) :: starEach [] X.env := by rfl) : PE X (.Call (.Name "len" p) [.Call (.Name "set" p2) [a] [] q] [] pos) (tLenSetT X.K ta) := by
  refine ⟨fun pins s σ H Q I h => ?_⟩
  refine Call_ (ld_blt I hg hm PySem.boot_len ?_)
  refine PyProof.Rows.callWith_builtin1 (PyProof.Rows.args_cons ?_ rfl) rfl rfl
  refine Call_ (ld_blt I hg2 hm2 PyProof.Rows.boot_set ?_)
  refine PyProof.Rows.callWith_type1 (PyProof.Rows.args_cons (thn (ha.run pins s σ H _ I h) fun v s1 ⟨x, H1, I1, r1, q1⟩ => PyProof.Rows.args_nil ?_) na) na rfl
  obtain ⟨l, ks, rfl, hl, hk, hf, q1⟩ := q1
  cases r1
  obtain ⟨its, rv, pl, hz⟩ := I1.list hl
  refine call_set_tups (P := X.prog) (w := X.w) ks (I1.ok.hd hc) pl.isList (by simpa using refs_of_vals rv) (fun p hp => I1.isT (hk p hp)) hf (by omega) fun h' tk L es ep t R g k => ?_
  refine PyProof.Rows.args_nil ?_
  obtain ⟨o, ho, hex, hd⟩ := R.ob
  have I2 : Inv X pins σ H1 { s1 with heap := h', toks := tk } := I1.kept k
  have e : es.size = dcn (ks.map (·.2)) := by
    rw [SetTR.size (s := { s1 with heap := h' }) R]
    have := dcn_eq (ks.map (·.2)) (L.map (·.2)) R.nd fun y => by
      constructor
      · intro hy
        obtain ⟨p, hp, rfl⟩ := List.mem_map.mp hy
        exact List.mem_map.mpr ⟨p, List.mem_of_mem_take (g.sub p hp), rfl⟩
      · intro hy
        obtain ⟨p, hp, rfl⟩ := List.mem_map.mp hy
        exact g.all p (by rw [List.take_length]; exact hp)
    rwa [List.length_map] at this
  have few := R.few
  have sz := SetTR.size (s := { s1 with heap := h' }) R
  refine call_len_set ho hex hd (SetTR.fits (s := { s1 with heap := h' }) R) (by omega) ⟨.int (dcn (ks.map (·.2)) : Nat), H1, I2.tok _, ⟨_, by rw [e]⟩, q1⟩
def rowI : PyData → Option (List Int)
  | .tuple ds => intsOf ds
  | _ => none
def rowsI : List PyData → Option (List (List Int))
  | [] => some []
  | d :: r => match rowI d, rowsI r with
    | some x, some l => some (x :: l)
    | _, _ => none
theorem rowI_eq {d : PyData} {x : List Int} (h : rowI d = some x) : d = .tuple (x.map .int) := by
  cases d with
  | tuple ds => rw [intsOf_eq (show intsOf ds = some x from h)]
  | _ => cases h
theorem rows_rep {G : Hp} : ∀ {xs : List V} {ds : List PyData} {rs : List (List Int)}, Reps K G xs ds → rowsI ds = some rs → ∃ ks : List (Addr × List Int), xs = ks.map (fun p => V.ref p.1) ∧ ks.map (·.2) = rs ∧ ∀ p ∈ ks, G p.1 = some (.tup (p.2.map V.int))
  | _, _, rs, .nil, h => by
    have h : some [] = some rs := h
    cases h
    exact ⟨[], rfl, rfl, fun p hp => nomatch hp⟩
  | _, _, rs, .cons (v := v) (vs := vs) (d := d) (ds := ds) r1 r, h => by
    unfold rowsI at h
    cases e : rowI d with
    | none => rw [e] at h; cases h
    | some x =>
      cases e2 : rowsI ds with
      | none => rw [e, e2] at h; cases h
      | some l =>
        rw [e, e2] at h
        cases h
        obtain ⟨ks, h1, h2, h3⟩ := rows_rep r e2
        rw [rowI_eq e] at r1
        cases r1 with
        | @tup a ys _ hg rr =>
          rw [reps_int rr] at hg
          refine ⟨(a, x) :: ks, by rw [List.map_cons, h1], by rw [List.map_cons, h2], fun p hp => ?_⟩
          rcases List.mem_cons.mp hp with rfl | hp
          · exact hg
          · exact h3 p hp
def dLenSet : DV → S → QD → Prop := fun x ρ Q => ∃ ds rs, lstOf ρ x = some ds ∧ rowsI ds = some rs ∧ rs.length < 64 ∧ Q (.d (.int (dcn rs : Nat))) ρ
theorem lstOf_repG {F G H : Hp} {as : List Addr} {ρ : S} {σ : St} {v : V} {x : DV} {ds : List PyData} (ok : Ok K ρ σ F G H as) (r : RepV K G as v x) (h : lstOf ρ x = some ds) : ∃ a xs, v = .ref a ∧ SqL K H a xs ∧ Reps K G xs ds := lstOf_rep ok r h
theorem pd_lenSet (ha : PD T a wa) (hg : T.sc.names.lookup ("len" : Str) = some .globalImplicit) (hm : T.mg "len" = none) (hg2 : T.sc.names.lookup ("set" : Str) = some .globalImplicit) (hm2 : T.mg "set" = none)
    (na : ∀ env, starEach [a] env = (false, eval a env) :: starEach [] env := by intro _; rfl) : PD T (.Call (.Name "len" p) [.Call (.Name "set" p2) [a] [] q] [] pos) (wUn dLenSet wa) := by
  obtain ⟨te, he, d⟩ := ha
  refine ⟨fun W => tLenSetT T.K (te W), fun W X g tk => ?_, fun ρ Q X h W σ F G H as ok acc C k => ?_⟩
  · rw [← g.K]
    exact pe_lenSetT g.calm g.room.units (by show X.env.scope.names.lookup _ = _; rw [g.sc]; exact hg) (by rw [g.mg]; exact hm) (by show X.env.scope.names.lookup _ = _; rw [g.sc]; exact hg2) (by rw [g.mg]; exact hm2) (he W X g tk) (na _)
  · refine d _ _ _ h W σ F G H as ok acc _ fun x ρ1 v G1 H1 as1 h1 ok1 n1 r1 => ?_
    obtain ⟨ds, rs, e1, e2, hl, q⟩ := h1
    obtain ⟨l, xs, rfl, hs, rr⟩ := lstOf_rep ok1 r1 e1
    obtain ⟨ks, rfl, rfl, hk⟩ := rows_rep rr e2
    exact ⟨l, ks, rfl, hs, fun p hp => SqT.of (ok1.mem.gh _ _ (hk p hp)), by rw [List.length_map] at hl; exact hl, (k.next n1).same ok1 q (.int _)⟩
/-! ### e != sorted(d), the keys of d tuples -/
def tupP (k : List Key) : PyData := .tuple (k.map kP)
theorem readsAll_key {h : Heap} : ∀ {k : List Key} {its : List Value}, Vals (k.map kV) its → ReadsAll h its (k.map kP) []
  | [], _, .nil => .nil
  | .inl i :: k, _, .cons r rs => by
    obtain ⟨t, rfl⟩ := r
    exact .cons (as := []) (bs := []) (.int i t) (readsAll_key rs)
  | .inr x :: k, _, .cons r rs => by
    obtain ⟨t, rfl⟩ := r
    exact .cons (as := []) (bs := []) (.str x t) (readsAll_key rs)
theorem reads_key {X : Cx} {pins : List (Addr × Obj)} {σ : St} {H : Hp} {s : Shared} {b : Addr} {k : List Key} (I : Inv X pins σ H s) (h : H b = some (.tup (k.map kV))) : Reads s.heap (.ref b) (tupP k) [] := by
  obtain ⟨its, r, ⟨o, ho, hc, n, hd⟩, _⟩ := I.tuple (SqT.of (K := X.K) h)
  exact .tuple ho hc hd (readsAll_key r)
def rSortDT (K : PySem.W.Frag) : List V → Hp → VK → Prop := fun xs H Q => ∃ (a : Addr) (kvs : List (List Key × V)), xs = [.ref a] ∧ H a = some (.dT kvs) ∧ PySem.W.AllAlike ((kvs.map (·.1)).map tupP) ∧ PySem.W.Sortable ((kvs.map (·.1)).map tupP) ∧
  ∀ (q : Addr) (bs : List Addr) (ks : List (List Key)), H q = none → ks = (kvs.map (·.1)).mergeSort (PySem.W.dataLe false tupP) → Paired (fun k b => H b = some (.tup (k.map kV))) ks bs → Q (.ref q) (upd H q (.lst (bs.map V.ref)))
theorem depth_kP : ∀ k : List Key, PyData.depthAll (k.map kP) = 0
  | [] => rfl
  | .inl i :: k => by
    show max (PyData.depth (.int i)) (PyData.depthAll (k.map kP)) = 0
    rw [depth_kP k]
    rfl
  | .inr i :: k => by
    show max (PyData.depth (.str i)) (PyData.depthAll (k.map kP)) = 0
    rw [depth_kP k]
    rfl
theorem depth_tupP (k : List Key) : (tupP k).depth = 1 := by
  show PyData.depthAll (k.map kP) + 1 = 1
  rw [depth_kP]
theorem each_key {H : Hp} : ∀ {kvs : List (List Key × V)} {bs : List Addr}, IsKeys H kvs bs → PySem.W.EachIs (fun (v : Value) (k : List Key) => ∃ b, v = .ref b ∧ H b = some (.tup (k.map kV))) (bs.map Value.ref) (kvs.map (·.1))
  | _, _, .nil => .nil
  | _, _, .cons h r => .cons ⟨_, rfl, h⟩ (each_key r)
theorem each_key_to {H : Hp} : ∀ {ks : List (List Key)} {us : List Value}, PySem.W.EachIs (fun (v : Value) (k : List Key) => ∃ b, v = .ref b ∧ H b = some (.tup (k.map kV))) us ks → ∃ bs : List Addr, us = bs.map Value.ref ∧ Paired (fun k b => H b = some (.tup (k.map kV))) ks bs
  | _, _, .nil => ⟨[], rfl, .nil⟩
  | _, _, .cons h r => by
    obtain ⟨b, rfl, hb⟩ := h
    obtain ⟨bs, rfl, p⟩ := each_key_to r
    exact ⟨b :: bs, rfl, .cons hb p⟩
theorem cr_sortDT {X : Cx} (hc : X.calm = true) (hu : X.A.units + 64 < cLine) : CallR X (.builtin "sorted") (rSortDT X.K) := by
  intro pins s σ H xs us Q I r h
  obtain ⟨d, kvs, rfl, hd, hal, hso, q⟩ := h
  rw [Vals.ref1 r]
  obtain ⟨z, hs, ks, pr, o, es, ep, ho, hx, hdt, he, hn⟩ := (show ObjOk X.prog X.w H s.heap d (.dT kvs) from I.hok d _ hd)
  have l1 : es.size = ks.length := size_of_entries he
  have l2 : kvs.length = ks.length := Paired.length pr
  refine Calls.call_function_entry PyProof.Rows.kind_sorted PyProof.Rows.plain_sorted PyProof.Rows.entry_sorted (PyProof.Rows.args_sorted1 _) ?_
  unfold Builtin.«sorted»
  refine wpAny_bind (m := checkCount "sorted" 1 1 _) (wpAny_pure ?_)
  refine wpAny_bind (PySem.W.kdu_collect (A := X.A.in1) (kdl_raw hs hx hdt) (I.ok.hd hc) ho (by omega) fun h' tk acc hk it => ?_)
  have ea : acc.toList = ks.map fun x => Value.ref x.2.1 := by
    have hl : acc.toList.length = ks.length := by rw [Array.length_toList, it.1]; exact l1
    apply List.ext_getElem?
    intro j
    rw [List.getElem?_map]
    cases hj : acc.toList[j]? with
    | none =>
      have h1 := List.getElem?_eq_none_iff.mp hj
      rw [List.getElem?_eq_none (by omega)]
      rfl
    | some v =>
      obtain ⟨en, hen, hv⟩ := it.2 j v (by rw [← Array.getElem?_toList]; exact hj)
      have qe := entry_at he j
      rw [hen] at qe
      cases hb : ks[j]? with
      | none =>
        rw [hb] at qe
        exact nomatch (show some en = none from qe)
      | some b =>
        rw [hb] at qe
        have e2 : en = entryOfKey (tupleKind (mixKind X.prog X.w)) b := Option.some.inj qe
        rw [hv, e2]
        rfl
  have eb : acc.toList = (ks.map fun x => x.2.1).map Value.ref := by rw [ea, List.map_map]; rfl
  have ik : IsKeys H kvs (ks.map fun x => x.2.1) := isKeys_of pr
  have I1 : Inv X pins σ H { s with heap := h', toks := tk } := I.kept hk
  have la : acc.toList.length = kvs.length := by rw [ea, List.length_map]; omega
  refine wpAny_bind (wpAny_newList ?_ (by omega))
  have hoL : (h'.push (seqObj "list" acc.toList.toArray 0)).get? h'.objs.size = some (seqObj "list" acc.toList.toArray 0) := Heap.get?_push_size _ rfl
  show wpAny _ _ _ _ _ { s with heap := h'.push (seqObj "list" acc.toList.toArray 0), toks := tk }
  have each : PySem.W.EachIs (fun (v : Value) (k : List Key) => ∃ b, v = .ref b ∧ H b = some (.tup (k.map kV))) acc.toList (kvs.map (·.1)) := by
    rw [eb]
    exact each_key ik
  refine wpAny_bind (wpAny_holding (PySem.W.list_sort_data (enc := tupP) (s := { s with heap := h'.push (seqObj "list" acc.toList.toArray 0), toks := tk }) hoL each ?_ hal hso (by rw [List.length_map]; omega) ?_ ?_))
  · refine each.mono fun v k ⟨b, e, hb⟩ => ⟨[], ?_, fun m => nomatch m⟩
    rw [e]
    exact PyProof.Rows.Reads.keeps (fun _ _ q => Heap.get?_push_of_some _ q) (reads_key I1 hb)
  · intro b _
    rw [depth_tupP]
    show X.A.units + 1 + 1 + 1 < cLine
    omega
  · intro out hlo eo
    obtain ⟨bs, rfl, p⟩ := each_key_to eo
    obtain ⟨e', he'⟩ := PyProof.Rows.sortedHeap_at (vs := acc.toList) (out := (bs.map Value.ref).toArray) hoL
    have hlen : (bs.map V.ref).length ≤ sizeLine := by
      rw [List.length_map]
      rw [List.length_map, List.length_map] at hlo
      omega
    refine wpAny_pure ⟨_, rfl, .ref h'.objs.size, upd H h'.objs.size (.lst (bs.map V.ref)), I1.laid (t' := tk) (fun b u e => ?_) (Nat.le_refl _)
      (show ObjOk X.prog X.w _ _ _ (.lst (bs.map V.ref)) from ⟨hlen, bs.map Value.ref, e', vals_refs _, by simpa using he'⟩), rfl, q _ bs _ (I1.hok.fresh (Nat.le_refl _)) rfl p⟩
    have hb : b < h'.objs.size := Heap.lt_size e
    rw [PyProof.Rows.sortedHeap_old (Nat.ne_of_lt hb) (by rw [size_push']; exact Nat.lt_succ_of_lt hb)]
    exact Heap.get?_push_of_some _ e
/-- the keys of a known dict with tuple keys -/
def tkeys : List (PyData × PyData) → Option (List (List Key))
  | [] => some []
  | p :: r => match tkey p.1, tkeys r with
    | some k, some l => some (k :: l)
    | _, _ => none
def keysT : PyData → Option (List (List Key))
  | .dict ((.none, .none) :: ps) => tkeys ps
  | _ => none
theorem tkeys_zip : ∀ (kvs : List (List Key × V)) (ds : List PyData), kvs.length = ds.length → tkeys ((kvs.map fun p => PyData.tuple (p.1.map kP)).zip ds) = some (kvs.map (·.1))
  | [], [], _ => rfl
  | p :: kvs, d :: ds, h => by
    show (match tkey (.tuple (p.1.map kP)), tkeys ((kvs.map fun p => PyData.tuple (p.1.map kP)).zip ds) with | some k, some l => some (k :: l) | _, _ => none) = _
    rw [tkey_kP, tkeys_zip kvs ds (Nat.succ.inj h)]
    rfl
theorem keysT_rep {G : Hp} {v : V} {d : PyData} {ks : List (List Key)} (r : Rep K G v d) (h : keysT d = some ks) : ∃ a kvs, v = .ref a ∧ G a = some (.dT kvs) ∧ kvs.map (·.1) = ks := by
  match d, h, r with
  | .dict ((.none, .none) :: ps), h, r =>
    have h : tkeys ps = some ks := h
    generalize ez : (PyData.dict ((.none, .none) :: ps)) = dz at r
    cases r with
    | @dK a kvs ds hg rr =>
      exfalso
      cases kvs with
      | nil => injection ez with ez; cases ez
      | cons q kvs =>
        cases ds with
        | nil => cases rr
        | cons d ds =>
          injection ez with ez
          injection ez with ez _
          injection ez with ez _
          have ez : PyData.none = kP q.1 := ez
          cases hq : q.1 with
          | inl _ => rw [hq] at ez; cases ez
          | inr _ => rw [hq] at ez; cases ez
    | @dT a kvs ds hg rr =>
      injection ez with ez
      injection ez with _ ez
      subst ez
      have l := rr.length
      rw [List.length_map] at l
      rw [tkeys_zip kvs ds l] at h
      exact ⟨a, kvs, rfl, hg, Option.some.inj h⟩
    | _ => cases ez
theorem rep_keys {H : Hp} : ∀ {ks : List (List Key)} {bs : List Addr}, Paired (fun k b => H b = some (.tup (k.map kV))) ks bs → Reps K H (bs.map V.ref) (ks.map tupP)
  | _, _, .nil => .nil
  | k :: _, _, .cons h r => .cons (.tup h (rep_kV k)) (rep_keys r)
where
  rep_kV {K : PySem.W.Frag} {H : Hp} : ∀ k : List Key, Reps K H (k.map kV) (k.map kP)
    | [] => .nil
    | .inl _ :: k => .cons (.int _) (rep_kV k)
    | .inr _ :: k => .cons (.str _) (rep_kV k)
def srtK (ks : List (List Key)) : List PyData := (ks.mergeSort (PySem.W.dataLe false tupP)).map tupP
/-- a != sorted(d) -/
def dNeSd : DV → DV → S → QD → Prop := fun x y ρ Q => match y with
  | .d y => ∃ d ks, datOf ρ x = some d ∧ keysT y = some ks ∧ PySem.W.AllAlike (ks.map tupP) ∧ PySem.W.Sortable (ks.map tupP) ∧ Eqs d ∧ Eqs (.list (srtK ks)) ∧ Q (.d (.bool (!PyData.eqv d (.list (srtK ks))))) ρ
  | _ => False
theorem de_neSd {ta tb : WX → TE} (da : ∀ ρ Q X, wa ρ Q X → DE T.K ta ρ Q X) (db : ∀ ρ Q X, wb ρ Q X → DE T.K tb ρ Q X) {ρ : S} {Q : QD} {X : QX} (h : wOp dNeSd wa wb ρ Q X) : DE T.K (fun W => tOp (rNeD T.K) (ta W) (tCB (rSortDT T.K) (tCons (tb W) tNil))) ρ Q X := by
  intro W σ F G H as ok acc C k
  refine da _ _ _ h W σ F G H as ok acc _ fun x ρ1 v G1 H1 as1 h1 ok1 n1 r1 => ?_
  refine db _ _ _ h1 W σ F G1 H1 as1 ok1 (acc.next n1) _ fun y ρ2 u G2 H2 as2 h2 ok2 n2 r2 => ?_
  match y, h2, r2 with
  | .d y, h2, r2 =>
    obtain ⟨d, ks, e1, e2, s1, s2, q1, q2, q⟩ := h2
    obtain ⟨a, kvs, rfl, hg, rfl⟩ := keysT_rep r2 e2
    refine ⟨a, kvs, rfl, ok2.mem.gh _ _ hg, s1, s2, fun l bs ks hl ek pr => ?_⟩
    subst ek
    have sm : Same H2 (upd H2 l (.lst (bs.map V.ref))) := same_new hl
    have dx := (datOf_rep ok2 (r1.mono n2) e1).mono sm
    have dy : Rep T.K (upd H2 l (.lst (bs.map V.ref))) (.ref l) (.list (srtK (kvs.map (·.1)))) := .lst (SqL.of upd_same) ((rep_keys pr).mono sm)
    refine ⟨d, .list (srtK (kvs.map (·.1))), rep_dp (Same.refl _) d v dx q1.1, rep_dp (Same.refl _) _ _ dy q2.1, q1.2, q2.2, ?_⟩
    exact k _ ρ2 _ _ _ as2 q (ok2.new hl) ((n1.trans n2).trans (ok2.nxt hl)) (.bl _)
theorem pd_neSd (ha : PD T a wa) (hb : PD T b wb) (hg : T.sc.names.lookup ("sorted" : Str) = some .globalImplicit) (hm : T.mg "sorted" = none) (he : ∀ env, starEach [b] env = (false, eval b env) :: starEach [] env := by intro _; rfl) :
    PD T (.Compare a [.NotEq] [.Call (.Name "sorted" p2) [b] [] q] pos) (wOp dNeSd wa wb) := by
  obtain ⟨ta, ha, da⟩ := ha
  obtain ⟨tb, hb, db⟩ := hb
  refine ⟨fun W => tOp (rNeD T.K) (ta W) (tCB (rSortDT T.K) (tCons (tb W) tNil)), fun W X g tk => ?_, fun ρ Q X h => de_neSd da db h⟩
  rw [← g.K]
  exact pe_cmpR (op_neD g.room.units) (ha W X g tk) (pe_callB (cr_sortDT g.calm g.room.units) (by show X.env.scope.names.lookup _ = _; rw [g.sc]; exact hg) (by rw [g.mg]; exact hm) (by decide +kernel) (pa_cons (hb W X g tk) pa_nil (he _)) (by decide) (by decide) (he _) rfl) rfl
end
end DL
end

section
set_option Elab.async false
set_option linter.all false
set_option maxRecDepth 100000
set_option maxHeartbeats 1000000
set_option autoImplicit false
namespace DL
open PySem PySem.Spec PyProof.Rows L2

/-! ### a call whose result may be one's own: the caller has no objects yet -/
section
variable {T : Sta} {pos p : Pos} {e : Expr} {es : List Expr} {w : WA}
def callO (sp : DSp) (xs : List DV) (ρ1 : S) (Q : QD) : Prop := xs.all isD = true ∧ ρ1.ob = [] ∧ sp xs [] (fun dv ob' => Q dv ⟨ρ1.sl, ob'⟩) (fun _ _ => False)
def wCallO (sp : DSp) (w : WA) : WE := fun ρ Q X => w ρ (fun xs ρ1 => callO sp xs ρ1 Q) X
theorem callO_ok {K : PySem.W.Frag} {m : Nat} {sp : DSp} {xs : List DV} {ρ1 : S} {Q : QD} {W : WX} {C : VK} {σ : St} {F G1 H1 : Hp} {as1 : List Addr} {vs : List V} (ok1 : Ok K ρ1 σ F G1 H1 as1) (kk : Kv K F G1 as1 σ Q C) (r1 : RepVs K G1 as1 vs xs)
    (hm : xs.length = m) (h1 : callO sp xs ρ1 Q) : SpD K m sp vs H1 C (L2.WE W σ) := by
  obtain ⟨b1, b2, hs⟩ := h1
  obtain ⟨sl1, ob1⟩ := ρ1
  simp only at b2 hs
  subst b2
  have ea : as1 = [] := List.length_eq_zero_iff.mp ok1.mem.len
  subst ea
  have m0 : Mem K (rest G1 H1 []) G1 H1 [] [] := ok1.mem.into 0 rfl
  have fr : ∀ a o, F a = some o → rest G1 H1 [] a = some o := fun a o e => rest_get (ok1.mem.gf a o e) (by simp) (ok1.mem.fh a o e)
  refine ⟨rest G1 H1 [], G1, [], xs, [], _, _, m0, r1, hm, hs, fun dv ob' v G' H' as' q m' n' rv => ?_, fun xd ob' d G' H' as' q => q.elim⟩
  have m2 : Mem K F G' H' as' ob' := by
    refine ⟨m'.gh, fun a o e => m'.fh a o (fr a o e), fun a o e => m'.gf a o (fr a o e), m'.nd, m'.len, m'.al, fun a ha => ?_, m'.own, m'.at_⟩
    cases q : F a with
    | none => rfl
    | some o =>
      have := m'.ofr a ha
      rw [fr a o q] at this
      cases this
  refine kk dv _ v G' H' as' q ⟨m2, ok1.sll, fun i dx e => ?_⟩ n' rv
  obtain ⟨u, e1, r⟩ := ok1.sl i dx e
  exact ⟨u, e1, r.mono n'⟩
theorem pd_callO {x : Str} {p : Pos} {ps : List Str} {st : Stmt} {sp : DSp} (D : Def T x st ps sp) (hg : T.sc.names.lookup x = some .globalImplicit) (ha : PDA T (e :: es) w)
    (hdb : (x == ("__debug__" : Str)) = false := by decide) (he : ∀ env, starEach (e :: es) env = (false, eval e env) :: starEach es env := by intro _; rfl) (hpl : ∀ env, (backTo pos (starEach es env)).any (·.1) = false := by intro _; rfl) :
    PD T (.Call (.Name x p) (e :: es) [] pos) (wCallO sp w) := by
  obtain ⟨⟨k, f, fd, hk, Fn, hm, hkp, hb, _⟩, hlen⟩ := D
  obtain ⟨ta, ha, da⟩ := ha
  refine ⟨fun W => tCallG (SpD T.K ps.length sp) [] W (ta W), fun W X g tk => ?_, fun ρ Q X h W σ F G H as ok acc C kk => ?_⟩
  · obtain ⟨h1, h2, h3, h4, h5, h6, h7, h8, h9, h10, h11, h12, h13⟩ := g
    have ha' := ha W X ⟨h1, h2, h3, h4, h5, h6, h7, h8, h9, h10, h11, h12, h13⟩ tk
    obtain ⟨TP, Tw, TK, Tmg, Tb, TN, Tsc, Tk, Tt⟩ := T
    simp only at h1 h2 h3 h4 h5 h6 h7 h8 h9 h10 h11 h12 h13 hk Fn hm hkp hb hg
    subst h1 h2 h3 h4 h5 h6 h7
    exact pe_callG Fn h13 (h9.mono hk) hg hm hkp hb .nil tk ha' hdb (he _) (hpl _)
  · refine da _ _ _ h W σ F G H as ok acc _ fun xs ρ1 vs G1 H1 as1 h1 ok1 n1 r1 => ?_
    show SpD T.K ps.length sp (vs ++ []) H1 C (L2.WE W σ)
    rw [List.append_nil]
    exact callO_ok ok1 (kk.next n1) r1 (hlen _ _ _ _ h1.2.2) h1
end

/-! ### the law's end -/
theorem cx_none {P : Program} {w : World} {outer : List Env} {H : Hp} {s s' : Shared} {e : Value} (h : L2.CX P w outer H s (fun _ _ _ => False) e s') : False := by
  obtain ⟨_, _, _, _, _, _, _, _, _, _, _, _, z⟩ := h
  exact z
/-- the script alone, as the law finds it -/
def scriptH (a : Addr) (o : Obj) (ns : List Int) : Hp := fun b => if b = a then some (.frz o (.lst (ns.map V.int))) else none
theorem scr_at {a : Addr} {o : Obj} {ns : List Int} : scriptH a o ns a = some (.frz o (.lst (ns.map V.int))) := if_pos rfl
theorem scr_ne {a b : Addr} {o : Obj} {ns : List Int} (h : b ≠ a) : scriptH a o ns b = none := if_neg h
section
variable {P : Program} {w : World} {K : PySem.W.Frag} {mg mb : Str → Option Value} {k : Nat} {fa a : Addr} {fd : FuncData} {x : Str} {sp : DSp} {s0 : Shared} {vs : List Value} {ns : List Int}
abbrev oScr (vs : List Value) : Obj := { cls := .type "list", data := .seq vs.toArray }
abbrev WellDone (s0 : Shared) : Result → Shared → Prop := fun r s' => r = .ok (.ret (.bool true)) ∧ OldK s0.heap s'.heap ∧ s'.os = s0.os ∧ AllBare s'.gens
theorem end_from (H : Hp) (kin : K.In s0.heap) (gns : s0.heap.Ns mainGlobals mg) (bns : s0.heap.Ns builtinsNs mb) (boot : ∀ x : Str, x ≠ "__name__" → mb x = bootBuiltins x) (nolim : s0.heap.NoLimit) (bare : s0.gens = #[])
    (scr : s0.heap.get? a = some (oScr vs)) (room : Room k callerA) (Fn : ∀ base : Heap, K.In base → base.Ns mainGlobals mg → FnG P w K mg base k fa fd [x] (SpD K 1 sp)) (bind : ∀ (s : Shared) (u : Value), BindsTo s fd ⟨[u], []⟩ [(x, u)])
    (G : Hp) (G0 : Same G H) (rs : Rep K G (.ref a) (.list (ns.map .int))) (post : sp [.d (.list (ns.map .int))] [] (fun dv _ => dv = .d (.bool true)) fun _ _ => False)
    (hok : HOk P w H s0.heap) (just : ∀ b, H b ≠ none → b = a ∧ H b = some (.frz (oScr vs) (.lst (ns.map V.int)))) (apart : H a ≠ none → K.lookup a = none) :
    codeAny (model P w) callerA (.call (.ref fa) ⟨[.ref a], []⟩) (WellDone s0) s0 := by
  have low : ∀ {b : Addr} {o : Obj}, s0.heap.get? b = some o → H b = none → (hidT s0.heap H).get? b = some o := fun e n => hidT_get e n
  have dictN : ∀ {b : Addr} {o : Obj} {es : Array DictEntry} {ep : Nat}, s0.heap.get? b = some o → o.data = .dict es ep → H b = none := fun {b o es ep} e d => by
    cases q : H b with
    | none => rfl
    | some u =>
      obtain ⟨rfl, _⟩ := just b (by rw [q]; exact Option.some_ne_none u)
      have eo := Option.some.inj (scr.symm.trans e)
      rw [← eo] at d
      cases d
  have nsL : ∀ {b : Addr} {m : Str → Option Value}, s0.heap.Ns b m → (hidT s0.heap H).Ns b m := by
    rintro b m ⟨o, es, ep, e, d, r⟩
    exact ⟨o, es, ep, low e (dictN e d), d, r⟩
  have kinL : K.In (hidT s0.heap H) := fun b o e => low (kin b o e) (by
    cases q : H b with
    | none => rfl
    | some u =>
      have nb : H b ≠ none := by rw [q]; exact Option.some_ne_none u
      obtain ⟨rfl, _⟩ := just b nb
      rw [apart nb] at e
      cases e)
  have md : Mod K mg (hidT s0.heap H) := ⟨kinL, nsL gns, ⟨mb, nsL bns, boot⟩, nolim.elim fun mc hm => ⟨mc, nsL hm.1, hm.2⟩⟩
  have env : Env0 P w K mg (hidT s0.heap H) callerA [] s0 H := ⟨rfl, md, fun _ _ e => of_hidT e, Nat.le_of_eq (hidT_size _ _), trivial, fun b hb => (nomatch hb), hok, .of_eq bare⟩
  have m0 : Mem K (rest G H []) G H [] [] := ⟨G0, rest_le, rest_gf, List.nodup_nil, rfl, fun _ h => (nomatch h), fun _ h => (nomatch h), fun k a x h => by simp at h, fun k a x h => by simp at h⟩
  have wish : SpD K 1 sp [.ref a] H (fun v _ => v = .bl true) (fun _ _ _ => False) :=
    ⟨rest G H [], G, [], [.d (.list (ns.map .int))], [], _, _, m0, .cons rs .nil, rfl, post, fun dv ob' v G' H' as' q m' n' rv => by subst q; exact repB rv, fun _ _ _ _ _ _ q => q.elim⟩
  refine codeAny_mono ((Fn _ kinL (nsL gns)).run callerA rfl room [] s0 H env ⟨[.ref a], []⟩ [.ref a] [.ref a] (bind s0 (.ref a)) (.cons rfl .nil) _ _ wish) fun r s' out => ?_
  match r, out with
  | .error e, out => exact (cx_none out).elim
  | .ok (.ret u), out =>
    obtain ⟨v, H', os, gb, un, hok', rv, q⟩ := out
    have q : v = .bl true := q
    subst q
    have eu : u = Value.bool true := rv
    subst eu
    refine ⟨rfl, OldK.of_keep fun b o e => ?_, os, gb⟩
    cases q : H b with
    | none => exact un.keep b o e q (fun z => nomatch z) (fun z => nomatch z)
    | some u =>
      obtain ⟨rfl, hz⟩ := just b (by rw [q]; exact Option.some_ne_none u)
      have here := (hok b _ hz).1
      have there := (hok' b _ (un.frzs b _ _ hz)).1
      exact (Option.some.inj (e.symm.trans here)) ▸ there
theorem end_call (kin : K.In s0.heap) (gns : s0.heap.Ns mainGlobals mg) (bns : s0.heap.Ns builtinsNs mb) (boot : ∀ x : Str, x ≠ "__name__" → mb x = bootBuiltins x) (nolim : s0.heap.NoLimit) (bare : s0.gens = #[])
    (scr : s0.heap.get? a = some (oScr vs)) (whole : IntsAre vs ns) (few : ns.length ≤ sizeLine) (room : Room k callerA) (Fn : ∀ base : Heap, K.In base → base.Ns mainGlobals mg → FnG P w K mg base k fa fd [x] (SpD K 1 sp)) (bind : ∀ (s : Shared) (u : Value), BindsTo s fd ⟨[u], []⟩ [(x, u)])
    (post : sp [.d (.list (ns.map .int))] [] (fun dv _ => dv = .d (.bool true)) fun _ _ => False) : codeAny (model P w) callerA (.call (.ref fa) ⟨[.ref a], []⟩) (WellDone s0) s0 := by
  have rv := vals_ints whole
  have rp : ∀ {G : Hp}, Reps K G (ns.map V.int) (ns.map .int) := fun {G} => reps_mapR (fun i => .int i) ns
  cases hk : K.lookup a with
  | some o =>
    have e := Option.some.inj (scr.symm.trans (kin a o hk))
    subst e
    refine end_from (fun _ => none) kin gns bns boot nolim bare scr room Fn bind (fun _ => none) (fun _ _ z => z) (.lst (.inr ⟨_, vs.toArray, _, hk, rfl, rfl, rfl, ?_, by simpa using rv⟩) rp) post (fun b u z => nomatch (show (none : Option HO) = some u from z)) (fun b z => absurd rfl z) fun z => absurd rfl z
    rw [List.size_toArray, whole.length]
    exact few
  | none =>
    have who : ∀ b, scriptH a (oScr vs) ns b ≠ none → b = a := fun b z => by
      by_cases hb : b = a
      · exact hb
      · exact absurd (scr_ne hb) z
    refine end_from (scriptH a (oScr vs) ns) kin gns bns boot nolim bare scr room Fn bind (scriptH a (oScr vs) ns) (Same.refl _) (.lst (.inl (.inr ⟨oScr vs, scr_at⟩)) rp) post (fun b u z => ?_) (fun b z => ?_) fun _ => hk
    · obtain rfl := who b (by rw [z]; exact Option.some_ne_none u)
      rw [scr_at] at z
      obtain rfl := Option.some.inj z
      exact ⟨scr, by rw [List.length_map]; exact few, vs, _, rv, scr⟩
    · obtain rfl := who b z
      exact ⟨rfl, scr_at⟩
end
theorem end_of {l : PySem.W.OpenLaw} {n k : Nat} {q : Program} {loose : List Str} {XP : (Str → Option Value) → Heap → Prop} {YP : World → Heap → Prop} {d : DefRec} {K : Params → PySem.W.Frag} {sp : DSp} {x : Str}
    (most : l.most = some n) (few : n ≤ sizeLine) (nod : d.params.defaults = []) (room : Room k callerA) (hY : ∀ (w : World) (h : Heap), YP w h → (K w.params).In h)
    (F : ∀ (w : World) (mg : Str → Option Value) (fa : Addr) (h : Heap), (K w.params).In h → h.Ns mainGlobals mg → mg d.name = some (.ref fa) →
      ∃ fd : FuncData, (∀ (s : Shared) (u : Value), BindsTo s fd ⟨[u], []⟩ [(x, u)]) ∧ ∀ base : Heap, (K w.params).In base → base.Ns mainGlobals mg → FnG l.prog w (K w.params) mg base k fa fd [x] (SpD (K w.params) 1 sp))
    (post : ∀ ns : List Int, ns.length ≤ n → (∀ z ∈ ns, Builtin.Int.intBits z ≤ 1048576) → sp [.d (.list (ns.map .int))] [] (fun dv _ => dv = .d (.bool true)) fun _ _ => False) :
    PySem.W.WalkO q loose XP YP l.row.toRowW d [] (fun f vs => PySem.call f vs) := by
  refine Att.attach_callB most nod fun w s₀ s₁ mg mb fa o pm cd doc a vs ns G Y _ _ _ hmg scr whole len bits bare => ?_
  have kin := hY w _ Y
  obtain ⟨fd, bind, Fn⟩ := F w mg fa _ kin G.T.g hmg
  exact end_call kin G.T.g G.T.b G.T.builtins G.T.nolimit bare scr whole (Nat.le_trans len few) room Fn bind (post ns len bits)
end DL
end

section
set_option Elab.async false
set_option linter.all false
set_option maxRecDepth 100000
set_option maxHeartbeats 1000000
set_option autoImplicit false
namespace DL
open PySem PySem.Spec PyProof.Rows L2

/-! ### comparisons, as values and as tests -/
def CmpD (T : Sta) (op : CmpOp) (R : DV → DV → S → QD → Prop) : Prop := ∃ r : R2, (∀ X, X.K = T.K → X.calm = true → X.A.units + 64 < cLine → OpR X (compareOp op) r) ∧ OpD T.K r R
section
variable {T : Sta} {pos p p2 q : Pos} {a b c e o i : Expr} {es : List Expr} {wa wb wc we wo wi : WE} {w : WA} {wt : WT} {K : PySem.W.Frag} {op op' : CmpOp} {R R' : DV → DV → S → QD → Prop}
theorem cd_lt : CmpD T .Lt (dII0 gLt) := ⟨_, fun _ _ _ _ => op_lt, opd_I0 (g := gLt) fun _ _ => rfl⟩
theorem cd_le : CmpD T .LtE (dII0 gLe) := ⟨_, fun _ _ _ _ => op_le, opd_I0 (g := gLe) fun _ _ => rfl⟩
theorem cd_gt : CmpD T .Gt (dII0 gGt) := ⟨_, fun _ _ _ _ => op_gt, opd_I0 (g := gGt) fun _ _ => rfl⟩
theorem cd_ge : CmpD T .GtE (dII0 gGe) := ⟨_, fun _ _ _ _ => op_ge, opd_I0 (g := gGe) fun _ _ => rfl⟩
theorem cd_ltD : CmpD T .Lt dLtD := ⟨rLtDD T.K, fun X k _ u => by rw [← k]; exact op_ltDD u, fun x y ρ Q h σ F G H as v u ok rx ry C k => by
  match x, y, h, rx, ry with
  | .d d, .d e, ⟨⟨h1, h2, h3, h4, h5⟩, q⟩, rx, ry =>
    exact ⟨d, e, rep_dp ok.mem.gh d v rx h2, rep_dp ok.mem.gh e u ry h3, h1, (fun z => by subst z; cases h4), h5, k.same ok q (.bl _)⟩⟩
theorem cd_eqD : CmpD T .Eq dEq := ⟨L2.rEqD T.K, fun X k _ u => by rw [← k]; exact op_eqD u, fun x y ρ Q h σ F G H as v u ok rx ry C k => by
  obtain ⟨d, e, h1, h2, s1, s2, q⟩ := h
  exact ⟨d, e, rep_dp (Same.refl H) d v (datOf_rep ok rx h1) s1.1, rep_dp (Same.refl H) e u (datOf_rep ok ry h2) s2.1, s1.2, s2.2, k.same ok q (.bl _)⟩⟩
theorem cd_neD : CmpD T .NotEq dNe := ⟨L2.rNeD T.K, fun X k _ u => by rw [← k]; exact op_neD u, fun x y ρ Q h σ F G H as v u ok rx ry C k => by
  obtain ⟨d, e, h1, h2, s1, s2, q⟩ := h
  exact ⟨d, e, rep_dp (Same.refl H) d v (datOf_rep ok rx h1) s1.1, rep_dp (Same.refl H) e u (datOf_rep ok ry h2) s2.1, s1.2, s2.2, k.same ok q (.bl _)⟩⟩
theorem cd_eqS : CmpD T .Eq dEqS := ⟨_, fun _ _ _ _ => op_eq, fun x y ρ Q h σ F G H as v u ok rx ry C k => by
  match x, y, h, rx, ry with
  | .d (.str s), .d (.str t), q, rx, ry =>
    cases repS rx
    cases repS ry
    exact ⟨rfl, by rw [dec_s]; exact k.same ok q (.bl _)⟩
  | .d (.int s), .d (.int t), q, rx, ry =>
    cases repI rx
    cases repI ry
    exact ⟨rfl, by rw [dec_i]; exact k.same ok q (.bl _)⟩⟩
theorem cd_neS : CmpD T .NotEq dNeS := ⟨_, fun _ _ _ _ => op_ne, fun x y ρ Q h σ F G H as v u ok rx ry C k => by
  match x, y, h, rx, ry with
  | .d (.str s), .d (.str t), q, rx, ry =>
    cases repS rx
    cases repS ry
    exact ⟨rfl, by rw [dec_s]; exact k.same ok q (.bl _)⟩
  | .d (.int s), .d (.int t), q, rx, ry =>
    cases repI rx
    cases repI ry
    exact ⟨rfl, by rw [dec_i]; exact k.same ok q (.bl _)⟩⟩
theorem cd_isN : CmpD T .Is dIsN := ⟨fun x y H Q => y = .non ∧ Q (.bl (decide (x = .non))) H, fun X _ _ _ => op_isN, fun x y ρ Q h σ F G H as v u ok rx ry C k => by
  match x, y, h, rx, ry with
  | .d d, .d .none, q, rx, ry => exact ⟨repNo ry, by rw [repN rx]; exact k.same ok q (.bl _)⟩⟩
theorem cd_notN : CmpD T .IsNot dNotN := ⟨fun x y H Q => y = .non ∧ Q (.bl (!decide (x = .non))) H, fun X _ _ _ => op_notN, fun x y ρ Q h σ F G H as v u ok rx ry C k => by
  match x, y, h, rx, ry with
  | .d d, .d .none, q, rx, ry => exact ⟨repNo ry, by rw [repN rx]; exact k.same ok q (.bl _)⟩⟩
theorem pd_cmpD (c : CmpD T op R) (ha : PD T a wa) (hb : PD T b wb) (hm : behindInMarks op b = false := by first | exact nomark _ | rfl) : PD T (.Compare a [op] [b] pos) (wOp R wa wb) := by
  obtain ⟨r, h1, h2⟩ := c
  exact pd_cmp h1 h2 ha hb hm
theorem dt_of {t : WX → TE} (h : ∀ ρ Q X, wa ρ Q X → DE K t ρ Q X) {ρ : S} {Q : Bool → S → Prop} {X : QX} (hw : wB wa ρ Q X) : DT K (fun W => tTest (t W)) ρ Q X := by
  intro W σ F G H as ok acc C k
  refine h _ _ _ hw W σ F G H as ok acc _ fun x ρ1 v G1 H1 as1 h1 ok1 n1 r1 => ?_
  match x, h1, r1 with
  | .d (.bool i), h1, r1 => exact ⟨i, repB r1, k i ρ1 G1 H1 as1 h1 ok1 n1⟩
theorem pdt_cmpD (c : CmpD T op R) (ha : PD T a wa) (hb : PD T b wb) (hm : behindInMarks op b = false := by first | exact nomark _ | rfl) : PDT T (.Compare a [op] [b] pos) (wB (wOp R wa wb)) := by
  obtain ⟨r, ho, hr⟩ := c
  obtain ⟨ta, ha, da⟩ := ha
  obtain ⟨tb, hb, db⟩ := hb
  exact ⟨fun W => tTest (tOp r (ta W) (tb W)), fun W X g tk => pt_cmpR (ho X g.K g.calm g.room.units) (ha W X g tk) (hb W X g tk) hm, fun ρ Q X h => dt_of (t := fun W => tOp r (ta W) (tb W)) (fun ρ Q X h => de_op hr da db h) h⟩
def wChain (R R' : DV → DV → S → QD → Prop) (wa wb wc : WE) : WE := fun ρ Q X => wa ρ (fun x ρ1 => wb ρ1 (fun y ρ2 => R x y ρ2 (fun z ρ3 => match z with
  | .d (.bool true) => wc ρ3 (fun u ρ4 => R' y u ρ4 Q) X
  | .d (.bool false) => Q (.d (.bool false)) ρ3
  | _ => False)) X) X
theorem de_chain {r r' : R2} {ta tb tc : WX → TE} (hr : OpD K r R) (hr' : OpD K r' R') (ha : ∀ ρ Q X, wa ρ Q X → DE K ta ρ Q X) (hb : ∀ ρ Q X, wb ρ Q X → DE K tb ρ Q X) (hc : ∀ ρ Q X, wc ρ Q X → DE K tc ρ Q X) {ρ : S} {Q : QD} {X : QX} (h : wChain R R' wa wb wc ρ Q X) :
    DE K (fun W => tChain r r' (ta W) (tb W) (tc W)) ρ Q X := by
  intro W σ F G H as ok acc C k
  refine ha _ _ _ h W σ F G H as ok acc _ fun x ρ1 v G1 H1 as1 h1 ok1 n1 r1 => ?_
  refine hb _ _ _ h1 W σ F G1 H1 as1 ok1 (acc.next n1) _ fun y ρ2 u G2 H2 as2 h2 ok2 n2 r2 => ?_
  refine hr x y ρ2 _ h2 σ F G2 H2 as2 v u ok2 (r1.mono n2) r2 _ fun z ρ3 vz G3 H3 as3 h3 ok3 n3 r3 => ?_
  match z, h3, r3 with
  | .d (.bool true), h3, r3 =>
    refine ⟨true, repB r3, iteT ?_⟩
    refine hc _ _ _ h3 W σ F G3 H3 as3 ok3 (acc.next ((n1.trans n2).trans n3)) _ fun w ρ4 vw G4 H4 as4 h4 ok4 n4 r4 => ?_
    exact hr' y w ρ4 _ h4 σ F G4 H4 as4 u vw ok4 (r2.mono (n3.trans n4)) r4 C (k.next (((n1.trans n2).trans n3).trans n4))
  | .d (.bool false), h3, r3 => exact ⟨false, repB r3, iteF ((k.next ((n1.trans n2).trans n3)).same ok3 h3 (.bl false))⟩
theorem pd_chainD (c1 : CmpD T op R) (c2 : CmpD T op' R') (ha : PD T a wa) (hb : PD T b wb) (hc : PD T c wc) (hm : lastMarks [op, op'] [b, c] = false := by with_unfolding_all rfl) : PD T (.Compare a [op, op'] [b, c] pos) (wChain R R' wa wb wc) := by
  obtain ⟨r, ho, hr⟩ := c1
  obtain ⟨r', ho', hr'⟩ := c2
  obtain ⟨ta, ha, da⟩ := ha
  obtain ⟨tb, hb, db⟩ := hb
  obtain ⟨tc, hc, dc⟩ := hc
  exact ⟨fun W => tChain r r' (ta W) (tb W) (tc W), fun W X g tk => pe_chain (ho X g.K g.calm g.room.units) (ho' X g.K g.calm g.room.units) (ha W X g tk) (hb W X g tk) (hc W X g tk) hm, fun ρ Q X h => de_chain hr hr' da db dc h⟩
theorem pdt_chainD (c1 : CmpD T op R) (c2 : CmpD T op' R') (ha : PD T a wa) (hb : PD T b wb) (hc : PD T c wc) (hm : lastMarks [op, op'] [b, c] = false := by with_unfolding_all rfl) : PDT T (.Compare a [op, op'] [b, c] pos) (wB (wChain R R' wa wb wc)) := by
  obtain ⟨r, ho, hr⟩ := c1
  obtain ⟨r', ho', hr'⟩ := c2
  obtain ⟨ta, ha, da⟩ := ha
  obtain ⟨tb, hb, db⟩ := hb
  obtain ⟨tc, hc, dc⟩ := hc
  exact ⟨fun W => tTest (tChain r r' (ta W) (tb W) (tc W)), fun W X g tk => pt_chain (ho X g.K g.calm g.room.units) (ho' X g.K g.calm g.room.units) (ha W X g tk) (hb W X g tk) (hc W X g tk) hm, fun ρ Q X h => dt_of (t := fun W => tChain r r' (ta W) (tb W) (tc W)) (fun ρ Q X h => de_chain hr hr' da db dc h) h⟩
theorem pdt_neSd (ha : PD T a wa) (hb : PD T b wb) (hg : T.sc.names.lookup ("sorted" : Str) = some .globalImplicit) (hm : T.mg "sorted" = none) (he : ∀ env, starEach [b] env = (false, eval b env) :: starEach [] env := by intro _; rfl) :
    PDT T (.Compare a [.NotEq] [.Call (.Name "sorted" p2) [b] [] q] pos) (wB (wOp dNeSd wa wb)) := by
  obtain ⟨ta, ha, da⟩ := ha
  obtain ⟨tb, hb, db⟩ := hb
  refine ⟨fun W => tTest (tOp (rNeD T.K) (ta W) (tCB (rSortDT T.K) (tCons (tb W) tNil))), fun W X g tk => ?_, fun ρ Q X h => dt_of (t := fun W => tOp (rNeD T.K) (ta W) (tCB (rSortDT T.K) (tCons (tb W) tNil))) (fun ρ Q X h => de_neSd da db h) h⟩
  rw [← g.K]
  exact pt_cmpR (op_neD g.room.units) (ha W X g tk) (pe_callB (cr_sortDT g.calm g.room.units) (by show X.env.scope.names.lookup _ = _; rw [g.sc]; exact hg) (by rw [g.mg]; exact hm) (by decide +kernel) (pa_cons (hb W X g tk) pa_nil (he _)) (by decide) (by decide) (he _) rfl) rfl
/-! ### y = [.. for .. for ..] -/
theorem pds_setLc2 {y : Str} {py spos : Pos} {tg iter tg1 iter1 elt : Expr} {scope : Scope} {own : List (Str × Nat)} {wi wi1 : WI} {wg wg1 : WG} {js js1 : List Nat} (i : Nat) (vs1 : List Nat) (hi : PDI T tg iter wi) (ok : BlkOk T.N T.sc scope own) (hg : PDG (blkT T scope) tg wg js) (hi1 : PDI (blkT T scope) tg1 iter1 wi1) (hg1 : PDG (blkT T scope) tg1 wg1 js1) (he : PD (blkT T scope) elt we)
    (hsw : ∀ env : Env, env.scope = T.sc → swapsWith (.ListComp elt [⟨tg, iter, [], 0⟩, ⟨tg1, iter1, [], 0⟩] scope pos) (some (.Name y py)) spos.line env = pure true)
    (hN : T.N[i]? = some y := by rfl) (hy : T.sc.names.lookup y = some .local := by rfl) (hj : ∀ j ∈ js, j ∈ own.map (·.2) := by decide) (hj1 : ∀ j ∈ js1, j ∈ vs1 := by decide) (hv : ∀ j ∈ vs1, j ∈ own.map (·.2) := by decide) (hs : ∀ env x, foldedSetIterable iter env x = pure x := by intro _ _; rfl) (hs1 : ∀ env x, foldedSetIterable iter1 env x = pure x := by intro _ _; rfl) :
    PDS T (.Assign [.Name y py] (.ListComp elt [⟨tg, iter, [], 0⟩, ⟨tg1, iter1, [], 0⟩] scope pos) spos) (wAsg (wLc2 wi wg wi1 wg1 we (own.map (·.2)) vs1) (wgName i)) := by
  obtain ⟨ti, hti, di⟩ := hi
  obtain ⟨g, hg, dg⟩ := hg
  obtain ⟨ti1, hti1, di1⟩ := hi1
  obtain ⟨g1, hg1, dg1⟩ := hg1
  obtain ⟨te, he, de⟩ := he
  refine ⟨fun W => tAsg (tLc2 (ti W) g tYes (ti1 W0) g1 tYes (te W0) (own.map (·.2)) vs1) (gName i), fun W X gd tk => ps_setLc2 gd.calm (by rw [gd.N]; exact gd.nd) (by rw [gd.N]; exact hN) (by rw [gd.sc]; exact hy) (hsw _ gd.sc) (hti W X gd tk) (by rw [gd.N, gd.sc]; exact ok) hv (fun s H C cl fp => hg _ (gd.blk s H scope cl C fp))
    (fun s H C cl fp => pts_nil) (fun s H C cl fp => hti1 W0 _ (gd.blk s H scope cl C fp) takes0) (fun s H C cl fp => hg1 _ (gd.blk s H scope cl C fp)) (fun s H C cl fp => pts_nil)
    (fun s H C cl fp => he W0 _ (gd.blk s H scope cl C fp) takes0) (hs _) (hs1 := hs1), fun ρ E h W σ F G H as ok acc D l => ?_⟩
  have d := de_lc2 (K := T.K) (ti1 := ti1 W0) (te := te W0) di dg (fun ρ Q h W σ F G H as ok acc R k => di1 ρ Q X0 h W0 σ F G H as ok acc0 R k) dg1 (fun ρ Q h W σ F G H as ok acc C k => de ρ Q X0 h W0 σ F G H as ok acc0 C k) hj hj1 h
  exact d W σ F G H as ok (acc.at σ) _ fun dv ρ' v G' H' as' q o n r => l.nx _ _ G' H' as' q (o.set i r) n
end

/-! ### defs as they are handed on -/
structure DefG (P : Program) (w0 : World) (K : PySem.W.Frag) (mg : Str → Option Value) (base : Heap) (k : Nat) (x : Str) (st : Stmt) (ps : List Str) (sp : DSp) : Prop where
  ex : ∃ (f : Addr) (fd : FuncData), FnG P w0 K mg base k f fd ps (SpD K ps.length sp) ∧ mg x = some (.ref f) ∧ PySem.W.keepIn K (.ref f) = true ∧ Binds K fd ps [] ∧ Fun K x x st f fd
  len : ∀ ys ob R X, sp ys ob R X → ys.length = ps.length
theorem DefG.to {P : Program} {w0 : World} {K : PySem.W.Frag} {mg : Str → Option Value} {base : Heap} {k k' : Nat} {x : Str} {st : Stmt} {ps N : List Str} {sp : DSp} {sc : Scope} {top : Bool} (G : DefG P w0 K mg base k x st ps sp) (h : k ≤ k' := by decide) : Def ⟨P, w0, K, mg, base, N, sc, k', top⟩ x st ps sp := by
  obtain ⟨f, fd, h1, h2, h3, h4, h5⟩ := G.ex
  exact ⟨⟨k, f, fd, h, h1, h2, h3, h4, h5⟩, G.len⟩
theorem DefG.toB {P : Program} {w0 : World} {K : PySem.W.Frag} {mg : Str → Option Value} {base : Heap} {k k' : Nat} {x : Str} {st : Stmt} {ps N : List Str} {sp : DSp} {sc sc2 : Scope} {top : Bool} (G : DefG P w0 K mg base k x st ps sp) (h : k ≤ k' := by decide) : Def (blkT ⟨P, w0, K, mg, base, N, sc, k', top⟩ sc2) x st ps sp := by
  obtain ⟨f, fd, h1, h2, h3, h4, h5⟩ := G.ex
  exact ⟨⟨k, f, fd, h, h1, h2, h3, h4, h5⟩, G.len⟩
/-- what the module's head tells of a def -/
structure Hd (K : PySem.W.Frag) (mg : Str → Option Value) (x : Str) (st : Stmt) (ps : List Str) : Prop where
  ex : ∃ (f : Addr) (fd : FuncData), Fun K x x st f fd ∧ mg x = some (.ref f) ∧ Binds K fd ps []
theorem mk_def {P : Program} {w0 : World} {K : PySem.W.Frag} {mg : Str → Option Value} {base : Heap} {k : Nat} {x : Str} {st : Stmt} {N ps : List Str} {sp : DSp} {w : WS} (h : Hd K mg x st ps) (S : FnScope N ps (defScope st)) (len : ∀ ys ob R X, sp ys ob R X → ys.length = ps.length)
    (hb : PDSs ⟨P, w0, K, mg, base, N, defScope st, k, true⟩ (defBody st) w) (hsp : ∀ dvs ob R X, sp dvs ob R X → ∀ sl, startS N dvs = sl → w (ends R X) ⟨sl, ob⟩) : DefG P w0 K mg base (k + 1) x st ps sp := by
  obtain ⟨f, fd, F, hm, bd⟩ := h.ex
  exact ⟨⟨f, fd, ok_def F S hb fun dvs ob R X _ h => hsp dvs ob R X h _ rfl, hm, F.kp, bd, F⟩, len⟩
end DL
end

section
set_option Elab.async false
set_option linter.all false
set_option maxRecDepth 100000
set_option maxHeartbeats 1000000
set_option autoImplicit false
namespace DL
open PySem PySem.Spec PyProof.Rows L2

/-! ### enumerate over a tuple or a list -/
def iEnuA (K : PySem.W.Frag) (ta : TA) : TI := fun σ H R => ta σ H fun vs H1 => ∃ (a : Addr) (xs : List V), vs = [.ref a] ∧ ((SqL K H1 a xs ∧ R (Ite K a) H1) ∨ (SqT K H1 a xs ∧ R (IteT K a) H1))
theorem pi_enuA {X : Cx} {e : Expr} {ta : TA} {p pos tpos : Pos} {elts : List Expr} {kk : Nat} (hg : Gl X "enumerate") (hm : X.mg "enumerate" = none) (ha : PA X [e] ta) (hs : starEach [e] X.env = [(false, eval e X.env)]) :
    PI X (.Tuple elts kk tpos) (.Call (.Name "enumerate" p) [e] [] pos) (iEnuA X.K ta) := by
  constructor
  intro pins s σ H R I h
  refine Call_ (ld_blt I hg hm boot_enumerate ?_)
  refine PyProof.Rows.callWith_type1 (thn (ha.run pos pins s σ H _ I h) ?_) hs rfl
  rintro us s1 ⟨vs, H1, I1, r1, a, xs, ex, cs⟩
  subst ex
  rw [Vals.ref1 r1]
  have feet : ∀ b ∈ [s1.heap.objs.size + 1, s1.heap.objs.size], FpOk X pins H1 b := fun b hb => by
    have le : s1.heap.objs.size ≤ b := by
      rcases List.mem_cons.mp hb with rfl | hb
      · exact Nat.le_succ _
      · exact Nat.le_of_eq (List.mem_singleton.mp hb).symm
    exact I1.fpOk le (I1.hok.fresh le)
  rcases cs with ⟨hq, q⟩ | ⟨hq, q⟩
  · obtain ⟨its, rv, p2, hz⟩ := I1.list hq
    refine call_enumerate_list p2.isList fun h2 en ti hsz k => wpAny_pyIter_enum en ?_
    exact ⟨s1.heap.objs.size + 1, [s1.heap.objs.size + 1, s1.heap.objs.size], _, Ite X.K a, H1, rfl, I1.kept (t' := s1.toks) k, turn_enum a (s1.heap.objs.size + 1) s1.heap.objs.size, ⟨⟨.none, en⟩, ti, Nat.succ_ne_self _⟩, feet, q⟩
  · obtain ⟨its, rv, p2, hz⟩ := I1.tuple hq
    have tup : s1.heap.IsTuple a its.toArray := p2
    have ha2 : a < s1.heap.objs.size := by obtain ⟨o, ho, _⟩ := id tup; exact Heap.lt_size ho
    refine enu_call tup fun h2 en ti k => wpAny_pyIter_enum en ?_
    exact ⟨s1.heap.objs.size + 1, [s1.heap.objs.size + 1, s1.heap.objs.size], _, IteT X.K a, H1, rfl, I1.kept (t' := s1.toks) k, turn_enuT (it := s1.heap.objs.size) (Nat.ne_of_lt ha2) (Nat.ne_of_lt (Nat.lt_succ_of_lt ha2)), ⟨⟨.none, en⟩, ti, Nat.succ_ne_self _⟩, feet, q⟩
section
variable {T : Sta} {pos p : Pos} {a e : Expr} {w : WA} {wa : WE}
def wiEnuA (w : WA) : WI := fun ρ Q X => w ρ (fun xs ρ1 => match xs with
  | [.d (.tuple ds)] => Q (zipP (rng 0 ds.length) ds) ρ1
  | [.d (.list ds)] => Q (zipP (rng 0 ds.length) ds) ρ1
  | _ => False) X
theorem pdi_enumA {elts : List Expr} {kk : Nat} {tpos : Pos} (ha : PDA T [a] w) (hg : T.sc.names.lookup ("enumerate" : Str) = some .globalImplicit) (hm : T.mg "enumerate" = none) (hs : ∀ env, starEach [a] env = [(false, eval a env)] := by intro _; rfl) :
    PDI T (.Tuple elts kk tpos) (.Call (.Name "enumerate" p) [a] [] pos) (wiEnuA w) := by
  obtain ⟨t, ht, d⟩ := ha
  refine ⟨fun W => iEnuA T.K (t W), fun W X g tk => by rw [← g.K]; exact pi_enuA (by show X.env.scope.names.lookup _ = _; rw [g.sc]; exact hg) (by rw [g.mg]; exact hm) (ht W X g tk) (hs _), fun ρ Q X h W σ F G H as ok acc R k => ?_⟩
  refine d _ _ _ h W σ F G H as ok acc _ fun x ρ1 v G1 H1 as1 h1 ok1 n1 r1 => ?_
  match x, h1, r1 with
  | [.d (.tuple ds)], h1, .cons (v := v) q .nil =>
    obtain ⟨a, xs, rfl, hs, r⟩ := repT q
    exact ⟨a, xs, rfl, .inr ⟨same_sqT ok1.mem.gh hs, k _ ρ1 G1 H1 as1 _ h1 ok1 n1 (it_enumT hs r)⟩⟩
  | [.d (.list ds)], h1, .cons (v := v) q .nil =>
    obtain ⟨a, xs, rfl, hs, r⟩ := repL q
    exact ⟨a, xs, rfl, .inl ⟨ok1.mem.gh.seq hs, k _ ρ1 G1 H1 as1 _ h1 ok1 n1 (it_enumL hs r)⟩⟩
theorem pds_asgS {tg : Expr} {wg : WG} {js : List Nat} (ha : PD T a wa) (hg : PDG T tg wg js) (hw : ∀ env : Env, env.scope = T.sc → swappedStores [tg] a env = pure none) (hs : ∀ env, swapsWithSole [tg] a pos.line env = pure false := by intro _; rfl)
    (h1 : ∀ env, (assignEach [tg] env).map (·.2) = [assign tg env] := by intro _; rfl) : PDS T (.Assign [tg] a pos) (wAsg wa wg) := by
  obtain ⟨t, ht, d⟩ := ha
  obtain ⟨g, hg, dg⟩ := hg
  refine ⟨fun W => tAsg (t W) g, fun W X gd tk => ps_asg (ht W X gd tk) (hg X gd) (hs _) (hw _ gd.sc) (h1 _), fun ρ E h W σ F G H as ok acc D l => ?_⟩
  refine d _ _ _ h W σ F G H as ok (acc.at σ) _ fun dv ρ' v G' H' as' q o n r => ?_
  exact dg dv ρ' _ q σ F G' H' as' v o r _ fun ρ2 σ2 G2 H2 as2 q2 o2 n2 _ => l.nx ρ2 σ2 G2 H2 as2 q2 o2 (n.trans n2)
end
end DL
end

section
set_option Elab.async false
set_option linter.all false
set_option maxRecDepth 100000
set_option maxHeartbeats 1000000
set_option autoImplicit false
namespace DL
open PySem PySem.Spec PyProof.Rows L2
/-! ### defs that take data and give data -/
def pur (n : Nat) (v : List PyData → PyData → Prop) : DSp := fun dvs _ R _ => ∃ (ds : List PyData) (y : PyData), dvs = ds.map .d ∧ ds.length = n ∧ v ds y ∧ ∀ ob', R (.d y) ob'
theorem pur_len {n : Nat} {v : List PyData → PyData → Prop} : ∀ (ys : List DV) (ob : List OB) (R : DV → List OB → Prop) (X : XD → List OB → Prop), pur n v ys ob R X → ys.length = n := by
  rintro ys ob R X ⟨ds, y, rfl, h, _⟩
  rw [List.length_map]
  exact h
theorem all_bel (n : Nat) : ∀ ds : List PyData, (ds.map DV.d).all (belV n) = true
  | [] => rfl
  | d :: ds => by
    rw [List.map_cons, List.all_cons, all_bel n ds]
    rfl
theorem call_pur {n : Nat} {v : List PyData → PyData → Prop} (ds : List PyData) (y : PyData) {ρ : S} {Q : QD} {X : QX} (hl : ds.length = n) (h : v ds y) (q : Q (.d y) ρ) : callD 0 (pur n v) (ds.map .d) ρ Q X :=
  ⟨all_bel 0 ds, Nat.zero_le _, rfl, ds, y, rfl, hl, h, fun ob' => ⟨rfl, Nat.zero_le _, rfl, q⟩⟩
theorem len1 {α : Type} {l : List α} (h : l.length = 1) : ∃ a, l = [a] := by
  match l, h with
  | [a], _ => exact ⟨a, rfl⟩
theorem len2 {α : Type} {l : List α} (h : l.length = 2) : ∃ a b, l = [a, b] := by
  match l, h with
  | [a, b], _ => exact ⟨a, b, rfl⟩
theorem len3 {α : Type} {l : List α} (h : l.length = 3) : ∃ a b c, l = [a, b, c] := by
  match l, h with
  | [a, b, c], _ => exact ⟨a, b, c, rfl⟩
/-! ### isinstance, by data -/
theorem tyN_ne {ρ : S} (x : PyData) : tyN ρ (.d x) ≠ "?" := by
  cases x <;> simp [tyN]
def isInt : PyData → Bool
  | .int _ => true
  | .bool _ => true
  | _ => false
def isBool : PyData → Bool
  | .bool _ => true
  | _ => false
def isTup : PyData → Bool
  | .tuple _ => true
  | _ => false
theorem k_int {ρ : S} : ∀ x : PyData, kitB (tyN ρ (.d x)) "int" = some (isInt x)
  | .none => (by decide +kernel : kitB "NoneType" "int" = some false)
  | .bool _ => (by decide +kernel : kitB "bool" "int" = some true)
  | .int _ => (by decide +kernel : kitB "int" "int" = some true)
  | .str _ => (by decide +kernel : kitB "str" "int" = some false)
  | .list _ => (by decide +kernel : kitB "list" "int" = some false)
  | .tuple _ => (by decide +kernel : kitB "tuple" "int" = some false)
  | .dict _ => (by decide +kernel : kitB "dict" "int" = some false)
theorem k_bool {ρ : S} : ∀ x : PyData, kitB (tyN ρ (.d x)) "bool" = some (isBool x)
  | .none => (by decide +kernel : kitB "NoneType" "bool" = some false)
  | .bool _ => (by decide +kernel : kitB "bool" "bool" = some true)
  | .int _ => (by decide +kernel : kitB "int" "bool" = some false)
  | .str _ => (by decide +kernel : kitB "str" "bool" = some false)
  | .list _ => (by decide +kernel : kitB "list" "bool" = some false)
  | .tuple _ => (by decide +kernel : kitB "tuple" "bool" = some false)
  | .dict _ => (by decide +kernel : kitB "dict" "bool" = some false)
theorem k_tup {ρ : S} : ∀ x : PyData, kitB (tyN ρ (.d x)) "tuple" = some (isTup x)
  | .none => (by decide +kernel : kitB "NoneType" "tuple" = some false)
  | .bool _ => (by decide +kernel : kitB "bool" "tuple" = some false)
  | .int _ => (by decide +kernel : kitB "int" "tuple" = some false)
  | .str _ => (by decide +kernel : kitB "str" "tuple" = some false)
  | .list _ => (by decide +kernel : kitB "list" "tuple" = some false)
  | .tuple _ => (by decide +kernel : kitB "tuple" "tuple" = some true)
  | .dict _ => (by decide +kernel : kitB "dict" "tuple" = some false)
theorem u_isi {u : String} {x : PyData} {b : Bool} {ρ : S} {Q : QD} (h : kitB (tyN ρ (.d x)) u = some b) (q : Q (.d (.bool b)) ρ) : dIsi u (.d x) ρ Q := ⟨tyN_ne x, b, h, q⟩
/-! ### [f(x) for x in xs], nothing of one's own touched -/
theorem lc_map {xs : List PyData} {ρ1 : S} {Q : QD} {wg : WG} {we : WE} {vs : List Nat} (f : PyData → PyData) (hl : xs.length ≤ sizeLine)
    (h : ∀ x ∈ xs, ∀ (o : OB) (E : QD), (∀ ρ4 : S, ρ4.ob = ρ1.ob ++ [o] → E (.d (f x)) ρ4) → wg (.d x) ⟨wipeS ρ1.sl vs, ρ1.ob ++ [o]⟩ fun ρ2 => we ρ2 E X0) (q : Q (.o ρ1.ob.length) ⟨ρ1.sl, ρ1.ob ++ [.lst ((xs.map f).map .d)]⟩) :
    ∃ I : Nat → List OB → List PyData → Prop, I 0 ρ1.ob [] ∧
  (∀ (i : Nat) (x : PyData) (ob : List OB) (acc : List PyData), xs[i]? = some x → I i ob acc → ob.length = ρ1.ob.length → wg (.d x) ⟨wipeS ρ1.sl vs, ob ++ [.lst (acc.map .d)]⟩ fun ρ2 => wYes ρ2 (fun b ρ3 => match b with
    | true => we ρ3 (fun y ρ4 => acc.length < sizeLine ∧ ∃ (dy : PyData) (ob' ex : List OB), y = .d dy ∧ ρ4.ob = ob' ++ .lst (acc.map .d) :: ex ∧ ob'.length = ρ1.ob.length ∧ (ex = [] ∨ ob'.all (belB (ob'.length + 1)) = true) ∧ I (i + 1) ob' (acc ++ [dy])) X0
    | false => ∃ (ob' : List OB), ρ3.ob = ob' ++ [.lst (acc.map .d)] ∧ ob'.length = ρ1.ob.length ∧ I (i + 1) ob' acc) X0) ∧
  (∀ (ob : List OB) (acc : List PyData), I xs.length ob acc → ob.length = ρ1.ob.length → Q (.o ob.length) ⟨ρ1.sl, ob ++ [.lst (acc.map .d)]⟩) := by
  refine ⟨fun i ob acc => ob = ρ1.ob ∧ acc = (xs.take i).map f, ⟨rfl, by simp⟩, ?_, ?_⟩
  · rintro i x ob acc hx ⟨rfl, rfl⟩ _
    have hi : i < xs.length := (List.getElem?_eq_some_iff.mp hx).1
    refine h x (List.mem_of_getElem? hx) _ _ fun ρ4 e4 => ?_
    refine ⟨by rw [List.length_map, List.length_take]; omega, f x, ρ1.ob, [], rfl, e4, rfl, .inl rfl, rfl, ?_⟩
    rw [List.take_succ, hx, List.map_append]
    rfl
  · rintro ob acc ⟨rfl, rfl⟩ _
    rw [List.take_length]
    exact q
theorem lc_fun {wi : WI} {wg : WG} {we : WE} {vs : List Nat} {ρ : S} {Q : QD} {X : QX} (xs : List PyData) (ρ1 : S) (f : PyData → PyData) (hi : ∀ C : List PyData → S → Prop, C xs ρ1 → wi ρ C X) (hl : xs.length ≤ sizeLine)
    (h : ∀ x ∈ xs, ∀ (o : OB) (E : QD), (∀ ρ4 : S, ρ4.ob = ρ1.ob ++ [o] → E (.d (f x)) ρ4) → wg (.d x) ⟨wipeS ρ1.sl vs, ρ1.ob ++ [o]⟩ fun ρ2 => we ρ2 E X0) (q : Q (.o ρ1.ob.length) ⟨ρ1.sl, ρ1.ob ++ [.lst ((xs.map f).map .d)]⟩) : wLc wi wg wYes we vs ρ Q X :=
  hi _ (lc_map f hl h q)
/-- [.. for .. for ..] -/
theorem lc2_fun {wi wi1 : WI} {wg wg1 : WG} {we : WE} {vs vs1 : List Nat} {ρ : S} {Q : QD} {X : QX} (xs : List PyData) (ρ1 : S) (f : PyData → List PyData) (hi : ∀ C : List PyData → S → Prop, C xs ρ1 → wi ρ C X) (hl : (xs.flatMap f).length ≤ sizeLine)
    (h : ∀ (x : PyData), x ∈ xs → ∀ l : List PyData, wg (.d x) ⟨wipeS ρ1.sl vs, ρ1.ob ++ [.lst (l.map .d)]⟩ fun ρ2 => wi1 ρ2 (fun ys ρ3 => ρ3.ob = ρ1.ob ++ [.lst (l.map .d)] ∧ ys.length = (f x).length ∧
    ∀ (j : Nat) (y : PyData), ys[j]? = some y → ∀ l' : List PyData, wg1 (.d y) ⟨wipeS ρ3.sl vs1, ρ1.ob ++ [.lst (l'.map .d)]⟩ fun ρ4 => we ρ4 (fun z ρ5 => ρ5.ob = ρ1.ob ++ [.lst (l'.map .d)] ∧ ∃ dz, (f x)[j]? = some dz ∧ z = .d dz) X0) X0)
    (q : Q (.o ρ1.ob.length) ⟨ρ1.sl, ρ1.ob ++ [.lst ((xs.flatMap f).map .d)]⟩) : wLc2 wi wg wi1 wg1 we vs vs1 ρ Q X :=
  hi _ ⟨f, hl, fun i x hx l => h x (List.mem_of_getElem? hx) l, q⟩
theorem obK_last {sl : List (Option DV)} {ob : List OB} {x : OB} : obK ⟨sl, ob ++ [x]⟩ ob.length = x := by
  unfold obK
  rw [show (ob ++ [x])[ob.length]? = some x from get_last _ _]
theorem allD_map (l : List PyData) : allD (l.map .d) = some l := by
  induction l with
  | nil => rfl
  | cons x r ih =>
    show (match allD (r.map .d) with | some l => some (x :: l) | none => none) = _
    rw [ih]
theorem lst_last {sl : List (Option DV)} {ob : List OB} {l : List PyData} : lstOf ⟨sl, ob ++ [.lst (l.map .d)]⟩ (.o ob.length) = some l := by
  show (match obK ⟨sl, ob ++ [.lst (l.map .d)]⟩ ob.length with | .lst xs => allD xs | _ => none) = some l
  rw [obK_last]
  exact allD_map l
/-- all(..) of a list just made -/
theorem u_all {sl : List (Option DV)} {ob : List OB} {xs : List PyData} {p : PyData → Bool} {Q : QD} (q : Q (.d (.bool (xs.all p))) ⟨sl, ob ++ [.lst ((xs.map fun x => .bool (p x)).map .d)]⟩) : dAll [.o ob.length] ⟨sl, ob ++ [.lst ((xs.map fun x => .bool (p x)).map .d)]⟩ Q := by
  refine ⟨_, xs.map p, lst_last, ?_, ?_⟩
  · have := bools_map (xs.map p)
    rwa [List.map_map] at this
  · rw [List.all_map]
    exact q
theorem for_in {wi : WI} {wg : WG} {wb : WS} {E : DEnds} {ρ : S} (xs : List PyData) (ρ1 : S) (I : Nat → S → Prop) (hi : ∀ C : List PyData → S → Prop, C xs ρ1 → wi ρ C E.xr) (h0 : I 0 ρ1)
    (hs : ∀ (i : Nat) (x : PyData) (ρ' : S), xs[i]? = some x → I i ρ' → wg (.d x) ρ' fun ρ2 => wb { E with nx := I (i + 1), ct := I (i + 1), bk := E.nx } ρ2) (he : ∀ ρ' : S, I xs.length ρ' → E.nx ρ') : wFor wi wg wb E ρ := hi _ ⟨I, h0, hs, he⟩
end DL
end

section
set_option Elab.async false
set_option linter.all false
set_option maxRecDepth 100000
set_option maxHeartbeats 1000000
set_option autoImplicit false
namespace DL
open PySem PySem.Spec PyProof.Rows L2
/-! ### objects picked out and numbered anew -/
def renV (is : List Nat) : DV → DV
  | .d x => .d x
  | .o j => .o (is.idxOf j)
def inV (is : List Nat) : DV → Bool
  | .d _ => true
  | .o j => decide (j ∈ is)
def renB (is : List Nat) : OB → OB
  | .lst xs => .lst (xs.map (renV is))
  | .dk kvs => .dk (kvs.map fun p => (p.1, renV is p.2))
  | .dt kvs => .dt (kvs.map fun p => (p.1, renV is p.2))
  | .gone => .gone
def inB (is : List Nat) : OB → Bool
  | .lst xs => xs.all (inV is)
  | .dk kvs => kvs.all fun p => inV is p.2
  | .dt kvs => kvs.all fun p => inV is p.2
  | .gone => true
def pickA (is : List Nat) (as : List Addr) : List Addr := is.map fun i => as.getD i 0
def pickB (is : List Nat) (ob : List OB) : List OB := is.map fun i => renB is (ob.getD i .gone)
section
variable {K : PySem.W.Frag} {F G H : Hp} {as : List Addr} {is : List Nat}
theorem pick_get (hl : ∀ i ∈ is, i < as.length) {j : Nat} {a : Addr} (h : j ∈ is) (e : as[j]? = some a) : (pickA is as)[is.idxOf j]? = some a := by
  have hj : is.idxOf j < is.length := List.idxOf_lt_length_of_mem h
  unfold pickA
  rw [List.getElem?_map, List.getElem?_eq_getElem hj, List.getElem_idxOf hj]
  show some (as.getD j 0) = some a
  rw [List.getD_eq_getElem?_getD, e]
  rfl
theorem RepV.pick (hl : ∀ i ∈ is, i < as.length) {v : V} : ∀ {x : DV}, inV is x = true → RepV K G as v x → RepV K G (pickA is as) v (renV is x)
  | .d _, _, r => r
  | .o j, b, ⟨a, e, q⟩ => ⟨a, pick_get hl (of_decide_eq_true b) e, q⟩
theorem RepVs.pick (hl : ∀ i ∈ is, i < as.length) : ∀ {v : List V} {x : List DV}, x.all (inV is) = true → RepVs K G as v x → RepVs K G (pickA is as) v (x.map (renV is))
  | _, _, _, .nil => .nil
  | _, _, b, .cons r rs => by
    rw [List.all_cons, Bool.and_eq_true] at b
    exact .cons (r.pick hl b.1) (RepVs.pick hl b.2 rs)
theorem ObAt.pick (hl : ∀ i ∈ is, i < as.length) {a : Addr} : ∀ {x : OB}, inB is x = true → ObAt K G H as a x → ObAt K G H (pickA is as) a (renB is x)
  | .lst _, b, ⟨vs, e, r⟩ => ⟨vs, e, r.pick hl b⟩
  | .dk kvs, b, ⟨vs, e, e2, r⟩ => by
    refine ⟨vs, e, by rw [e2, List.map_map]; rfl, ?_⟩
    have := RepVs.pick hl (show (kvs.map (·.2)).all (inV is) = true by simpa [inB, List.all_map] using b) r
    rw [List.map_map] at this ⊢
    exact this
  | .dt kvs, b, ⟨vs, e, e2, r⟩ => by
    refine ⟨vs, e, by rw [e2, List.map_map]; rfl, ?_⟩
    have := RepVs.pick hl (show (kvs.map (·.2)).all (inV is) = true by simpa [inB, List.all_map] using b) r
    rw [List.map_map] at this ⊢
    exact this
  | .gone, _, _ => trivial
theorem Mem.pick {ob : List OB} (m : Mem K F G H as ob) (hn : is.Nodup) (hl : ∀ i ∈ is, i < ob.length) (hb : ∀ i ∈ is, inB is (ob.getD i .gone) = true) : Mem K F G H (pickA is as) (pickB is ob) := by
  have hla : ∀ i ∈ is, i < as.length := fun i hi => by rw [m.len]; exact hl i hi
  have at_k : ∀ {k : Nat} {a : Addr}, (pickA is as)[k]? = some a → ∃ i, i ∈ is ∧ is[k]? = some i ∧ as[i]? = some a := fun {k a} e => by
    unfold pickA at e
    rw [List.getElem?_map] at e
    cases q : is[k]? with
    | none => rw [q] at e; cases e
    | some i =>
      rw [q] at e
      have hi := List.mem_of_getElem? q
      have e : some (as.getD i 0) = some a := e
      rw [List.getD_eq_getElem?_getD, List.getElem?_eq_getElem (hla i hi)] at e
      exact ⟨i, hi, rfl, by rw [List.getElem?_eq_getElem (hla i hi)]; exact e⟩
  have ob_k : ∀ {k i : Nat} {x : OB}, is[k]? = some i → (pickB is ob)[k]? = some x → i ∈ is ∧ x = renB is (ob.getD i .gone) ∧ ob[i]? = some (ob.getD i .gone) := fun {k i x} q e => by
    have hi := List.mem_of_getElem? q
    unfold pickB at e
    rw [List.getElem?_map, q] at e
    refine ⟨hi, (Option.some.inj e).symm, ?_⟩
    rw [List.getD_eq_getElem?_getD, List.getElem?_eq_getElem (hl i hi)]
    rfl
  refine ⟨m.gh, m.fh, m.gf, ?_, by unfold pickA pickB; rw [List.length_map, List.length_map], fun a ha => ?_, fun a ha => ?_, fun k a x e1 e2 e3 => ?_, fun k a x e1 e2 => ?_⟩
  · unfold pickA
    refine List.pairwise_map.mpr (List.Pairwise.imp_of_mem (fun {i j} hi hj hne he => hne ?_) hn)
    rw [List.getD_eq_getElem?_getD, List.getD_eq_getElem?_getD, List.getElem?_eq_getElem (hla i hi), List.getElem?_eq_getElem (hla j hj)] at he
    have he : as[i]'(hla i hi) = as[j]'(hla j hj) := he
    exact (List.getElem_inj m.nd).mp he
  · obtain ⟨k, hk⟩ := List.getElem?_of_mem ha
    obtain ⟨i, _, _, e⟩ := at_k hk
    exact m.al a (List.mem_of_getElem? e)
  · obtain ⟨k, hk⟩ := List.getElem?_of_mem ha
    obtain ⟨i, _, _, e⟩ := at_k hk
    exact m.ofr a (List.mem_of_getElem? e)
  · obtain ⟨i, hi, q, e⟩ := at_k e1
    obtain ⟨_, rfl, eo⟩ := ob_k q e2
    exact m.own i a _ e eo fun z => by
      rw [z] at e3
      exact e3 rfl
  · obtain ⟨i, hi, q, e⟩ := at_k e1
    obtain ⟨_, rfl, eo⟩ := ob_k q e2
    exact (m.at_ i a _ e eo).pick hla (hb i hi)
end
/-! ### a call whose result may be one's own: the caller has no objects yet; of the callee's those of is are kept -/
section
variable {T : Sta} {pos p : Pos} {e : Expr} {es : List Expr} {w : WA}
def callP (is : List Nat) (sp : DSp) (xs : List DV) (ρ1 : S) (Q : QD) : Prop := xs.all isD = true ∧ ρ1.ob = [] ∧
  sp xs [] (fun dv ob' => is.Nodup ∧ (∀ i ∈ is, i < ob'.length) ∧ (∀ i ∈ is, inB is (ob'.getD i .gone) = true) ∧ inV is dv = true ∧ Q (renV is dv) ⟨ρ1.sl, pickB is ob'⟩) (fun _ _ => False)
def wCallP (is : List Nat) (sp : DSp) (w : WA) : WE := fun ρ Q X => w ρ (fun xs ρ1 => callP is sp xs ρ1 Q) X
theorem callP_ok {K : PySem.W.Frag} {m : Nat} {is : List Nat} {sp : DSp} {xs : List DV} {ρ1 : S} {Q : QD} {W : WX} {C : VK} {σ : St} {F G1 H1 : Hp} {as1 : List Addr} {vs : List V} (ok1 : Ok K ρ1 σ F G1 H1 as1) (kk : Kv K F G1 as1 σ Q C) (r1 : RepVs K G1 as1 vs xs)
    (hm : xs.length = m) (h1 : callP is sp xs ρ1 Q) : SpD K m sp vs H1 C (L2.WE W σ) := by
  obtain ⟨b1, b2, hs⟩ := h1
  obtain ⟨sl1, ob1⟩ := ρ1
  simp only at b2 hs
  subst b2
  have ea : as1 = [] := List.length_eq_zero_iff.mp ok1.mem.len
  subst ea
  have m0 : Mem K (rest G1 H1 []) G1 H1 [] [] := ok1.mem.into 0 rfl
  have fr : ∀ a o, F a = some o → rest G1 H1 [] a = some o := fun a o e => rest_get (ok1.mem.gf a o e) (by simp) (ok1.mem.fh a o e)
  refine ⟨rest G1 H1 [], G1, [], xs, [], _, _, m0, r1, hm, hs, fun dv ob' v G' H' as' q m' n' rv => ?_, fun xd ob' d G' H' as' q => q.elim⟩
  obtain ⟨q1, q2, q3, q4, q5⟩ := q
  have m2 : Mem K F G' H' as' ob' := by
    refine ⟨m'.gh, fun a o e => m'.fh a o (fr a o e), fun a o e => m'.gf a o (fr a o e), m'.nd, m'.len, m'.al, fun a ha => ?_, m'.own, m'.at_⟩
    cases q : F a with
    | none => rfl
    | some o =>
      have := m'.ofr a ha
      rw [fr a o q] at this
      cases this
  have n2 : Nxt G1 [] G' (pickA is as') := ⟨n'.g, pickA is as', rfl⟩
  refine kk (renV is dv) _ v G' H' (pickA is as') q5 ⟨m2.pick q1 q2 q3, ok1.sll, fun i dx e => ?_⟩ n2 (rv.pick (fun i hi => by rw [m2.len]; exact q2 i hi) q4)
  obtain ⟨u, e1, r⟩ := ok1.sl i dx e
  exact ⟨u, e1, r.mono n2⟩
theorem pd_callP {x : Str} {p : Pos} {ps : List Str} {st : Stmt} {sp : DSp} (is : List Nat) (D : Def T x st ps sp) (hg : T.sc.names.lookup x = some .globalImplicit) (ha : PDA T (e :: es) w)
    (hdb : (x == ("__debug__" : Str)) = false := by decide) (he : ∀ env, starEach (e :: es) env = (false, eval e env) :: starEach es env := by intro _; rfl) (hpl : ∀ env, (backTo pos (starEach es env)).any (·.1) = false := by intro _; rfl) :
    PD T (.Call (.Name x p) (e :: es) [] pos) (wCallP is sp w) := by
  obtain ⟨⟨k, f, fd, hk, Fn, hm, hkp, hb, _⟩, hlen⟩ := D
  obtain ⟨ta, ha, da⟩ := ha
  refine ⟨fun W => tCallG (SpD T.K ps.length sp) [] W (ta W), fun W X g tk => ?_, fun ρ Q X h W σ F G H as ok acc C kk => ?_⟩
  · obtain ⟨h1, h2, h3, h4, h5, h6, h7, h8, h9, h10, h11, h12, h13⟩ := g
    have ha' := ha W X ⟨h1, h2, h3, h4, h5, h6, h7, h8, h9, h10, h11, h12, h13⟩ tk
    obtain ⟨TP, Tw, TK, Tmg, Tb, TN, Tsc, Tk, Tt⟩ := T
    simp only at h1 h2 h3 h4 h5 h6 h7 h8 h9 h10 h11 h12 h13 hk Fn hm hkp hb hg
    subst h1 h2 h3 h4 h5 h6 h7
    exact pe_callG Fn h13 (h9.mono hk) hg hm hkp hb .nil tk ha' hdb (he _) (hpl _)
  · refine da _ _ _ h W σ F G H as ok acc _ fun xs ρ1 vs G1 H1 as1 h1 ok1 n1 r1 => ?_
    show SpD T.K ps.length sp (vs ++ []) H1 C (L2.WE W σ)
    rw [List.append_nil]
    exact callP_ok ok1 (kk.next n1) r1 (hlen _ _ _ _ h1.2.2) h1
end
/-! ### the deck of a law: its objects 0 and 1 -/
def deckO (m d : Int) : OB := .dk [(.inr "cells", .o 1), (.inr "mixed", .d (.int m)), (.inr "draws", .d (.int d))]
def cellsO (c : List Int) : OB := .lst ((c.map PyData.int).map .d)
/-- a def that draws: takes the deck and data, gives data -/
def dkS (n : Nat) (pre : List PyData → Prop) (v : List PyData → PyData → Prop) : DSp := fun dvs ob R _ => ∃ (ds : List PyData) (c : List Int) (m d : Int), dvs = .o 0 :: ds.map .d ∧ ds.length = n ∧ pre ds ∧ c.length ≤ 63 ∧ ob = [deckO m d, cellsO c] ∧
  ∀ (y : PyData) (c' : List Int) (m' d' : Int) (rest : List OB), v ds y → c'.length ≤ 63 → R (.d y) (deckO m' d' :: cellsO c' :: rest)
theorem dkS_len {n : Nat} {pre : List PyData → Prop} {v : List PyData → PyData → Prop} : ∀ (ys : List DV) (ob : List OB) (R : DV → List OB → Prop) (X : XD → List OB → Prop), dkS n pre v ys ob R X → ys.length = n + 1 := by
  rintro ys ob R X ⟨ds, c, m, d, rfl, h, _⟩
  rw [List.length_cons, List.length_map, h]
theorem bel_cells (c : List Int) : belB 2 (cellsO c) = true := bel_data 2 (c.map .int)
theorem call_dk {n : Nat} {pre : List PyData → Prop} {v : List PyData → PyData → Prop} (ds : List PyData) {sl : List (Option DV)} {c : List Int} {m d : Int} {rest : List OB} {Q : QD} {X : QX} (hl : ds.length = n) (hp : pre ds) (hc : c.length ≤ 63)
    (q : ∀ (y : PyData) (c' : List Int) (m' d' : Int), v ds y → c'.length ≤ 63 → Q (.d y) ⟨sl, deckO m' d' :: cellsO c' :: rest⟩) : callD 2 (dkS n pre v) (.o 0 :: ds.map .d) ⟨sl, deckO m d :: cellsO c :: rest⟩ Q X := by
  have bb : ∀ (c : List Int) (m d : Int), [deckO m d, cellsO c].all (belB 2) = true := fun c m d => by
    show (belB 2 (deckO m d) && (belB 2 (cellsO c) && true)) = true
    rw [bel_cells]
    rfl
  refine ⟨?_, by simp, bb c m d, ds, c, m, d, rfl, hl, hp, hc, rfl, fun y c' m' d' r' hv hc' => ⟨rfl, by simp, bb c' m' d', ?_⟩⟩
  · show (belV 2 (.o 0) && (ds.map DV.d).all (belV 2)) = true
    rw [all_bel]
    rfl
  · exact q y c' m' d' hv hc'
end DL
end

section
set_option Elab.async false
set_option linter.all false
set_option maxRecDepth 100000
set_option maxHeartbeats 1000000
set_option autoImplicit false
namespace DL
open PySem PySem.Spec PyProof.Rows L2
/-! ### what is read off the deck -/
theorem k_cm : (("cells" : Str) = ("mixed" : Str)) = False := by decide
theorem k_cd : (("cells" : Str) = ("draws" : Str)) = False := by decide
theorem k_md : (("mixed" : Str) = ("draws" : Str)) = False := by decide
section
variable {sl : List (Option DV)} {rest : List OB} {m d : Int} {Q : QD}
theorem look_cells {x y z : DV} : lookD [((.inr ("cells" : Str) : Key), x), (.inr ("mixed" : Str), y), (.inr ("draws" : Str), z)] (.inr ("cells" : Str)) = some x := by simp [lookD]
theorem look_mixed {x y z : DV} : lookD [((.inr ("cells" : Str) : Key), x), (.inr ("mixed" : Str), y), (.inr ("draws" : Str), z)] (.inr ("mixed" : Str)) = some y := by simp [lookD, k_cm]
theorem look_draws {x y z : DV} : lookD [((.inr ("cells" : Str) : Key), x), (.inr ("mixed" : Str), y), (.inr ("draws" : Str), z)] (.inr ("draws" : Str)) = some z := by simp [lookD, k_cd, k_md]
theorem dg_cells (q : Q (.o 1) ⟨sl, deckO m d :: rest⟩) : dDG (.o 0) (.d (.str ("cells" : Str))) ⟨sl, deckO m d :: rest⟩ Q := by
  show (match some (lookD [((.inr ("cells" : Str) : Key), DV.o 1), (.inr ("mixed" : Str), .d (.int m)), (.inr ("draws" : Str), .d (.int d))] (.inr ("cells" : Str))) with | some (some z) => Q z ⟨sl, deckO m d :: rest⟩ | _ => False)
  rw [look_cells]
  exact q
theorem dg_mixed (q : Q (.d (.int m)) ⟨sl, deckO m d :: rest⟩) : dDG (.o 0) (.d (.str ("mixed" : Str))) ⟨sl, deckO m d :: rest⟩ Q := by
  show (match some (lookD [((.inr ("cells" : Str) : Key), DV.o 1), (.inr ("mixed" : Str), .d (.int m)), (.inr ("draws" : Str), .d (.int d))] (.inr ("mixed" : Str))) with | some (some z) => Q z ⟨sl, deckO m d :: rest⟩ | _ => False)
  rw [look_mixed]
  exact q
theorem dg_draws (q : Q (.d (.int d)) ⟨sl, deckO m d :: rest⟩) : dDG (.o 0) (.d (.str ("draws" : Str))) ⟨sl, deckO m d :: rest⟩ Q := by
  show (match some (lookD [((.inr ("cells" : Str) : Key), DV.o 1), (.inr ("mixed" : Str), .d (.int m)), (.inr ("draws" : Str), .d (.int d))] (.inr ("draws" : Str))) with | some (some z) => Q z ⟨sl, deckO m d :: rest⟩ | _ => False)
  rw [look_draws]
  exact q
theorem put_draws {e : Int} : putR ⟨sl, deckO m d :: rest⟩ (.o 0) (.d (.str ("draws" : Str))) (.d (.int e)) = some ⟨sl, deckO m e :: rest⟩ := by
  show some (⟨sl, (deckO m d :: rest).set 0 (.dk (putD _ _ _))⟩ : S) = _
  simp [putD, k_cd, k_md, deckO]
theorem few_deck : fewD ⟨sl, deckO m d :: rest⟩ (.o 0) = true := by
  show decide ((3 : Nat) < sizeLine) = true
  decide
end
theorem canLay_ints : ∀ l : List Int, PyData.canLayAll0 (l.map .int) = true
  | [] => rfl
  | x :: r => by simp [PyData.canLayAll0, PyData.canLay0, canLay_ints r]
theorem noDict_ints : ∀ l : List Int, PyData.hasDictAll (l.map .int) = false
  | [] => rfl
  | x :: r => by simp [PyData.hasDictAll, PyData.hasDict, noDict_ints r]
theorem eqs_ints (l : List Int) : Eqs (.list (l.map .int)) := by
  have h1 := noDict_ints l
  have h2 := canLay_ints l
  have h3 : PyData.depthAll (l.map .int) = 0 := PySem.W.depth_ints l
  refine ⟨by simpa [PyData.hasDict] using h1, ?_⟩
  unfold SeqAt.shaped
  simp [PyData.canLay0, h2, PyData.depth, h3]
theorem eqs_nil : Eqs (.list []) := eqs_ints []
theorem eqv_nil (l : List PyData) : PyData.eqv (.list l) (.list []) = l.isEmpty := by
  cases l <;> simp [PyData.eqv, PyData.eqvAll]
theorem dat_of {ρ : S} {k : Nat} {l : List PyData} (h : obK ρ k = .lst (l.map .d)) : datOf ρ (.o k) = some (.list l) := by
  show (match obK ρ k with | .lst xs => (allD xs).map PyData.list | _ => none) = _
  rw [h]
  show (allD (l.map .d)).map PyData.list = _
  rw [allD_map]
  rfl
/-- xs != [] -/
theorem u_neNil {ρ : S} {k j : Nat} {l : List PyData} {Q : QD} (h1 : obK ρ k = .lst (l.map .d)) (h2 : obK ρ j = .lst (([] : List PyData).map .d)) (he : Eqs (.list l)) (q : Q (.d (.bool (!l.isEmpty))) ρ) : dNe (.o k) (.o j) ρ Q :=
  ⟨_, _, dat_of h1, dat_of h2, he, eqs_nil, by rw [eqv_nil]; exact q⟩
theorem u_eqNil {ρ : S} {k j : Nat} {l : List PyData} {Q : QD} (h1 : obK ρ k = .lst (l.map .d)) (h2 : obK ρ j = .lst (([] : List PyData).map .d)) (he : Eqs (.list l)) (q : Q (.d (.bool l.isEmpty)) ρ) : dEq (.o k) (.o j) ρ Q :=
  ⟨_, _, dat_of h1, dat_of h2, he, eqs_nil, by rw [eqv_nil]; exact q⟩
theorem snoc_of {α : Type} {l : List α} (h : l ≠ []) : ∃ r x, l = r ++ [x] := ⟨l.dropLast, l.getLast h, (List.dropLast_concat_getLast h).symm⟩
/-- xs.pop() -/
theorem u_pop {ρ : S} {k : Nat} {l : List PyData} {x : PyData} {Q : QD} (h : obK ρ k = .lst ((l ++ [x]).map .d)) (q : Q (.d x) ⟨ρ.sl, ρ.ob.set k (.lst (l.map .d))⟩) : dPop (.o k) [] ρ Q := by
  show (match obK ρ k with | .lst xs => ∃ z, xs[xs.length - 1]? = some z ∧ Q z ⟨ρ.sl, ρ.ob.set k (.lst xs.dropLast)⟩ | _ => False)
  rw [h, List.map_append]
  refine ⟨.d x, by simp, ?_⟩
  rw [show (l.map DV.d ++ [x].map DV.d).dropLast = l.map DV.d from by simp]
  exact q
theorem u_tyL {ρ : S} {k : Nat} {xs : List DV} (h : obK ρ k = .lst xs) : tyD "list" ρ (.o k) := by
  show (match obK ρ k with | .lst _ => "list" = "list" | .dk _ => "list" = "dict" | .dt _ => "list" = "dict" | .gone => False)
  rw [h]
/-- xs.append(y) -/
theorem u_app {ρ : S} {k : Nat} {l : List PyData} {x : PyData} {Q : QD} (h : obK ρ k = .lst (l.map .d)) (hl : l.length < sizeLine) (q : Q (.d .none) ⟨ρ.sl, ρ.ob.set k (.lst ((l ++ [x]).map .d))⟩) : dApp (.o k) [.d x] ρ Q := by
  show (match obK ρ k with | .lst xs => xs.length < sizeLine ∧ Q (.d .none) ⟨ρ.sl, ρ.ob.set k (.lst (xs ++ [.d x]))⟩ | _ => False)
  rw [h]
  refine ⟨by rw [List.length_map]; exact hl, ?_⟩
  rw [List.map_append] at q
  exact q
theorem cells_snoc (c : List Int) (x : Int) : OB.lst ((c.map PyData.int ++ [PyData.int x]).map .d) = cellsO (c ++ [x]) := by
  unfold cellsO
  rw [List.map_append (f := PyData.int)]
  rfl
theorem cells_eq (c : List Int) : OB.lst ((c.map PyData.int).map .d) = cellsO c := rfl
theorem frz_of {ρ : S} {k : Nat} (l : List PyData) (h : obK ρ k = .lst (l.map .d)) : frz ρ k = some (.list l, ⟨ρ.sl.map (ren k (.list l)), ρ.ob.set k .gone⟩) := by
  unfold frz
  rw [h]
  show (allD (l.map .d)).map _ = _
  rw [allD_map]
  rfl
end DL
namespace DL
open PySem PySem.Spec PyProof.Rows L2
/-- the same, without objects of one's own at the start -/
def pur0 (n : Nat) (v : List PyData → PyData → Prop) : DSp := fun dvs ob R _ => ∃ (ds : List PyData) (y : PyData), dvs = ds.map .d ∧ ds.length = n ∧ v ds y ∧ ob = [] ∧ ∀ ob', R (.d y) ob'
theorem pur0_len {n : Nat} {v : List PyData → PyData → Prop} : ∀ (ys : List DV) (ob : List OB) (R : DV → List OB → Prop) (X : XD → List OB → Prop), pur0 n v ys ob R X → ys.length = n := by
  rintro ys ob R X ⟨ds, y, rfl, h, _⟩
  rw [List.length_map]
  exact h
theorem call_pur0 {n : Nat} {v : List PyData → PyData → Prop} (ds : List PyData) (y : PyData) {ρ : S} {Q : QD} {X : QX} (hl : ds.length = n) (h : v ds y) (q : Q (.d y) ρ) : callD 0 (pur0 n v) (ds.map .d) ρ Q X :=
  ⟨all_bel 0 ds, Nat.zero_le _, rfl, ds, y, rfl, hl, h, rfl, fun ob' => ⟨rfl, Nat.zero_le _, rfl, q⟩⟩
theorem u_lenO {ρ : S} {k : Nat} {l : List PyData} {Q : QD} (h : obK ρ k = .lst (l.map .d)) (q : Q (.d (.int (l.length : Nat))) ρ) : dLen [.o k] ρ Q := by
  refine ⟨l.map .d, ?_, by rw [List.length_map]; exact q⟩
  show (match obK ρ k with | .lst xs => some xs | _ => none) = _
  rw [h]
theorem erase_map {α β : Type} (f : α → β) : ∀ (l : List α) (n : Nat), (l.map f).eraseIdx n = (l.eraseIdx n).map f
  | [], _ => rfl
  | _ :: _, 0 => rfl
  | x :: r, n + 1 => by
    show f x :: (r.map f).eraseIdx n = f x :: (r.eraseIdx n).map f
    rw [erase_map f r n]
theorem u_popAt {ρ : S} {k : Nat} {l : List PyData} {x : PyData} {i : Int} {Q : QD} (h : obK ρ k = .lst (l.map .d)) (h0 : 0 ≤ i) (h1 : i < 2 ^ 62) (hx : l[i.toNat]? = some x) (q : Q (.d x) ⟨ρ.sl, ρ.ob.set k (.lst ((l.eraseIdx i.toNat).map .d))⟩) : dPopAt (.o k) [.d (.int i)] ρ Q := by
  show (match obK ρ k with | .lst xs => ∃ z, 0 ≤ i ∧ i < 2 ^ 62 ∧ xs[i.toNat]? = some z ∧ Q z ⟨ρ.sl, ρ.ob.set k (.lst (xs.eraseIdx i.toNat))⟩ | _ => False)
  rw [h]
  refine ⟨.d x, h0, h1, by rw [List.getElem?_map, hx]; rfl, ?_⟩
  rw [erase_map]
  exact q
theorem u_ext {ρ : S} {k j : Nat} {l l2 : List PyData} {Q : QD} (h1 : obK ρ k = .lst (l.map .d)) (h2 : obK ρ j = .lst (l2.map .d)) (hl : l.length + l2.length ≤ sizeLine) (q : Q (.d .none) ⟨ρ.sl, ρ.ob.set k (.lst ((l ++ l2).map .d))⟩) : dExt (.o k) [.o j] ρ Q := by
  show (match obK ρ k, obK ρ j with | .lst xs, .lst zs => xs.length + zs.length ≤ sizeLine ∧ Q (.d .none) ⟨ρ.sl, ρ.ob.set k (.lst (xs ++ zs))⟩ | _, _ => False)
  rw [h1, h2]
  refine ⟨by rw [List.length_map, List.length_map]; exact hl, ?_⟩
  rw [List.map_append] at q
  exact q
theorem u_tupL {ρ : S} {k : Nat} {l : List PyData} {Q : QD} (h : obK ρ k = .lst (l.map .d)) (q : Q (.d (.tuple l)) ρ) : dTuple [.o k] ρ Q := ⟨l, lst_of' h, q⟩
where
  lst_of' {ρ : S} {k : Nat} {l : List PyData} (h : obK ρ k = .lst (l.map .d)) : lstOf ρ (.o k) = some l := by
    show (match obK ρ k with | .lst xs => allD xs | _ => none) = some l
    rw [h]
    exact allD_map l
/-- for, the walked row known by what holds of it -/
theorem for_in' {wi : WI} {wg : WG} {wb : WS} {E : DEnds} {ρ : S} (P : List PyData → S → Prop) (I : Nat → S → Prop) (hi : ∀ C : List PyData → S → Prop, (∀ xs ρ1, P xs ρ1 → C xs ρ1) → wi ρ C E.xr) (h0 : ∀ xs ρ1, P xs ρ1 → I 0 ρ1)
    (hs : ∀ xs ρ1, P xs ρ1 → ∀ (i : Nat) (x : PyData) (ρ' : S), xs[i]? = some x → I i ρ' → wg (.d x) ρ' fun ρ2 => wb { E with nx := I (i + 1), ct := I (i + 1), bk := E.nx } ρ2) (he : ∀ xs ρ1, P xs ρ1 → ∀ ρ' : S, I xs.length ρ' → E.nx ρ') : wFor wi wg wb E ρ :=
  hi _ fun xs ρ1 p => ⟨I, h0 xs ρ1 p, hs xs ρ1 p, he xs ρ1 p⟩
end DL
end

section
set_option Elab.async false
set_option linter.all false
set_option maxRecDepth 100000
set_option maxHeartbeats 1000000
set_option autoImplicit false
namespace DL
open PySem PySem.Spec PyProof.Rows L2
/-! ### data whose repr is short -/
structure Sh (w k : Nat) (d : PyData) : Prop where
  s : d.showable = true
  n : d.hasDict = false
  l : d.leavesShort 13 = true
  w : d.weight ≤ w
  k : d.depth ≤ k
theorem short64 : ((List.range 65).all fun n => decide ((PyData.shown (.int (n : Int))).length ≤ 13) && decide ((n : Int).natAbs.log2 < 1920) && decide ((PyData.int (n : Int)).weight ≤ 7)) = true := by decide +kernel
theorem sh_int {i : Int} (h0 : 0 ≤ i) (h1 : i ≤ 64) : Sh 7 0 (.int i) := by
  have h := List.all_eq_true.mp short64 i.toNat (List.mem_range.mpr (by omega))
  rw [Int.toNat_of_nonneg h0, Bool.and_eq_true, Bool.and_eq_true, decide_eq_true_eq, decide_eq_true_eq, decide_eq_true_eq] at h
  exact ⟨by simp [PyData.showable, h.1.2], by simp [PyData.hasDict], by simp [PyData.leavesShort, h.1.1], h.2, by simp [PyData.depth]⟩
theorem sh_bool (b : Bool) : Sh 0 0 (.bool b) := ⟨by simp [PyData.showable], by simp [PyData.hasDict], by simp [PyData.leavesShort], by simp [PyData.weight], by simp [PyData.depth]⟩
theorem sh_none : Sh 0 0 .none := ⟨by simp [PyData.showable], by simp [PyData.hasDict], by simp [PyData.leavesShort], by simp [PyData.weight], by simp [PyData.depth]⟩
theorem sh_tup {w k : Nat} {xs : List PyData} (h : ∀ x ∈ xs, Sh w k x) : Sh ((w + 1) * xs.length) (k + 1) (.tuple xs) := by
  have all : PyData.showableAll xs = true ∧ PyData.hasDictAll xs = false ∧ PyData.leavesShortAll 13 xs = true ∧ PyData.weightAll xs ≤ (w + 1) * xs.length ∧ PyData.depthAll xs ≤ k := by
    induction xs with
    | nil => simp [PyData.showableAll, PyData.hasDictAll, PyData.leavesShortAll, PyData.weightAll, PyData.depthAll]
    | cons x r ih =>
      obtain ⟨a, b, c, d, e⟩ := ih fun y hy => h y (List.mem_cons_of_mem _ hy)
      obtain ⟨a', b', c', d', e'⟩ := h x List.mem_cons_self
      refine ⟨by simp [PyData.showableAll, a, a'], by simp [PyData.hasDictAll, b, b'], by simp [PyData.leavesShortAll, c, c'], ?_, ?_⟩
      · simp only [PyData.weightAll, List.length_cons]
        have : (w + 1) * (r.length + 1) = (w + 1) * r.length + (w + 1) := by rw [Nat.mul_add, Nat.mul_one]
        omega
      · simp only [PyData.depthAll]
        omega
  obtain ⟨a, b, c, d, e⟩ := all
  exact ⟨by simp [PyData.showable, a], by simp [PyData.hasDict, b], by simp [PyData.leavesShort, c], by simp only [PyData.weight]; exact d, by simp only [PyData.depth]; omega⟩
theorem Sh.mono {w k w' k' : Nat} {d : PyData} (h : Sh w k d) (hw : w ≤ w') (hk : k ≤ k') : Sh w' k' d := ⟨h.s, h.n, h.l, Nat.le_trans h.w hw, Nat.le_trans h.k hk⟩
theorem Sh.shows {w k : Nat} {d : PyData} (h : Sh w k d) (hw : w ≤ 1000000) (hk : k ≤ 60) : Shows d := by
  refine ⟨h.s, h.n, ?_, Nat.le_trans h.k hk⟩
  have h1 := PyData.shown_le 13 (by decide) d h.l
  have h2 := h.w
  have e : sizeLine = 16777216 := by decide
  rw [e]
  omega
end DL
end

section
set_option Elab.async false
set_option linter.all false
set_option maxRecDepth 100000
set_option maxHeartbeats 1000000
set_option autoImplicit false
namespace K02
open PySem PySem.Spec PyProof.Rows L2 DL
def topS (i : Nat) : Stmt := PySem.Challenge.pw_touchrings_k02_places_seats_steps_and_pa.main.body.getD i (.Pass ⟨0, 0, 0, 0⟩)
abbrev s_is_whole : Stmt := topS 6
abbrev nN_is_whole : List Str := ["thing"]
abbrev nP_is_whole : List Str := ["thing"]
theorem sc_is_whole : FnScope nN_is_whole nP_is_whole (defScope s_is_whole) := ⟨rfl, rfl, rfl, by decide +kernel, rfl, by decide +kernel, by decide +kernel⟩
abbrev s_is_below : Stmt := topS 7
abbrev nN_is_below : List Str := ["thing", "end"]
abbrev nP_is_below : List Str := ["thing", "end"]
theorem sc_is_below : FnScope nN_is_below nP_is_below (defScope s_is_below) := ⟨rfl, rfl, rfl, by decide +kernel, rfl, by decide +kernel, by decide +kernel⟩
abbrev s_is_pair : Stmt := topS 8
abbrev nN_is_pair : List Str := ["thing"]
abbrev nP_is_pair : List Str := ["thing"]
theorem sc_is_pair : FnScope nN_is_pair nP_is_pair (defScope s_is_pair) := ⟨rfl, rfl, rfl, by decide +kernel, rfl, by decide +kernel, by decide +kernel⟩
abbrev s_is_ascending : Stmt := topS 9
abbrev nN_is_ascending : List Str := ["items", "low", "high"]
abbrev nP_is_ascending : List Str := ["items"]
theorem sc_is_ascending : FnScope nN_is_ascending nP_is_ascending (defScope s_is_ascending) := ⟨rfl, rfl, rfl, by decide +kernel, rfl, by decide +kernel, by decide +kernel⟩
abbrev s_are_rings : Stmt := topS 12
abbrev nN_are_rings : List Str := ["thing", "length"]
abbrev nP_are_rings : List Str := ["thing"]
theorem sc_are_rings : FnScope nN_are_rings nP_are_rings (defScope s_are_rings) := ⟨rfl, rfl, rfl, by decide +kernel, rfl, by decide +kernel, by decide +kernel⟩
abbrev s_is_floor : Stmt := topS 13
abbrev nN_is_floor : List Str := ["thing", "rings", "touches", "touched", "touch", "place"]
abbrev nP_is_floor : List Str := ["thing"]
theorem sc_is_floor : FnScope nN_is_floor nP_is_floor (defScope s_is_floor) := ⟨rfl, rfl, rfl, by decide +kernel, rfl, by decide +kernel, by decide +kernel⟩
abbrev s_is_place : Stmt := topS 14
abbrev nN_is_place : List Str := ["floor", "thing"]
abbrev nP_is_place : List Str := ["floor", "thing"]
theorem sc_is_place : FnScope nN_is_place nP_is_place (defScope s_is_place) := ⟨rfl, rfl, rfl, by decide +kernel, rfl, by decide +kernel, by decide +kernel⟩
abbrev s_is_place_on : Stmt := topS 15
abbrev nN_is_place_on : List Str := ["rings", "thing"]
abbrev nP_is_place_on : List Str := ["rings", "thing"]
theorem sc_is_place_on : FnScope nN_is_place_on nP_is_place_on (defScope s_is_place_on) := ⟨rfl, rfl, rfl, by decide +kernel, rfl, by decide +kernel, by decide +kernel⟩
abbrev s_is_touch : Stmt := topS 16
abbrev nN_is_touch : List Str := ["rings", "thing"]
abbrev nP_is_touch : List Str := ["rings", "thing"]
theorem sc_is_touch : FnScope nN_is_touch nP_is_touch (defScope s_is_touch) := ⟨rfl, rfl, rfl, by decide +kernel, rfl, by decide +kernel, by decide +kernel⟩
abbrev s_need_floor : Stmt := topS 17
abbrev nN_need_floor : List Str := ["floor"]
abbrev nP_need_floor : List Str := ["floor"]
theorem sc_need_floor : FnScope nN_need_floor nP_need_floor (defScope s_need_floor) := ⟨rfl, rfl, rfl, by decide +kernel, rfl, by decide +kernel, by decide +kernel⟩
abbrev s_need_place : Stmt := topS 18
abbrev nN_need_place : List Str := ["floor", "place"]
abbrev nP_need_place : List Str := ["floor", "place"]
theorem sc_need_place : FnScope nN_need_place nP_need_place (defScope s_need_place) := ⟨rfl, rfl, rfl, by decide +kernel, rfl, by decide +kernel, by decide +kernel⟩
abbrev s_partners : Stmt := topS 19
abbrev nN_partners : List Str := ["floor", "found", "x", "y"]
abbrev nP_partners : List Str := ["floor"]
theorem sc_partners : FnScope nN_partners nP_partners (defScope s_partners) := ⟨rfl, rfl, rfl, by decide +kernel, rfl, by decide +kernel, by decide +kernel⟩
abbrev s_places : Stmt := topS 20
abbrev nN_places : List Str := ["floor", "u", "length", "i"]
abbrev nP_places : List Str := ["floor"]
theorem sc_places : FnScope nN_places nP_places (defScope s_places) := ⟨rfl, rfl, rfl, by decide +kernel, rfl, by decide +kernel, by decide +kernel⟩
abbrev s_seat : Stmt := topS 21
abbrev nN_seat : List Str := ["floor", "place", "u", "i"]
abbrev nP_seat : List Str := ["floor", "place"]
theorem sc_seat : FnScope nN_seat nP_seat (defScope s_seat) := ⟨rfl, rfl, rfl, by decide +kernel, rfl, by decide +kernel, by decide +kernel⟩
abbrev s_behind : Stmt := topS 22
abbrev nN_behind : List Str := ["floor", "place", "k", "u", "i"]
abbrev nP_behind : List Str := ["floor", "place", "k"]
theorem sc_behind : FnScope nN_behind nP_behind (defScope s_behind) := ⟨rfl, rfl, rfl, by decide +kernel, rfl, by decide +kernel, by decide +kernel⟩
abbrev s_partner : Stmt := topS 23
abbrev nN_partner : List Str := ["floor", "place"]
abbrev nP_partner : List Str := ["floor", "place"]
theorem sc_partner : FnScope nN_partner nP_partner (defScope s_partner) := ⟨rfl, rfl, rfl, by decide +kernel, rfl, by decide +kernel, by decide +kernel⟩
abbrev s_law_deck : Stmt := topS 25
abbrev nN_law_deck : List Str := ["_law_script", "_law_mixed", "_law_cell"]
abbrev nP_law_deck : List Str := ["_law_script"]
theorem sc_law_deck : FnScope nN_law_deck nP_law_deck (defScope s_law_deck) := ⟨rfl, rfl, rfl, by decide +kernel, rfl, by decide +kernel, by decide +kernel⟩
abbrev s_law_draw : Stmt := topS 26
abbrev nN_law_draw : List Str := ["_law_deck_here", "_law_many", "_law_number", "_law_cell"]
abbrev nP_law_draw : List Str := ["_law_deck_here", "_law_many"]
theorem sc_law_draw : FnScope nN_law_draw nP_law_draw (defScope s_law_draw) := ⟨rfl, rfl, rfl, by decide +kernel, rfl, by decide +kernel, by decide +kernel⟩
abbrev s_law_pick : Stmt := topS 27
abbrev nN_law_pick : List Str := ["_law_deck_here", "_law_some"]
abbrev nP_law_pick : List Str := ["_law_deck_here", "_law_some"]
theorem sc_law_pick : FnScope nN_law_pick nP_law_pick (defScope s_law_pick) := ⟨rfl, rfl, rfl, by decide +kernel, rfl, by decide +kernel, by decide +kernel⟩
abbrev s_law_order : Stmt := topS 28
abbrev nN_law_order : List Str := ["_law_deck_here", "_law_n", "_law_left", "_law_found", "_law_turn"]
abbrev nP_law_order : List Str := ["_law_deck_here", "_law_n"]
theorem sc_law_order : FnScope nN_law_order nP_law_order (defScope s_law_order) := ⟨rfl, rfl, rfl, by decide +kernel, rfl, by decide +kernel, by decide +kernel⟩
abbrev s_law_spots : Stmt := topS 29
abbrev nN_law_spots : List Str := ["_law_rings_here", "_law_found", "_law_u", "_law_length", "_law_i"]
abbrev nP_law_spots : List Str := ["_law_rings_here"]
theorem sc_law_spots : FnScope nN_law_spots nP_law_spots (defScope s_law_spots) := ⟨rfl, rfl, rfl, by decide +kernel, rfl, by decide +kernel, by decide +kernel⟩
abbrev s_law_rings : Stmt := topS 30
abbrev nN_law_rings : List Str := ["_law_deck_here", "_law_most", "_law_found", "_law_left", "_law_turn", "_law_length"]
abbrev nP_law_rings : List Str := ["_law_deck_here", "_law_most"]
theorem sc_law_rings : FnScope nN_law_rings nP_law_rings (defScope s_law_rings) := ⟨rfl, rfl, rfl, by decide +kernel, rfl, by decide +kernel, by decide +kernel⟩
abbrev s_law_floor : Stmt := topS 31
abbrev nN_law_floor : List Str := ["_law_deck_here", "_law_most", "_law_rings_here", "_law_touches", "_law_spots_here", "_law_order_here", "_law_way", "_law_turn", "_law_x", "_law_y"]
abbrev nP_law_floor : List Str := ["_law_deck_here", "_law_most"]
theorem sc_law_floor : FnScope nN_law_floor nP_law_floor (defScope s_law_floor) := ⟨rfl, rfl, rfl, by decide +kernel, rfl, by decide +kernel, by decide +kernel⟩
abbrev s_law_wide_floor : Stmt := topS 32
abbrev nN_law_wide_floor : List Str := ["_law_deck_here", "_law_rings_here", "_law_left", "_law_turn", "_law_length", "_law_spots_here", "_law_order_here", "_law_touches"]
abbrev nP_law_wide_floor : List Str := ["_law_deck_here"]
theorem sc_law_wide_floor : FnScope nN_law_wide_floor nP_law_wide_floor (defScope s_law_wide_floor) := ⟨rfl, rfl, rfl, by decide +kernel, rfl, by decide +kernel, by decide +kernel⟩
abbrev s_law_behind : Stmt := topS 33
abbrev nN_law_behind : List Str := ["_law_floor_here", "_law_place", "_law_k"]
abbrev nP_law_behind : List Str := ["_law_floor_here", "_law_place", "_law_k"]
theorem sc_law_behind : FnScope nN_law_behind nP_law_behind (defScope s_law_behind) := ⟨rfl, rfl, rfl, by decide +kernel, rfl, by decide +kernel, by decide +kernel⟩
abbrev s_law_partners : Stmt := topS 34
abbrev nN_law_partners : List Str := ["_law_floor_here", "_law_found", "_law_x", "_law_y"]
abbrev nP_law_partners : List Str := ["_law_floor_here"]
theorem sc_law_partners : FnScope nN_law_partners nP_law_partners (defScope s_law_partners) := ⟨rfl, rfl, rfl, by decide +kernel, rfl, by decide +kernel, by decide +kernel⟩
abbrev s_law_is_place_right : Stmt := topS 35
abbrev nN_law_is_place_right : List Str := ["_law_deck_here", "_law_floor_here", "_law_place", "_law_at", "_law_partners_here", "_law_length", "_law_mate", "_law_here", "_law_k", "_law_great", "_law_due", "_law_other"]
abbrev nP_law_is_place_right : List Str := ["_law_deck_here", "_law_floor_here", "_law_place", "_law_at", "_law_partners_here"]
theorem sc_law_is_place_right : FnScope nN_law_is_place_right nP_law_is_place_right (defScope s_law_is_place_right) := ⟨rfl, rfl, rfl, by decide +kernel, rfl, by decide +kernel, by decide +kernel⟩
abbrev s_law : Stmt := topS 36
abbrev nN_law : List Str := ["_law_script", "_law_deck_here", "_law_turn", "_law_floor_here", "_law_spots_here", "_law_partners_here", "_law_some", "_law_at", "_law_more", "_law_place"]
abbrev nP_law : List Str := ["_law_script"]
theorem sc_law : FnScope nN_law nP_law (defScope s_law) := ⟨rfl, rfl, rfl, by decide +kernel, rfl, by decide +kernel, by decide +kernel⟩
/-- the built-in names that no global hides -/
structure BI (mg : Str → Option Value) : Prop where
  all : mg "all" = none
  bool_ : mg "bool" = none
  enumerate : mg "enumerate" = none
  int_ : mg "int" = none
  isinstance : mg "isinstance" = none
  len : mg "len" = none
  list_ : mg "list" = none
  max : mg "max" = none
  min : mg "min" = none
  range : mg "range" = none
  repr_ : mg "repr" = none
  set_ : mg "set" = none
  sorted : mg "sorted" = none
  sum : mg "sum" = none
  tuple_ : mg "tuple" = none
  zip : mg "zip" = none
end K02
end

section
set_option Elab.async false
set_option linter.all false
set_option maxRecDepth 100000
set_option maxHeartbeats 1000000
set_option autoImplicit false
namespace K02
open PySem PySem.Spec PyProof.Rows L2 DL
/-! ### what the program says of values, in plain words -/
def isWh : PyData → Bool
  | .int _ => true
  | _ => false
def isBel (e : Int) : PyData → Bool
  | .int i => decide (0 ≤ i ∧ i < e)
  | _ => false
def isPr : PyData → Bool
  | .tuple [_, _] => true
  | _ => false
def isPl (rs : List Int) : PyData → Bool
  | .tuple [.int u, i] => decide (0 ≤ u ∧ u < rs.length) && isBel (rs.getD u.toNat 0) i
  | _ => false
theorem pr_of {x : PyData} (h : isPr x = true) : ∃ u i, x = .tuple [u, i] := by
  match x, h with
  | .tuple [u, i], _ => exact ⟨u, i, rfl⟩
theorem isPl_not {rs : List Int} {x : PyData} (h : isPr x = false) : isPl rs x = false := by
  match x, h with
  | .none, _ => rfl
  | .bool _, _ => rfl
  | .int _, _ => rfl
  | .str _, _ => rfl
  | .list _, _ => rfl
  | .dict _, _ => rfl
  | .tuple [], _ => rfl
  | .tuple [.none], _ => rfl
  | .tuple [.bool _], _ => rfl
  | .tuple [.int _], _ => rfl
  | .tuple [.str _], _ => rfl
  | .tuple [.list _], _ => rfl
  | .tuple [.dict _], _ => rfl
  | .tuple [.tuple _], _ => rfl
  | .tuple (.none :: _ :: _ :: _), _ => rfl
  | .tuple (.bool _ :: _ :: _ :: _), _ => rfl
  | .tuple (.int _ :: _ :: _ :: _), _ => rfl
  | .tuple (.str _ :: _ :: _ :: _), _ => rfl
  | .tuple (.list _ :: _ :: _ :: _), _ => rfl
  | .tuple (.dict _ :: _ :: _ :: _), _ => rfl
  | .tuple (.tuple _ :: _ :: _ :: _), _ => rfl
theorem isPl_no2 {rs : List Int} {u i : PyData} (h : isBel (rs.length : Nat) u = false) : isPl rs (.tuple [u, i]) = false := by
  cases u with
  | int u =>
    show (decide (0 ≤ u ∧ u < rs.length) && isBel (rs.getD u.toNat 0) i) = false
    have h : decide (0 ≤ u ∧ u < (rs.length : Nat)) = false := h
    rw [h]
    rfl
  | _ => rfl
theorem bel_of {e : Nat} {u : PyData} (h : isBel (e : Nat) u = true) : ∃ n : Nat, u = .int n ∧ n < e := by
  cases u with
  | int u =>
    have h := of_decide_eq_true (show decide (0 ≤ u ∧ u < (e : Nat)) = true from h)
    exact ⟨u.toNat, by rw [Int.toNat_of_nonneg h.1], by omega⟩
  | _ => cases h
theorem isPl_yes {rs : List Int} {n : Nat} {i : PyData} (h : n < rs.length) : isPl rs (.tuple [.int n, i]) = isBel rs[n] i := by
  show (decide (0 ≤ (n : Int) ∧ (n : Int) < rs.length) && isBel (rs.getD (n : Int).toNat 0) i) = _
  rw [decide_eq_true (by omega), Bool.true_and, Int.toNat_natCast, List.getD_eq_getElem?_getD, List.getElem?_eq_getElem h]
  rfl
theorem atI_map {α : Type} {f : α → PyData} {l : List α} {n : Nat} (h : n < l.length) : atI (l.map f) (n : Int) = some (f l[n]) := atI_nat (by rw [List.getElem?_map, List.getElem?_eq_getElem h]; rfl)
theorem u_ix {ds : List PyData} {i : Int} {z : PyData} {ρ : S} {Q : QD} (e : atI ds i = some z) (q : Q (.d z) ρ) : dIx (.d (.tuple ds)) (.d (.int i)) ρ Q := ⟨z, e, q⟩
theorem u_ixL {ds : List PyData} {i : Int} {z : PyData} {ρ : S} {Q : QD} (e : atI ds i = some z) (q : Q (.d z) ρ) : dIx (.d (.list ds)) (.d (.int i)) ρ Q := ⟨z, e, q⟩
theorem u_len {ds : List PyData} {ρ : S} {Q : QD} (q : Q (.d (.int (ds.length : Nat))) ρ) : dLen [.d (.tuple ds)] ρ Q := ⟨ds.map .d, rfl, by rw [List.length_map]; exact q⟩
theorem u_lenL {ds : List PyData} {ρ : S} {Q : QD} (q : Q (.d (.int (ds.length : Nat))) ρ) : dLen [.d (.list ds)] ρ Q := ⟨ds.map .d, rfl, by rw [List.length_map]; exact q⟩
def sp_is_whole : DSp := pur 1 fun ds y => ∃ x, ds = [x] ∧ y = .bool (isWh x)
theorem ok_is_whole {P : Program} {w0 : World} {K : PySem.W.Frag} {mg : Str → Option Value} {base : Heap} (b : BI mg) (h : Hd K mg "is_whole" s_is_whole nP_is_whole) : DefG P w0 K mg base 1 "is_whole" s_is_whole nP_is_whole sp_is_whole := by
  refine mk_def h sc_is_whole pur_len (pdss_one (pds_ret (pd_and (pd_isi (u := "int") (pd_var 0) rfl b.isinstance rfl b.int_ (by decide +kernel)) (pd_one (pd_not (pd_isi (u := "bool") (pd_var 0) rfl b.isinstance rfl b.bool_ (by decide +kernel))))))) ?_
  rintro dvs ob R X ⟨ds, y, rfl, hl, ⟨x, rfl, rfl⟩, hR⟩ sl e
  have e : [some (.d x)] = sl := e
  subst e
  try dsimp only [wRet, wAnd, wOr, wUn, wOp, wCa, wCons, wNil, wVar, wC, wSeq, wNext, wPass, wAsg, wExp, wIf, wB, wIfE, wAndT, wOrT, wNotT, wTup, wLst, wSl, dSl, wNoP, wPart, wCall, wCallK, wCallO, wFrz, wGet1, wGet2, wPut, wNewT, wPar, wgName, wgTup, wgCons, wgNil, wgLst, wiT, wiL, wiR1, wiZip, wiEnu, wiEnuA, wChain, wYes, wBM, wBM0, slot, allD, wipeS, List.map_cons, List.map_nil, List.set_cons_zero, List.set_cons_succ, wUn, dNot, dII0, dII, dEqS, dNeS, dIsN, dNotN, dNeg, ends, DL.gLt, DL.gLe, DL.gGt, DL.gGe, DL.gAdd, DL.gSub, DL.gMul, DL.gMod, DL.gDiv, DL.gPow]
  refine u_isi (k_int x) ?_
  cases hx : isInt x with
  | false =>
    have e : isWh x = false := by cases x <;> first | rfl | cases hx
    rw [e] at hR
    exact hR ob
  | true =>
    refine u_isi (k_bool x) ?_
    have e : isWh x = !isBool x := by cases x <;> first | rfl | cases hx
    rw [e] at hR
    exact hR ob
def sp_is_below : DSp := pur 2 fun ds y => ∃ x e, ds = [x, .int e] ∧ y = .bool (isBel e x)
theorem ok_is_below {P : Program} {w0 : World} {K : PySem.W.Frag} {mg : Str → Option Value} {base : Heap} (h : Hd K mg "is_below" s_is_below nP_is_below) (c_is_whole : DefG P w0 K mg base 1 "is_whole" s_is_whole nP_is_whole sp_is_whole) : DefG P w0 K mg base 2 "is_below" s_is_below nP_is_below sp_is_below := by
  refine mk_def h sc_is_below pur_len (pdss_one (pds_ret (pd_and (pd_call 0 (c_is_whole.to) rfl (pda_cons (pd_var 0) pda_nil)) (pd_one (pd_chainD cd_le cd_lt pd_int (pd_var 0) (pd_var 1)))))) ?_
  rintro dvs ob R X ⟨ds, y, rfl, hl, ⟨x, e, rfl, rfl⟩, hR⟩ sl e1
  have e1 : [some (.d x), some (.d (.int e))] = sl := e1
  subst e1
  try dsimp only [wRet, wAnd, wOr, wUn, wOp, wCa, wCons, wNil, wVar, wC, wSeq, wNext, wPass, wAsg, wExp, wIf, wB, wIfE, wAndT, wOrT, wNotT, wTup, wLst, wSl, dSl, wNoP, wPart, wCall, wCallK, wCallO, wFrz, wGet1, wGet2, wPut, wNewT, wPar, wgName, wgTup, wgCons, wgNil, wgLst, wiT, wiL, wiR1, wiZip, wiEnu, wiEnuA, wChain, wYes, wBM, wBM0, slot, allD, wipeS, List.map_cons, List.map_nil, List.set_cons_zero, List.set_cons_succ, wUn, dNot, dII0, dII, dEqS, dNeS, dIsN, dNotN, dNeg, ends, DL.gLt, DL.gLe, DL.gGt, DL.gGe, DL.gAdd, DL.gSub, DL.gMul, DL.gMod, DL.gDiv, DL.gPow]
  refine call_pur [x] (.bool (isWh x)) rfl ⟨x, rfl, rfl⟩ ?_
  cases x with
  | int i =>
    try dsimp only [wRet, wAnd, wOr, wUn, wOp, wCa, wCons, wNil, wVar, wC, wSeq, wNext, wPass, wAsg, wExp, wIf, wB, wIfE, wAndT, wOrT, wNotT, wTup, wLst, wSl, dSl, wNoP, wPart, wCall, wCallK, wCallO, wFrz, wGet1, wGet2, wPut, wNewT, wPar, wgName, wgTup, wgCons, wgNil, wgLst, wiT, wiL, wiR1, wiZip, wiEnu, wiEnuA, wChain, wYes, wBM, wBM0, slot, allD, wipeS, List.map_cons, List.map_nil, List.set_cons_zero, List.set_cons_succ, wUn, dNot, dII0, dII, dEqS, dNeS, dIsN, dNotN, dNeg, ends, DL.gLt, DL.gLe, DL.gGt, DL.gGe, DL.gAdd, DL.gSub, DL.gMul, DL.gMod, DL.gDiv, DL.gPow]
    cases h1 : decide ((0 : Int) ≤ i) with
    | false =>
      try dsimp only [wRet, wAnd, wOr, wUn, wOp, wCa, wCons, wNil, wVar, wC, wSeq, wNext, wPass, wAsg, wExp, wIf, wB, wIfE, wAndT, wOrT, wNotT, wTup, wLst, wSl, dSl, wNoP, wPart, wCall, wCallK, wCallO, wFrz, wGet1, wGet2, wPut, wNewT, wPar, wgName, wgTup, wgCons, wgNil, wgLst, wiT, wiL, wiR1, wiZip, wiEnu, wiEnuA, wChain, wYes, wBM, wBM0, slot, allD, wipeS, List.map_cons, List.map_nil, List.set_cons_zero, List.set_cons_succ, wUn, dNot, dII0, dII, dEqS, dNeS, dIsN, dNotN, dNeg, ends, DL.gLt, DL.gLe, DL.gGt, DL.gGe, DL.gAdd, DL.gSub, DL.gMul, DL.gMod, DL.gDiv, DL.gPow]
      have := hR ob
      rw [show isBel e (.int i) = false from by simp [isBel]; intro h; simp [h] at h1] at this
      exact this
    | true =>
      try dsimp only [wRet, wAnd, wOr, wUn, wOp, wCa, wCons, wNil, wVar, wC, wSeq, wNext, wPass, wAsg, wExp, wIf, wB, wIfE, wAndT, wOrT, wNotT, wTup, wLst, wSl, dSl, wNoP, wPart, wCall, wCallK, wCallO, wFrz, wGet1, wGet2, wPut, wNewT, wPar, wgName, wgTup, wgCons, wgNil, wgLst, wiT, wiL, wiR1, wiZip, wiEnu, wiEnuA, wChain, wYes, wBM, wBM0, slot, allD, wipeS, List.map_cons, List.map_nil, List.set_cons_zero, List.set_cons_succ, wUn, dNot, dII0, dII, dEqS, dNeS, dIsN, dNotN, dNeg, ends, DL.gLt, DL.gLe, DL.gGt, DL.gGe, DL.gAdd, DL.gSub, DL.gMul, DL.gMod, DL.gDiv, DL.gPow]
      have := hR ob
      rw [show isBel e (.int i) = decide (i < e) from by simp at h1; simp [isBel, h1]] at this
      exact this
  | _ => exact hR ob
def sp_is_pair : DSp := pur 1 fun ds y => ∃ x, ds = [x] ∧ y = .bool (isPr x)
theorem ok_is_pair {P : Program} {w0 : World} {K : PySem.W.Frag} {mg : Str → Option Value} {base : Heap} (b : BI mg) (h : Hd K mg "is_pair" s_is_pair nP_is_pair) : DefG P w0 K mg base 1 "is_pair" s_is_pair nP_is_pair sp_is_pair := by
  refine mk_def h sc_is_pair pur_len (pdss_one (pds_ret (pd_and (pd_isi (u := "tuple") (pd_var 0) rfl b.isinstance rfl b.tuple_ (by decide +kernel)) (pd_one (pd_cmpD cd_eqS (pd_len rfl b.len (pda_cons (pd_var 0) pda_nil)) pd_int))))) ?_
  rintro dvs ob R X ⟨ds, y, rfl, hl, ⟨x, rfl, rfl⟩, hR⟩ sl e
  have e : [some (.d x)] = sl := e
  subst e
  try dsimp only [wRet, wAnd, wOr, wUn, wOp, wCa, wCons, wNil, wVar, wC, wSeq, wNext, wPass, wAsg, wExp, wIf, wB, wIfE, wAndT, wOrT, wNotT, wTup, wLst, wSl, dSl, wNoP, wPart, wCall, wCallK, wCallO, wFrz, wGet1, wGet2, wPut, wNewT, wPar, wgName, wgTup, wgCons, wgNil, wgLst, wiT, wiL, wiR1, wiZip, wiEnu, wiEnuA, wChain, wYes, wBM, wBM0, slot, allD, wipeS, List.map_cons, List.map_nil, List.set_cons_zero, List.set_cons_succ, wUn, dNot, dII0, dII, dEqS, dNeS, dIsN, dNotN, dNeg, ends, DL.gLt, DL.gLe, DL.gGt, DL.gGe, DL.gAdd, DL.gSub, DL.gMul, DL.gMod, DL.gDiv, DL.gPow]
  refine u_isi (k_tup x) ?_
  cases x with
  | tuple xs =>
    show ∃ l, _ ∧ _
    refine ⟨xs.map .d, rfl, ?_⟩
    try dsimp only [wRet, wAnd, wOr, wUn, wOp, wCa, wCons, wNil, wVar, wC, wSeq, wNext, wPass, wAsg, wExp, wIf, wB, wIfE, wAndT, wOrT, wNotT, wTup, wLst, wSl, dSl, wNoP, wPart, wCall, wCallK, wCallO, wFrz, wGet1, wGet2, wPut, wNewT, wPar, wgName, wgTup, wgCons, wgNil, wgLst, wiT, wiL, wiR1, wiZip, wiEnu, wiEnuA, wChain, wYes, wBM, wBM0, slot, allD, wipeS, List.map_cons, List.map_nil, List.set_cons_zero, List.set_cons_succ, wUn, dNot, dII0, dII, dEqS, dNeS, dIsN, dNotN, dNeg, ends, DL.gLt, DL.gLe, DL.gGt, DL.gGe, DL.gAdd, DL.gSub, DL.gMul, DL.gMod, DL.gDiv, DL.gPow]
    have e : isPr (.tuple xs) = decide (((xs.map DV.d).length : Int) = 2) := by
      match xs with
      | [] => rfl
      | [_] => rfl
      | [_, _] => rfl
      | _ :: _ :: _ :: r =>
        symm
        apply decide_eq_false
        simp
        omega
    rw [e] at hR
    exact hR ob
  | _ => exact hR ob
def sp_is_place_on : DSp := pur 2 fun ds y => ∃ rs x, ds = [.tuple (rs.map .int), x] ∧ y = .bool (isPl rs x)
theorem ok_is_place_on {P : Program} {w0 : World} {K : PySem.W.Frag} {mg : Str → Option Value} {base : Heap} (b : BI mg) (h : Hd K mg "is_place_on" s_is_place_on nP_is_place_on) (c_is_below : DefG P w0 K mg base 2 "is_below" s_is_below nP_is_below sp_is_below) (c_is_pair : DefG P w0 K mg base 1 "is_pair" s_is_pair nP_is_pair sp_is_pair) : DefG P w0 K mg base 3 "is_place_on" s_is_place_on nP_is_place_on sp_is_place_on := by
  refine mk_def h sc_is_place_on pur_len (pdss_one (pds_ret (pd_and (pd_call 0 (c_is_pair.to) rfl (pda_cons (pd_var 1) pda_nil)) (pd_and (pd_call 0 (c_is_below.to) rfl (pda_cons (pd_ix (pd_var 1) pd_int) (pda_cons (pd_len rfl b.len (pda_cons (pd_var 0) pda_nil)) pda_nil))) (pd_one (pd_call 0 (c_is_below.to) rfl (pda_cons (pd_ix (pd_var 1) pd_int) (pda_cons (pd_ix (pd_var 0) (pd_ix (pd_var 1) pd_int)) pda_nil)))))))) ?_
  rintro dvs ob R X ⟨ds, y, rfl, hl, ⟨rs, x, rfl, rfl⟩, hR⟩ sl e1
  have e1 : [some (.d (.tuple (rs.map .int))), some (.d x)] = sl := e1
  subst e1
  try dsimp only [wRet, wAnd, wOr, wUn, wOp, wCa, wCons, wNil, wVar, wC, wSeq, wNext, wPass, wAsg, wExp, wIf, wB, wIfE, wAndT, wOrT, wNotT, wTup, wLst, wSl, dSl, wNoP, wPart, wCall, wCallK, wCallO, wFrz, wGet1, wGet2, wPut, wNewT, wPar, wgName, wgTup, wgCons, wgNil, wgLst, wiT, wiL, wiR1, wiZip, wiEnu, wiEnuA, wChain, wYes, wBM, wBM0, slot, allD, wipeS, List.map_cons, List.map_nil, List.set_cons_zero, List.set_cons_succ, wUn, dNot, dII0, dII, dEqS, dNeS, dIsN, dNotN, dNeg, ends, DL.gLt, DL.gLe, DL.gGt, DL.gGe, DL.gAdd, DL.gSub, DL.gMul, DL.gMod, DL.gDiv, DL.gPow]
  refine call_pur [x] (.bool (isPr x)) rfl ⟨x, rfl, rfl⟩ ?_
  cases hp : isPr x with
  | false =>
    try dsimp only [wRet, wAnd, wOr, wUn, wOp, wCa, wCons, wNil, wVar, wC, wSeq, wNext, wPass, wAsg, wExp, wIf, wB, wIfE, wAndT, wOrT, wNotT, wTup, wLst, wSl, dSl, wNoP, wPart, wCall, wCallK, wCallO, wFrz, wGet1, wGet2, wPut, wNewT, wPar, wgName, wgTup, wgCons, wgNil, wgLst, wiT, wiL, wiR1, wiZip, wiEnu, wiEnuA, wChain, wYes, wBM, wBM0, slot, allD, wipeS, List.map_cons, List.map_nil, List.set_cons_zero, List.set_cons_succ, wUn, dNot, dII0, dII, dEqS, dNeS, dIsN, dNotN, dNeg, ends, DL.gLt, DL.gLe, DL.gGt, DL.gGe, DL.gAdd, DL.gSub, DL.gMul, DL.gMod, DL.gDiv, DL.gPow]
    have := hR ob
    rw [show isPl rs x = false from isPl_not hp] at this
    exact this
  | true =>
    obtain ⟨u, i, rfl⟩ := pr_of hp
    try dsimp only [wRet, wAnd, wOr, wUn, wOp, wCa, wCons, wNil, wVar, wC, wSeq, wNext, wPass, wAsg, wExp, wIf, wB, wIfE, wAndT, wOrT, wNotT, wTup, wLst, wSl, dSl, wNoP, wPart, wCall, wCallK, wCallO, wFrz, wGet1, wGet2, wPut, wNewT, wPar, wgName, wgTup, wgCons, wgNil, wgLst, wiT, wiL, wiR1, wiZip, wiEnu, wiEnuA, wChain, wYes, wBM, wBM0, slot, allD, wipeS, List.map_cons, List.map_nil, List.set_cons_zero, List.set_cons_succ, wUn, dNot, dII0, dII, dEqS, dNeS, dIsN, dNotN, dNeg, ends, DL.gLt, DL.gLe, DL.gGt, DL.gGe, DL.gAdd, DL.gSub, DL.gMul, DL.gMod, DL.gDiv, DL.gPow]
    refine u_ix (z := u) rfl ?_
    try dsimp only [wRet, wAnd, wOr, wUn, wOp, wCa, wCons, wNil, wVar, wC, wSeq, wNext, wPass, wAsg, wExp, wIf, wB, wIfE, wAndT, wOrT, wNotT, wTup, wLst, wSl, dSl, wNoP, wPart, wCall, wCallK, wCallO, wFrz, wGet1, wGet2, wPut, wNewT, wPar, wgName, wgTup, wgCons, wgNil, wgLst, wiT, wiL, wiR1, wiZip, wiEnu, wiEnuA, wChain, wYes, wBM, wBM0, slot, allD, wipeS, List.map_cons, List.map_nil, List.set_cons_zero, List.set_cons_succ, wUn, dNot, dII0, dII, dEqS, dNeS, dIsN, dNotN, dNeg, ends, DL.gLt, DL.gLe, DL.gGt, DL.gGe, DL.gAdd, DL.gSub, DL.gMul, DL.gMod, DL.gDiv, DL.gPow]
    refine u_len ?_
    refine call_pur [u, .int ((rs.map PyData.int).length : Nat)] (.bool (isBel ((rs.map PyData.int).length : Nat) u)) rfl ⟨u, _, rfl, rfl⟩ ?_
    rw [List.length_map]
    cases hb : isBel (rs.length : Nat) u with
    | false =>
      try dsimp only [wRet, wAnd, wOr, wUn, wOp, wCa, wCons, wNil, wVar, wC, wSeq, wNext, wPass, wAsg, wExp, wIf, wB, wIfE, wAndT, wOrT, wNotT, wTup, wLst, wSl, dSl, wNoP, wPart, wCall, wCallK, wCallO, wFrz, wGet1, wGet2, wPut, wNewT, wPar, wgName, wgTup, wgCons, wgNil, wgLst, wiT, wiL, wiR1, wiZip, wiEnu, wiEnuA, wChain, wYes, wBM, wBM0, slot, allD, wipeS, List.map_cons, List.map_nil, List.set_cons_zero, List.set_cons_succ, wUn, dNot, dII0, dII, dEqS, dNeS, dIsN, dNotN, dNeg, ends, DL.gLt, DL.gLe, DL.gGt, DL.gGe, DL.gAdd, DL.gSub, DL.gMul, DL.gMod, DL.gDiv, DL.gPow]
      have := hR ob
      rw [show isPl rs (.tuple [u, i]) = false from isPl_no2 hb] at this
      exact this
    | true =>
      obtain ⟨n, rfl, hn⟩ := bel_of hb
      have e := isPl_yes (rs := rs) (i := i) hn
      rw [e] at hR
      try dsimp only [wRet, wAnd, wOr, wUn, wOp, wCa, wCons, wNil, wVar, wC, wSeq, wNext, wPass, wAsg, wExp, wIf, wB, wIfE, wAndT, wOrT, wNotT, wTup, wLst, wSl, dSl, wNoP, wPart, wCall, wCallK, wCallO, wFrz, wGet1, wGet2, wPut, wNewT, wPar, wgName, wgTup, wgCons, wgNil, wgLst, wiT, wiL, wiR1, wiZip, wiEnu, wiEnuA, wChain, wYes, wBM, wBM0, slot, allD, wipeS, List.map_cons, List.map_nil, List.set_cons_zero, List.set_cons_succ, wUn, dNot, dII0, dII, dEqS, dNeS, dIsN, dNotN, dNeg, ends, DL.gLt, DL.gLe, DL.gGt, DL.gGe, DL.gAdd, DL.gSub, DL.gMul, DL.gMod, DL.gDiv, DL.gPow]
      refine u_ix (z := i) rfl ?_
      try dsimp only [wRet, wAnd, wOr, wUn, wOp, wCa, wCons, wNil, wVar, wC, wSeq, wNext, wPass, wAsg, wExp, wIf, wB, wIfE, wAndT, wOrT, wNotT, wTup, wLst, wSl, dSl, wNoP, wPart, wCall, wCallK, wCallO, wFrz, wGet1, wGet2, wPut, wNewT, wPar, wgName, wgTup, wgCons, wgNil, wgLst, wiT, wiL, wiR1, wiZip, wiEnu, wiEnuA, wChain, wYes, wBM, wBM0, slot, allD, wipeS, List.map_cons, List.map_nil, List.set_cons_zero, List.set_cons_succ, wUn, dNot, dII0, dII, dEqS, dNeS, dIsN, dNotN, dNeg, ends, DL.gLt, DL.gLe, DL.gGt, DL.gGe, DL.gAdd, DL.gSub, DL.gMul, DL.gMod, DL.gDiv, DL.gPow]
      refine u_ix (z := .int n) rfl ?_
      refine u_ix (atI_map (f := PyData.int) hn) ?_
      exact call_pur [i, .int rs[n]] (.bool (isBel rs[n] i)) rfl ⟨i, _, rfl, rfl⟩ (hR ob)
def isTch (rs : List Int) : PyData → Bool
  | .tuple [x, y] => isPl rs x && isPl rs y && PySem.W.dataLt x y
  | _ => false
theorem isTch_not {rs : List Int} {x : PyData} (h : isPr x = false) : isTch rs x = false := by
  match x, h with
  | .none, _ => rfl
  | .bool _, _ => rfl
  | .int _, _ => rfl
  | .str _, _ => rfl
  | .list _, _ => rfl
  | .dict _, _ => rfl
  | .tuple [], _ => rfl
  | .tuple [_], _ => rfl
  | .tuple (_ :: _ :: _ :: _), _ => rfl
/-- what a place is -/
theorem pl_of {rs : List Int} {x : PyData} (h : isPl rs x = true) : ∃ u i : Int, x = .tuple [.int u, .int i] := by
  match x, h with
  | .tuple [.int u, .int i], _ => exact ⟨u, i, rfl⟩
  | .tuple [.int u, .none], h => simp [isPl, isBel] at h
  | .tuple [.int u, .bool _], h => simp [isPl, isBel] at h
  | .tuple [.int u, .str _], h => simp [isPl, isBel] at h
  | .tuple [.int u, .list _], h => simp [isPl, isBel] at h
  | .tuple [.int u, .tuple _], h => simp [isPl, isBel] at h
  | .tuple [.int u, .dict _], h => simp [isPl, isBel] at h
theorem pl_lts {rs : List Int} {x y : PyData} (h1 : isPl rs x = true) (h2 : isPl rs y = true) : Lts x y := by
  obtain ⟨u, i, rfl⟩ := pl_of h1
  obtain ⟨v, j, rfl⟩ := pl_of h2
  exact ⟨by simp [PySem.W.alike, PySem.W.alikeAll], by simp [PyData.hasDict, PyData.hasDictAll], by simp [PyData.hasDict, PyData.hasDictAll], rfl, by simp [PyData.depth, PyData.depthAll]⟩
def sp_is_touch : DSp := pur 2 fun ds y => ∃ rs x, ds = [.tuple (rs.map .int), x] ∧ y = .bool (isTch rs x)
theorem ok_is_touch {P : Program} {w0 : World} {K : PySem.W.Frag} {mg : Str → Option Value} {base : Heap} (h : Hd K mg "_is_touch" s_is_touch nP_is_touch) (c_is_pair : DefG P w0 K mg base 1 "is_pair" s_is_pair nP_is_pair sp_is_pair) (c_is_place_on : DefG P w0 K mg base 3 "is_place_on" s_is_place_on nP_is_place_on sp_is_place_on) : DefG P w0 K mg base 4 "_is_touch" s_is_touch nP_is_touch sp_is_touch := by
  refine mk_def h sc_is_touch pur_len (pdss_cons (pds_if (PDW.pt (pdw_or (pdt_not (pdt_val (pd_call 0 (c_is_pair.to) rfl (pda_cons (pd_var 1) pda_nil)))) (pdw_or (pdt_not (pdt_val (pd_call 0 (c_is_place_on.to) rfl (pda_cons (pd_var 0) (pda_cons (pd_ix (pd_var 1) pd_int) pda_nil))))) (pdw_or1 (pdt_not (pdt_val (pd_call 0 (c_is_place_on.to) rfl (pda_cons (pd_var 0) (pda_cons (pd_ix (pd_var 1) pd_int) pda_nil))))))))) (pdss_one (pds_ret pd_bl)) pdss_nil)
  (pdss_one (pds_ret (pd_cmpD cd_ltD (pd_ix (pd_var 1) pd_int) (pd_ix (pd_var 1) pd_int))))) ?_
  rintro dvs ob R X ⟨ds, y, rfl, hl, ⟨rs, x, rfl, rfl⟩, hR⟩ sl e1
  have e1 : [some (.d (.tuple (rs.map .int))), some (.d x)] = sl := e1
  subst e1
  try dsimp only [wRet, wAnd, wOr, wUn, wOp, wCa, wCons, wNil, wVar, wC, wSeq, wNext, wPass, wAsg, wExp, wIf, wB, wIfE, wAndT, wOrT, wNotT, wTup, wLst, wSl, dSl, wNoP, wPart, wCall, wCallK, wCallO, wFrz, wGet1, wGet2, wPut, wNewT, wPar, wgName, wgTup, wgCons, wgNil, wgLst, wiT, wiL, wiR1, wiZip, wiEnu, wiEnuA, wChain, wYes, wBM, wBM0, slot, allD, wipeS, List.map_cons, List.map_nil, List.set_cons_zero, List.set_cons_succ, wUn, dNot, dII0, dII, dEqS, dNeS, dIsN, dNotN, dNeg, ends, DL.gLt, DL.gLe, DL.gGt, DL.gGe, DL.gAdd, DL.gSub, DL.gMul, DL.gMod, DL.gDiv, DL.gPow]
  refine call_pur [x] (.bool (isPr x)) rfl ⟨x, rfl, rfl⟩ ?_
  cases hp : isPr x with
  | false =>
    try dsimp only [wRet, wAnd, wOr, wUn, wOp, wCa, wCons, wNil, wVar, wC, wSeq, wNext, wPass, wAsg, wExp, wIf, wB, wIfE, wAndT, wOrT, wNotT, wTup, wLst, wSl, dSl, wNoP, wPart, wCall, wCallK, wCallO, wFrz, wGet1, wGet2, wPut, wNewT, wPar, wgName, wgTup, wgCons, wgNil, wgLst, wiT, wiL, wiR1, wiZip, wiEnu, wiEnuA, wChain, wYes, wBM, wBM0, slot, allD, wipeS, List.map_cons, List.map_nil, List.set_cons_zero, List.set_cons_succ, wUn, dNot, dII0, dII, dEqS, dNeS, dIsN, dNotN, dNeg, ends, DL.gLt, DL.gLe, DL.gGt, DL.gGe, DL.gAdd, DL.gSub, DL.gMul, DL.gMod, DL.gDiv, DL.gPow]
    have := hR ob
    rw [show isTch rs x = false from isTch_not hp] at this
    exact this
  | true =>
    obtain ⟨u, i, rfl⟩ := pr_of hp
    try dsimp only [wRet, wAnd, wOr, wUn, wOp, wCa, wCons, wNil, wVar, wC, wSeq, wNext, wPass, wAsg, wExp, wIf, wB, wIfE, wAndT, wOrT, wNotT, wTup, wLst, wSl, dSl, wNoP, wPart, wCall, wCallK, wCallO, wFrz, wGet1, wGet2, wPut, wNewT, wPar, wgName, wgTup, wgCons, wgNil, wgLst, wiT, wiL, wiR1, wiZip, wiEnu, wiEnuA, wChain, wYes, wBM, wBM0, slot, allD, wipeS, List.map_cons, List.map_nil, List.set_cons_zero, List.set_cons_succ, wUn, dNot, dII0, dII, dEqS, dNeS, dIsN, dNotN, dNeg, ends, DL.gLt, DL.gLe, DL.gGt, DL.gGe, DL.gAdd, DL.gSub, DL.gMul, DL.gMod, DL.gDiv, DL.gPow]
    refine u_ix (z := u) rfl ?_
    try dsimp only [wRet, wAnd, wOr, wUn, wOp, wCa, wCons, wNil, wVar, wC, wSeq, wNext, wPass, wAsg, wExp, wIf, wB, wIfE, wAndT, wOrT, wNotT, wTup, wLst, wSl, dSl, wNoP, wPart, wCall, wCallK, wCallO, wFrz, wGet1, wGet2, wPut, wNewT, wPar, wgName, wgTup, wgCons, wgNil, wgLst, wiT, wiL, wiR1, wiZip, wiEnu, wiEnuA, wChain, wYes, wBM, wBM0, slot, allD, wipeS, List.map_cons, List.map_nil, List.set_cons_zero, List.set_cons_succ, wUn, dNot, dII0, dII, dEqS, dNeS, dIsN, dNotN, dNeg, ends, DL.gLt, DL.gLe, DL.gGt, DL.gGe, DL.gAdd, DL.gSub, DL.gMul, DL.gMod, DL.gDiv, DL.gPow]
    refine call_pur [.tuple (rs.map .int), u] (.bool (isPl rs u)) rfl ⟨rs, u, rfl, rfl⟩ ?_
    have e : isTch rs (.tuple [u, i]) = (isPl rs u && isPl rs i && PySem.W.dataLt u i) := rfl
    rw [e] at hR
    cases h1 : isPl rs u with
    | false =>
      rw [h1] at hR
      try dsimp only [wRet, wAnd, wOr, wUn, wOp, wCa, wCons, wNil, wVar, wC, wSeq, wNext, wPass, wAsg, wExp, wIf, wB, wIfE, wAndT, wOrT, wNotT, wTup, wLst, wSl, dSl, wNoP, wPart, wCall, wCallK, wCallO, wFrz, wGet1, wGet2, wPut, wNewT, wPar, wgName, wgTup, wgCons, wgNil, wgLst, wiT, wiL, wiR1, wiZip, wiEnu, wiEnuA, wChain, wYes, wBM, wBM0, slot, allD, wipeS, List.map_cons, List.map_nil, List.set_cons_zero, List.set_cons_succ, wUn, dNot, dII0, dII, dEqS, dNeS, dIsN, dNotN, dNeg, ends, DL.gLt, DL.gLe, DL.gGt, DL.gGe, DL.gAdd, DL.gSub, DL.gMul, DL.gMod, DL.gDiv, DL.gPow]
      exact hR ob
    | true =>
      rw [h1] at hR
      try dsimp only [wRet, wAnd, wOr, wUn, wOp, wCa, wCons, wNil, wVar, wC, wSeq, wNext, wPass, wAsg, wExp, wIf, wB, wIfE, wAndT, wOrT, wNotT, wTup, wLst, wSl, dSl, wNoP, wPart, wCall, wCallK, wCallO, wFrz, wGet1, wGet2, wPut, wNewT, wPar, wgName, wgTup, wgCons, wgNil, wgLst, wiT, wiL, wiR1, wiZip, wiEnu, wiEnuA, wChain, wYes, wBM, wBM0, slot, allD, wipeS, List.map_cons, List.map_nil, List.set_cons_zero, List.set_cons_succ, wUn, dNot, dII0, dII, dEqS, dNeS, dIsN, dNotN, dNeg, ends, DL.gLt, DL.gLe, DL.gGt, DL.gGe, DL.gAdd, DL.gSub, DL.gMul, DL.gMod, DL.gDiv, DL.gPow]
      refine u_ix (z := i) rfl ?_
      try dsimp only [wRet, wAnd, wOr, wUn, wOp, wCa, wCons, wNil, wVar, wC, wSeq, wNext, wPass, wAsg, wExp, wIf, wB, wIfE, wAndT, wOrT, wNotT, wTup, wLst, wSl, dSl, wNoP, wPart, wCall, wCallK, wCallO, wFrz, wGet1, wGet2, wPut, wNewT, wPar, wgName, wgTup, wgCons, wgNil, wgLst, wiT, wiL, wiR1, wiZip, wiEnu, wiEnuA, wChain, wYes, wBM, wBM0, slot, allD, wipeS, List.map_cons, List.map_nil, List.set_cons_zero, List.set_cons_succ, wUn, dNot, dII0, dII, dEqS, dNeS, dIsN, dNotN, dNeg, ends, DL.gLt, DL.gLe, DL.gGt, DL.gGe, DL.gAdd, DL.gSub, DL.gMul, DL.gMod, DL.gDiv, DL.gPow]
      refine call_pur [.tuple (rs.map .int), i] (.bool (isPl rs i)) rfl ⟨rs, i, rfl, rfl⟩ ?_
      cases h2 : isPl rs i with
      | false =>
        rw [h2] at hR
        try dsimp only [wRet, wAnd, wOr, wUn, wOp, wCa, wCons, wNil, wVar, wC, wSeq, wNext, wPass, wAsg, wExp, wIf, wB, wIfE, wAndT, wOrT, wNotT, wTup, wLst, wSl, dSl, wNoP, wPart, wCall, wCallK, wCallO, wFrz, wGet1, wGet2, wPut, wNewT, wPar, wgName, wgTup, wgCons, wgNil, wgLst, wiT, wiL, wiR1, wiZip, wiEnu, wiEnuA, wChain, wYes, wBM, wBM0, slot, allD, wipeS, List.map_cons, List.map_nil, List.set_cons_zero, List.set_cons_succ, wUn, dNot, dII0, dII, dEqS, dNeS, dIsN, dNotN, dNeg, ends, DL.gLt, DL.gLe, DL.gGt, DL.gGe, DL.gAdd, DL.gSub, DL.gMul, DL.gMod, DL.gDiv, DL.gPow]
        exact hR ob
      | true =>
        rw [h2] at hR
        try dsimp only [wRet, wAnd, wOr, wUn, wOp, wCa, wCons, wNil, wVar, wC, wSeq, wNext, wPass, wAsg, wExp, wIf, wB, wIfE, wAndT, wOrT, wNotT, wTup, wLst, wSl, dSl, wNoP, wPart, wCall, wCallK, wCallO, wFrz, wGet1, wGet2, wPut, wNewT, wPar, wgName, wgTup, wgCons, wgNil, wgLst, wiT, wiL, wiR1, wiZip, wiEnu, wiEnuA, wChain, wYes, wBM, wBM0, slot, allD, wipeS, List.map_cons, List.map_nil, List.set_cons_zero, List.set_cons_succ, wUn, dNot, dII0, dII, dEqS, dNeS, dIsN, dNotN, dNeg, ends, DL.gLt, DL.gLe, DL.gGt, DL.gGe, DL.gAdd, DL.gSub, DL.gMul, DL.gMod, DL.gDiv, DL.gPow]
        refine u_ix (z := u) rfl ?_
        try dsimp only [wRet, wAnd, wOr, wUn, wOp, wCa, wCons, wNil, wVar, wC, wSeq, wNext, wPass, wAsg, wExp, wIf, wB, wIfE, wAndT, wOrT, wNotT, wTup, wLst, wSl, dSl, wNoP, wPart, wCall, wCallK, wCallO, wFrz, wGet1, wGet2, wPut, wNewT, wPar, wgName, wgTup, wgCons, wgNil, wgLst, wiT, wiL, wiR1, wiZip, wiEnu, wiEnuA, wChain, wYes, wBM, wBM0, slot, allD, wipeS, List.map_cons, List.map_nil, List.set_cons_zero, List.set_cons_succ, wUn, dNot, dII0, dII, dEqS, dNeS, dIsN, dNotN, dNeg, ends, DL.gLt, DL.gLe, DL.gGt, DL.gGe, DL.gAdd, DL.gSub, DL.gMul, DL.gMod, DL.gDiv, DL.gPow]
        refine u_ix (z := i) rfl ?_
        exact ⟨pl_lts h1 h2, hR ob⟩
end K02
end

section
set_option Elab.async false
set_option linter.all false
set_option maxRecDepth 100000
set_option maxHeartbeats 1000000
set_option autoImplicit false
namespace K02
open PySem PySem.Spec PyProof.Rows L2 DL
def isLen : PyData → Bool
  | .int i => decide (1 ≤ i)
  | _ => false
def areRg : PyData → Bool
  | .tuple ds => decide (1 ≤ ds.length ∧ ds.length ≤ 40) && ds.all isLen
  | _ => false
def sp_are_rings : DSp := pur 1 fun ds y => ∃ x, ds = [x] ∧ y = .bool (areRg x)
theorem ok_are_rings {P : Program} {w0 : World} {K : PySem.W.Frag} {mg : Str → Option Value} {base : Heap} (b : BI mg) (z_MOST_RINGS : ∃ t, mg "MOST_RINGS" = some (.int 40 t)) (h : Hd K mg "are_rings" s_are_rings nP_are_rings) (c_is_whole : DefG P w0 K mg base 1 "is_whole" s_is_whole nP_is_whole sp_is_whole) : DefG P w0 K mg base 2 "are_rings" s_are_rings nP_are_rings sp_are_rings := by
  refine mk_def h sc_are_rings pur_len (pdss_cons (pds_if (PDW.pt (pdw_or (pdt_not (pdt_val (pd_isi (u := "tuple") (pd_var 0) rfl b.isinstance rfl b.tuple_ (by decide +kernel)))) (pdw_or1 (pdt_not (pdt_chainD cd_le cd_le pd_int (pd_len rfl b.len (pda_cons (pd_var 0) pda_nil)) (pd_globI rfl z_MOST_RINGS)))))) (pdss_one (pds_ret pd_bl)) pdss_nil)
  (pdss_one (pds_ret (pd_all rfl b.all (pda_cons (pd_lc (own := [("length", 1)]) (pdi_tup (pd_var 0)) (blkOk_by (own := [("length", 1)]) (N := nN_are_rings) (sc := defScope s_are_rings) (by decide +kernel)) (pdg_name 1) pdts_nil (pd_and (pd_call 0 (c_is_whole.toB) rfl (pda_cons (pd_var 1) pda_nil)) (pd_one (pd_cmpD cd_ge (pd_var 1) pd_int)))) pda_nil))))) ?_
  rintro dvs ob R X ⟨ds, y, rfl, hl, ⟨x, rfl, rfl⟩, hR⟩ sl e1
  have e1 : [some (.d x), none] = sl := e1
  subst e1
  try dsimp only [wRet, wAnd, wOr, wUn, wOp, wCa, wCons, wNil, wVar, wC, wSeq, wNext, wPass, wAsg, wExp, wIf, wB, wIfE, wAndT, wOrT, wNotT, wTup, wLst, wSl, dSl, wNoP, wPart, wCall, wCallK, wCallO, wFrz, wGet1, wGet2, wPut, wNewT, wPar, wgName, wgTup, wgCons, wgNil, wgLst, wiT, wiL, wiR1, wiZip, wiEnu, wiEnuA, wChain, wYes, wBM, wBM0, slot, allD, wipeS, List.map_cons, List.map_nil, List.set_cons_zero, List.set_cons_succ, wUn, dNot, dII0, dII, dEqS, dNeS, dIsN, dNotN, dNeg, ends, DL.gLt, DL.gLe, DL.gGt, DL.gGe, DL.gAdd, DL.gSub, DL.gMul, DL.gMod, DL.gDiv, DL.gPow]
  refine u_isi (k_tup x) ?_
  cases x with
  | tuple xs =>
    try dsimp only [wRet, wAnd, wOr, wUn, wOp, wCa, wCons, wNil, wVar, wC, wSeq, wNext, wPass, wAsg, wExp, wIf, wB, wIfE, wAndT, wOrT, wNotT, wTup, wLst, wSl, dSl, wNoP, wPart, wCall, wCallK, wCallO, wFrz, wGet1, wGet2, wPut, wNewT, wPar, wgName, wgTup, wgCons, wgNil, wgLst, wiT, wiL, wiR1, wiZip, wiEnu, wiEnuA, wChain, wYes, wBM, wBM0, slot, allD, wipeS, List.map_cons, List.map_nil, List.set_cons_zero, List.set_cons_succ, wUn, dNot, dII0, dII, dEqS, dNeS, dIsN, dNotN, dNeg, ends, DL.gLt, DL.gLe, DL.gGt, DL.gGe, DL.gAdd, DL.gSub, DL.gMul, DL.gMod, DL.gDiv, DL.gPow]
    refine u_len ?_
    try dsimp only [wRet, wAnd, wOr, wUn, wOp, wCa, wCons, wNil, wVar, wC, wSeq, wNext, wPass, wAsg, wExp, wIf, wB, wIfE, wAndT, wOrT, wNotT, wTup, wLst, wSl, dSl, wNoP, wPart, wCall, wCallK, wCallO, wFrz, wGet1, wGet2, wPut, wNewT, wPar, wgName, wgTup, wgCons, wgNil, wgLst, wiT, wiL, wiR1, wiZip, wiEnu, wiEnuA, wChain, wYes, wBM, wBM0, slot, allD, wipeS, List.map_cons, List.map_nil, List.set_cons_zero, List.set_cons_succ, wUn, dNot, dII0, dII, dEqS, dNeS, dIsN, dNotN, dNeg, ends, DL.gLt, DL.gLe, DL.gGt, DL.gGe, DL.gAdd, DL.gSub, DL.gMul, DL.gMod, DL.gDiv, DL.gPow]
    have e : areRg (.tuple xs) = (decide (1 ≤ xs.length ∧ xs.length ≤ 40) && xs.all isLen) := rfl
    rw [e] at hR
    by_cases h1 : (1 : Int) ≤ xs.length
    · rw [decide_eq_true h1]
      try dsimp only [wRet, wAnd, wOr, wUn, wOp, wCa, wCons, wNil, wVar, wC, wSeq, wNext, wPass, wAsg, wExp, wIf, wB, wIfE, wAndT, wOrT, wNotT, wTup, wLst, wSl, dSl, wNoP, wPart, wCall, wCallK, wCallO, wFrz, wGet1, wGet2, wPut, wNewT, wPar, wgName, wgTup, wgCons, wgNil, wgLst, wiT, wiL, wiR1, wiZip, wiEnu, wiEnuA, wChain, wYes, wBM, wBM0, slot, allD, wipeS, List.map_cons, List.map_nil, List.set_cons_zero, List.set_cons_succ, wUn, dNot, dII0, dII, dEqS, dNeS, dIsN, dNotN, dNeg, ends, DL.gLt, DL.gLe, DL.gGt, DL.gGe, DL.gAdd, DL.gSub, DL.gMul, DL.gMod, DL.gDiv, DL.gPow]
      by_cases h2 : (xs.length : Int) ≤ 40
      · rw [decide_eq_true h2]
        rw [decide_eq_true (by omega)] at hR
        try dsimp only [wRet, wAnd, wOr, wUn, wOp, wCa, wCons, wNil, wVar, wC, wSeq, wNext, wPass, wAsg, wExp, wIf, wB, wIfE, wAndT, wOrT, wNotT, wTup, wLst, wSl, dSl, wNoP, wPart, wCall, wCallK, wCallO, wFrz, wGet1, wGet2, wPut, wNewT, wPar, wgName, wgTup, wgCons, wgNil, wgLst, wiT, wiL, wiR1, wiZip, wiEnu, wiEnuA, wChain, wYes, wBM, wBM0, slot, allD, wipeS, List.map_cons, List.map_nil, List.set_cons_zero, List.set_cons_succ, wUn, dNot, dII0, dII, dEqS, dNeS, dIsN, dNotN, dNeg, ends, DL.gLt, DL.gLe, DL.gGt, DL.gGe, DL.gAdd, DL.gSub, DL.gMul, DL.gMod, DL.gDiv, DL.gPow]
        refine lc_fun xs _ (fun x => .bool (isLen x)) (fun C h => h) (Nat.le_trans (by omega : xs.length ≤ 40) (by decide)) (fun x hx o E hE => ?_) ?_
        · try dsimp only [wRet, wAnd, wOr, wUn, wOp, wCa, wCons, wNil, wVar, wC, wSeq, wNext, wPass, wAsg, wExp, wIf, wB, wIfE, wAndT, wOrT, wNotT, wTup, wLst, wSl, dSl, wNoP, wPart, wCall, wCallK, wCallO, wFrz, wGet1, wGet2, wPut, wNewT, wPar, wgName, wgTup, wgCons, wgNil, wgLst, wiT, wiL, wiR1, wiZip, wiEnu, wiEnuA, wChain, wYes, wBM, wBM0, slot, allD, wipeS, List.map_cons, List.map_nil, List.set_cons_zero, List.set_cons_succ, wUn, dNot, dII0, dII, dEqS, dNeS, dIsN, dNotN, dNeg, ends, DL.gLt, DL.gLe, DL.gGt, DL.gGe, DL.gAdd, DL.gSub, DL.gMul, DL.gMod, DL.gDiv, DL.gPow]
          refine call_pur [x] (.bool (isWh x)) rfl ⟨x, rfl, rfl⟩ ?_
          cases x with
          | int i => exact hE _ rfl
          | _ => exact hE _ rfl
        · try dsimp only [wRet, wAnd, wOr, wUn, wOp, wCa, wCons, wNil, wVar, wC, wSeq, wNext, wPass, wAsg, wExp, wIf, wB, wIfE, wAndT, wOrT, wNotT, wTup, wLst, wSl, dSl, wNoP, wPart, wCall, wCallK, wCallO, wFrz, wGet1, wGet2, wPut, wNewT, wPar, wgName, wgTup, wgCons, wgNil, wgLst, wiT, wiL, wiR1, wiZip, wiEnu, wiEnuA, wChain, wYes, wBM, wBM0, slot, allD, wipeS, List.map_cons, List.map_nil, List.set_cons_zero, List.set_cons_succ, wUn, dNot, dII0, dII, dEqS, dNeS, dIsN, dNotN, dNeg, ends, DL.gLt, DL.gLe, DL.gGt, DL.gGe, DL.gAdd, DL.gSub, DL.gMul, DL.gMod, DL.gDiv, DL.gPow]
          exact u_all (hR _)
      · rw [decide_eq_false h2]
        rw [decide_eq_false (by omega)] at hR
        exact hR ob
    · rw [decide_eq_false h1]
      rw [decide_eq_false (by omega)] at hR
      exact hR ob
  | _ => exact hR ob
def asc : List PyData → Bool
  | x :: y :: r => PySem.W.dataLt x y && asc (y :: r)
  | _ => true
def nbr : List PyData → Prop
  | x :: y :: r => Lts x y ∧ nbr (y :: r)
  | _ => True
/-- neighbours -/
def prs : List PyData → List PyData
  | x :: y :: r => .tuple [x, y] :: prs (y :: r)
  | _ => []
def ltP : PyData → Bool
  | .tuple [x, y] => PySem.W.dataLt x y
  | _ => false
theorem prs_len : ∀ xs : List PyData, (prs xs).length ≤ xs.length
  | [] => Nat.le_refl _
  | [_] => Nat.zero_le _
  | x :: y :: r => Nat.succ_le_succ (prs_len (y :: r))
theorem zip_drop : ∀ xs : List PyData, zipP xs (xs.drop 1) = prs xs
  | [] => rfl
  | [_] => rfl
  | x :: y :: r => by
    show .tuple [x, y] :: zipP (y :: r) r = .tuple [x, y] :: prs (y :: r)
    rw [← zip_drop (y :: r)]
    rfl
theorem cut_from1 {α : Type} (xs : List α) : DL.cutD xs (some 1) none = xs.drop 1 := by
  unfold DL.cutD
  rw [show HT.sIx xs.length 0 (some 1) = min 1 xs.length from HT.sIx_nat xs.length 0 1, HT.sIx_none]
  cases xs with
  | nil => rfl
  | cons x r =>
    rw [show min 1 (x :: r).length = 1 by rw [List.length_cons]; omega]
    show List.take ((x :: r).length - 1) r = r
    rw [List.length_cons, Nat.add_sub_cancel]
    exact List.take_length
theorem zip_tail (xs : List PyData) : zipP xs (DL.cutD xs (some 1) none) = prs xs := by rw [cut_from1, zip_drop]
theorem asc_prs : ∀ xs : List PyData, asc xs = (prs xs).all ltP
  | [] => rfl
  | [_] => rfl
  | x :: y :: r => by
    show (PySem.W.dataLt x y && asc (y :: r)) = (ltP (.tuple [x, y]) && (prs (y :: r)).all ltP)
    rw [asc_prs (y :: r)]
    rfl
theorem prs_mem : ∀ {xs : List PyData} {x : PyData}, nbr xs → x ∈ prs xs → ∃ u v, x = .tuple [u, v] ∧ Lts u v
  | [], _, _, h => nomatch h
  | [_], _, _, h => nomatch h
  | a :: b :: r, x, n, h => by
    rcases List.mem_cons.mp h with e | h
    · exact ⟨a, b, e, n.1⟩
    · exact prs_mem n.2 h
def sides : PyData → List PyData
  | .tuple ds => ds
  | _ => []
def sp_is_ascending : DSp := pur 1 fun ds y => ∃ xs, ds = [.tuple xs] ∧ nbr xs ∧ xs.length ≤ 1000 ∧ y = .bool (asc xs)
theorem ok_is_ascending {P : Program} {w0 : World} {K : PySem.W.Frag} {mg : Str → Option Value} {base : Heap} (b : BI mg) (h : Hd K mg "is_ascending" s_is_ascending nP_is_ascending) : DefG P w0 K mg base 1 "is_ascending" s_is_ascending nP_is_ascending sp_is_ascending := by
  refine mk_def h sc_is_ascending pur_len (pdss_one (pds_ret (pd_all rfl b.all (pda_cons (pd_lc (own := [("low", 1), ("high", 2)]) (pdi_zip (pda_cons (pd_var 0) (pda_cons (pd_slice (pd_var 0) (pdo_some pd_int) pdo_none) pda_nil)) rfl b.zip) (blkOk_by (own := [("low", 1), ("high", 2)]) (N := nN_is_ascending) (sc := defScope s_is_ascending) (by decide +kernel)) (pdg_tup (n := 2) (pdgs_cons (pdg_name 1) (pdgs_cons (pdg_name 2) pdgs_nil))) pdts_nil (pd_cmpD cd_ltD (pd_var 1) (pd_var 2))) pda_nil)))) ?_
  rintro dvs ob R X ⟨ds, y, rfl, hl, ⟨xs, rfl, hn, hz, rfl⟩, hR⟩ sl e1
  have e1 : [some (.d (.tuple xs)), none, none] = sl := e1
  subst e1
  try dsimp only [wRet, wAnd, wOr, wUn, wOp, wCa, wCons, wNil, wVar, wC, wSeq, wNext, wPass, wAsg, wExp, wIf, wB, wIfE, wAndT, wOrT, wNotT, wTup, wLst, wSl, dSl, wNoP, wPart, wCall, wCallK, wCallO, wFrz, wGet1, wGet2, wPut, wNewT, wPar, wgName, wgTup, wgCons, wgNil, wgLst, wiT, wiL, wiR1, wiZip, wiEnu, wiEnuA, wChain, wYes, wBM, wBM0, slot, allD, wipeS, List.map_cons, List.map_nil, List.set_cons_zero, List.set_cons_succ, wUn, dNot, dII0, dII, dEqS, dNeS, dIsN, dNotN, dNeg, ends, DL.gLt, DL.gLe, DL.gGt, DL.gGe, DL.gAdd, DL.gSub, DL.gMul, DL.gMod, DL.gDiv, DL.gPow]
  have ez : zipP xs (DL.cutD xs (some 1) none) = prs xs := zip_tail xs
  refine lc_fun (prs xs) ⟨[some (.d (.tuple xs)), none, none], ob⟩ (fun x => .bool (ltP x)) (fun C h => ?_) (Nat.le_trans (prs_len xs) (Nat.le_trans hz (by decide))) (fun x hx o E hE => ?_) ?_
  · show C (zipP xs (DL.cutD xs (some 1) none)) _
    rw [ez]
    exact h
  · obtain ⟨u, v, rfl, lt⟩ := prs_mem hn hx
    try dsimp only [wRet, wAnd, wOr, wUn, wOp, wCa, wCons, wNil, wVar, wC, wSeq, wNext, wPass, wAsg, wExp, wIf, wB, wIfE, wAndT, wOrT, wNotT, wTup, wLst, wSl, dSl, wNoP, wPart, wCall, wCallK, wCallO, wFrz, wGet1, wGet2, wPut, wNewT, wPar, wgName, wgTup, wgCons, wgNil, wgLst, wiT, wiL, wiR1, wiZip, wiEnu, wiEnuA, wChain, wYes, wBM, wBM0, slot, allD, wipeS, List.map_cons, List.map_nil, List.set_cons_zero, List.set_cons_succ, wUn, dNot, dII0, dII, dEqS, dNeS, dIsN, dNotN, dNeg, ends, DL.gLt, DL.gLe, DL.gGt, DL.gGe, DL.gAdd, DL.gSub, DL.gMul, DL.gMod, DL.gDiv, DL.gPow]
    exact ⟨rfl, lt, hE _ rfl⟩
  · try dsimp only [wRet, wAnd, wOr, wUn, wOp, wCa, wCons, wNil, wVar, wC, wSeq, wNext, wPass, wAsg, wExp, wIf, wB, wIfE, wAndT, wOrT, wNotT, wTup, wLst, wSl, dSl, wNoP, wPart, wCall, wCallK, wCallO, wFrz, wGet1, wGet2, wPut, wNewT, wPar, wgName, wgTup, wgCons, wgNil, wgLst, wiT, wiL, wiR1, wiZip, wiEnu, wiEnuA, wChain, wYes, wBM, wBM0, slot, allD, wipeS, List.map_cons, List.map_nil, List.set_cons_zero, List.set_cons_succ, wUn, dNot, dII0, dII, dEqS, dNeS, dIsN, dNotN, dNeg, ends, DL.gLt, DL.gLe, DL.gGt, DL.gGe, DL.gAdd, DL.gSub, DL.gMul, DL.gMod, DL.gDiv, DL.gPow]
    have := hR (ob ++ [.lst (((prs xs).map fun x => .bool (ltP x)).map .d)])
    rw [asc_prs] at this
    exact u_all this
def dist (l : List PyData) : Bool := match rowsI l with
  | some ws => decide (dcn ws = ws.length)
  | none => false
def isFlT (ns : List Int) (ts : List PyData) : Bool := ts.all (isTch ns) && (asc ts && dist (ts.flatMap sides))
def isFl : PyData → Bool
  | .tuple [.tuple rs, .tuple ts] => areRg (.tuple rs) && (match intsOf rs with
    | some ns => isFlT ns ts
    | none => false)
  | _ => false
theorem rg_tup {x : PyData} (h : areRg x = true) : ∃ ns : List Int, x = .tuple (ns.map .int) := by
  cases x with
  | tuple rs =>
    have h : (decide (1 ≤ rs.length ∧ rs.length ≤ 40) && rs.all isLen) = true := h
    rw [Bool.and_eq_true] at h
    have h2 := h.2
    clear h
    clear h
    have : ∃ ns : List Int, rs = ns.map .int := by
      induction rs with
      | nil => exact ⟨[], rfl⟩
      | cons r rs ih =>
        rw [List.all_cons, Bool.and_eq_true] at h2
        obtain ⟨ns, rfl⟩ := ih h2.2
        cases r with
        | int i => exact ⟨i :: ns, rfl⟩
        | _ => cases h2.1
    obtain ⟨ns, rfl⟩ := this
    exact ⟨ns, rfl⟩
  | _ => cases h
theorem tch_of {ns : List Int} {t : PyData} (h : isTch ns t = true) : ∃ u i v j : Int, t = .tuple [.tuple [.int u, .int i], .tuple [.int v, .int j]] := by
  cases hp : isPr t with
  | false =>
    rw [isTch_not hp] at h
    cases h
  | true =>
    obtain ⟨x, y, rfl⟩ := pr_of hp
    have h : (isPl ns x && isPl ns y && PySem.W.dataLt x y) = true := h
    rw [Bool.and_eq_true, Bool.and_eq_true] at h
    obtain ⟨u, i, rfl⟩ := pl_of h.1.1
    obtain ⟨v, j, rfl⟩ := pl_of h.1.2
    exact ⟨u, i, v, j, rfl⟩
theorem tch_nbr {ns : List Int} : ∀ {ts : List PyData}, ts.all (isTch ns) = true → nbr ts
  | [], _ => trivial
  | [_], _ => trivial
  | x :: y :: r, h => by
    rw [List.all_cons, Bool.and_eq_true] at h
    have h2 := h.2
    rw [List.all_cons, Bool.and_eq_true] at h2
    obtain ⟨u, i, v, j, rfl⟩ := tch_of h.1
    obtain ⟨u', i', v', j', rfl⟩ := tch_of h2.1
    exact ⟨⟨by simp [PySem.W.alike, PySem.W.alikeAll], by simp [PyData.hasDict, PyData.hasDictAll], by simp [PyData.hasDict, PyData.hasDictAll], rfl, by simp [PyData.depth, PyData.depthAll]⟩, tch_nbr h.2⟩
theorem tch_rows {ns : List Int} : ∀ {ts : List PyData}, ts.all (isTch ns) = true → ∃ ws, rowsI (ts.flatMap sides) = some ws ∧ ws.length = 2 * ts.length ∧ (ts.flatMap sides).length = ws.length
  | [], _ => ⟨[], rfl, rfl, rfl⟩
  | x :: r, h => by
    rw [List.all_cons, Bool.and_eq_true] at h
    obtain ⟨ws, e, l, l2⟩ := tch_rows h.2
    obtain ⟨u, i, v, j, rfl⟩ := tch_of h.1
    refine ⟨[u, i] :: [v, j] :: ws, ?_, by simp [l]; omega, by simp [l2, sides]⟩
    show rowsI (.tuple [.int u, .int i] :: .tuple [.int v, .int j] :: r.flatMap sides) = _
    simp only [rowsI, rowI, intsOf, Option.map_some, e]
theorem isFl_no1 {x : PyData} (h : isPr x = false) : isFl x = false := by
  match x, h with
  | .none, _ => rfl
  | .bool _, _ => rfl
  | .int _, _ => rfl
  | .str _, _ => rfl
  | .list _, _ => rfl
  | .dict _, _ => rfl
  | .tuple [], _ => rfl
  | .tuple [.none], _ => rfl
  | .tuple [.bool _], _ => rfl
  | .tuple [.int _], _ => rfl
  | .tuple [.str _], _ => rfl
  | .tuple [.list _], _ => rfl
  | .tuple [.dict _], _ => rfl
  | .tuple [.tuple _], _ => rfl
  | .tuple (_ :: _ :: _ :: _), _ => simp [isFl]
theorem isFl_no2 {r t : PyData} (h : areRg r = false) : isFl (.tuple [r, t]) = false := by
  cases r with
  | tuple rs =>
    cases t with
    | tuple ts =>
      show (areRg (.tuple rs) && _) = false
      rw [h]
      rfl
    | _ => rfl
  | _ => rfl
theorem isFl_no3 {r t : PyData} (h : isTup t = false) : isFl (.tuple [r, t]) = false := by
  cases r <;> cases t <;> first | rfl | cases h
theorem tup_of {t : PyData} (h : isTup t = true) : ∃ ts, t = .tuple ts := by
  cases t with
  | tuple ts => exact ⟨ts, rfl⟩
  | _ => cases h
theorem isFl_eq {ns : List Int} {ts : List PyData} (h : areRg (.tuple (ns.map .int)) = true) : isFl (.tuple [.tuple (ns.map .int), .tuple ts]) = isFlT ns ts := by
  show (areRg (.tuple (ns.map .int)) && (match intsOf (ns.map .int) with | some ns => isFlT ns ts | none => false)) = _
  rw [h, intsOf_map]
  rfl
def few (x : PyData) : Prop := ∀ r ts, x = .tuple [r, .tuple ts] → ts.length ≤ 31
def sp_is_floor : DSp := pur 1 fun ds y => ∃ x, ds = [x] ∧ few x ∧ y = .bool (isFl x)
theorem ok_is_floor {P : Program} {w0 : World} {K : PySem.W.Frag} {mg : Str → Option Value} {base : Heap} (b : BI mg) (h : Hd K mg "is_floor" s_is_floor nP_is_floor) (c_is_touch : DefG P w0 K mg base 4 "_is_touch" s_is_touch nP_is_touch sp_is_touch) (c_are_rings : DefG P w0 K mg base 2 "are_rings" s_are_rings nP_are_rings sp_are_rings) (c_is_ascending : DefG P w0 K mg base 1 "is_ascending" s_is_ascending nP_is_ascending sp_is_ascending) (c_is_pair : DefG P w0 K mg base 1 "is_pair" s_is_pair nP_is_pair sp_is_pair) : DefG P w0 K mg base 5 "is_floor" s_is_floor nP_is_floor sp_is_floor := by
  refine mk_def h sc_is_floor pur_len (pdss_cons (pds_if (PDW.pt (pdw_or (pdt_not (pdt_val (pd_call 0 (c_is_pair.to) rfl (pda_cons (pd_var 0) pda_nil)))) (pdw_or (pdt_not (pdt_val (pd_call 0 (c_are_rings.to) rfl (pda_cons (pd_ix (pd_var 0) pd_int) pda_nil)))) (pdw_or1 (pdt_not (pdt_val (pd_isi (u := "tuple") (pd_ix (pd_var 0) pd_int) rfl b.isinstance rfl b.tuple_ (by decide +kernel)))))))) (pdss_one (pds_ret pd_bl)) pdss_nil)
  (pdss_cons (pds_asg (pd_var 0) (pdg_tup (n := 2) (pdgs_cons (pdg_name 1) (pdgs_cons (pdg_name 2) pdgs_nil))))
  (pdss_cons (pds_if (pdt_not (pdt_val (pd_all rfl b.all (pda_cons (pd_lc (own := [("touch", 4)]) (pdi_tup (pd_var 2)) (blkOk_by (own := [("touch", 4)]) (N := nN_is_floor) (sc := defScope s_is_floor) (by decide +kernel)) (pdg_name 4) pdts_nil (pd_call 0 (c_is_touch.toB) rfl (pda_cons (pd_var 1) (pda_cons (pd_var 4) pda_nil)))) pda_nil)))) (pdss_one (pds_ret pd_bl)) pdss_nil)
  (pdss_cons (pds_setLc2 3 (own := [("touch", 4), ("place", 5)]) [5] (pdi_tup (pd_var 2)) (blkOk_by (own := [("touch", 4), ("place", 5)]) (N := nN_is_floor) (sc := defScope s_is_floor) (by decide +kernel)) (pdg_name 4) (pdi_tup (pd_var 4)) (pdg_name 5) (pd_var 5) (fun env e => sw_true (by rw [e]; rfl) (by rw [e]; rfl) rfl (by decide +kernel)))
  (pdss_one (pds_ret (pd_and (pd_call 0 (c_is_ascending.to) rfl (pda_cons (pd_var 2) pda_nil)) (pd_one (pd_cmpD cd_eqS (pd_lenSet (pd_var 3) rfl b.len rfl b.set_) (pd_len rfl b.len (pda_cons (pd_var 3) pda_nil))))))))))) ?_
  rintro dvs ob R X ⟨ds, y, rfl, hl, ⟨x, rfl, hfew, rfl⟩, hR⟩ sl e1
  have e1 : [some (.d x), none, none, none, none, none] = sl := e1
  subst e1
  try dsimp only [wRet, wAnd, wOr, wUn, wOp, wCa, wCons, wNil, wVar, wC, wSeq, wNext, wPass, wAsg, wExp, wIf, wB, wIfE, wAndT, wOrT, wNotT, wTup, wLst, wSl, dSl, wNoP, wPart, wCall, wCallK, wCallO, wFrz, wGet1, wGet2, wPut, wNewT, wPar, wgName, wgTup, wgCons, wgNil, wgLst, wiT, wiL, wiR1, wiZip, wiEnu, wiEnuA, wChain, wYes, wBM, wBM0, slot, allD, wipeS, List.map_cons, List.map_nil, List.set_cons_zero, List.set_cons_succ, wUn, dNot, dII0, dII, dEqS, dNeS, dIsN, dNotN, dNeg, ends, DL.gLt, DL.gLe, DL.gGt, DL.gGe, DL.gAdd, DL.gSub, DL.gMul, DL.gMod, DL.gDiv, DL.gPow]
  refine call_pur [x] (.bool (isPr x)) rfl ⟨x, rfl, rfl⟩ ?_
  cases hp : isPr x with
  | false =>
    try dsimp only [wRet, wAnd, wOr, wUn, wOp, wCa, wCons, wNil, wVar, wC, wSeq, wNext, wPass, wAsg, wExp, wIf, wB, wIfE, wAndT, wOrT, wNotT, wTup, wLst, wSl, dSl, wNoP, wPart, wCall, wCallK, wCallO, wFrz, wGet1, wGet2, wPut, wNewT, wPar, wgName, wgTup, wgCons, wgNil, wgLst, wiT, wiL, wiR1, wiZip, wiEnu, wiEnuA, wChain, wYes, wBM, wBM0, slot, allD, wipeS, List.map_cons, List.map_nil, List.set_cons_zero, List.set_cons_succ, wUn, dNot, dII0, dII, dEqS, dNeS, dIsN, dNotN, dNeg, ends, DL.gLt, DL.gLe, DL.gGt, DL.gGe, DL.gAdd, DL.gSub, DL.gMul, DL.gMod, DL.gDiv, DL.gPow]
    have := hR ob
    rw [show isFl x = false from isFl_no1 hp] at this
    exact this
  | true =>
    obtain ⟨r, t, rfl⟩ := pr_of hp
    try dsimp only [wRet, wAnd, wOr, wUn, wOp, wCa, wCons, wNil, wVar, wC, wSeq, wNext, wPass, wAsg, wExp, wIf, wB, wIfE, wAndT, wOrT, wNotT, wTup, wLst, wSl, dSl, wNoP, wPart, wCall, wCallK, wCallO, wFrz, wGet1, wGet2, wPut, wNewT, wPar, wgName, wgTup, wgCons, wgNil, wgLst, wiT, wiL, wiR1, wiZip, wiEnu, wiEnuA, wChain, wYes, wBM, wBM0, slot, allD, wipeS, List.map_cons, List.map_nil, List.set_cons_zero, List.set_cons_succ, wUn, dNot, dII0, dII, dEqS, dNeS, dIsN, dNotN, dNeg, ends, DL.gLt, DL.gLe, DL.gGt, DL.gGe, DL.gAdd, DL.gSub, DL.gMul, DL.gMod, DL.gDiv, DL.gPow]
    refine u_ix (z := r) rfl ?_
    try dsimp only [wRet, wAnd, wOr, wUn, wOp, wCa, wCons, wNil, wVar, wC, wSeq, wNext, wPass, wAsg, wExp, wIf, wB, wIfE, wAndT, wOrT, wNotT, wTup, wLst, wSl, dSl, wNoP, wPart, wCall, wCallK, wCallO, wFrz, wGet1, wGet2, wPut, wNewT, wPar, wgName, wgTup, wgCons, wgNil, wgLst, wiT, wiL, wiR1, wiZip, wiEnu, wiEnuA, wChain, wYes, wBM, wBM0, slot, allD, wipeS, List.map_cons, List.map_nil, List.set_cons_zero, List.set_cons_succ, wUn, dNot, dII0, dII, dEqS, dNeS, dIsN, dNotN, dNeg, ends, DL.gLt, DL.gLe, DL.gGt, DL.gGe, DL.gAdd, DL.gSub, DL.gMul, DL.gMod, DL.gDiv, DL.gPow]
    refine call_pur [r] (.bool (areRg r)) rfl ⟨r, rfl, rfl⟩ ?_
    cases hr : areRg r with
    | false =>
      try dsimp only [wRet, wAnd, wOr, wUn, wOp, wCa, wCons, wNil, wVar, wC, wSeq, wNext, wPass, wAsg, wExp, wIf, wB, wIfE, wAndT, wOrT, wNotT, wTup, wLst, wSl, dSl, wNoP, wPart, wCall, wCallK, wCallO, wFrz, wGet1, wGet2, wPut, wNewT, wPar, wgName, wgTup, wgCons, wgNil, wgLst, wiT, wiL, wiR1, wiZip, wiEnu, wiEnuA, wChain, wYes, wBM, wBM0, slot, allD, wipeS, List.map_cons, List.map_nil, List.set_cons_zero, List.set_cons_succ, wUn, dNot, dII0, dII, dEqS, dNeS, dIsN, dNotN, dNeg, ends, DL.gLt, DL.gLe, DL.gGt, DL.gGe, DL.gAdd, DL.gSub, DL.gMul, DL.gMod, DL.gDiv, DL.gPow]
      have := hR ob
      rw [show isFl (.tuple [r, t]) = false from isFl_no2 hr] at this
      exact this
    | true =>
      obtain ⟨ns, rfl⟩ := rg_tup hr
      try dsimp only [wRet, wAnd, wOr, wUn, wOp, wCa, wCons, wNil, wVar, wC, wSeq, wNext, wPass, wAsg, wExp, wIf, wB, wIfE, wAndT, wOrT, wNotT, wTup, wLst, wSl, dSl, wNoP, wPart, wCall, wCallK, wCallO, wFrz, wGet1, wGet2, wPut, wNewT, wPar, wgName, wgTup, wgCons, wgNil, wgLst, wiT, wiL, wiR1, wiZip, wiEnu, wiEnuA, wChain, wYes, wBM, wBM0, slot, allD, wipeS, List.map_cons, List.map_nil, List.set_cons_zero, List.set_cons_succ, wUn, dNot, dII0, dII, dEqS, dNeS, dIsN, dNotN, dNeg, ends, DL.gLt, DL.gLe, DL.gGt, DL.gGe, DL.gAdd, DL.gSub, DL.gMul, DL.gMod, DL.gDiv, DL.gPow]
      refine u_ix (z := t) rfl ?_
      try dsimp only [wRet, wAnd, wOr, wUn, wOp, wCa, wCons, wNil, wVar, wC, wSeq, wNext, wPass, wAsg, wExp, wIf, wB, wIfE, wAndT, wOrT, wNotT, wTup, wLst, wSl, dSl, wNoP, wPart, wCall, wCallK, wCallO, wFrz, wGet1, wGet2, wPut, wNewT, wPar, wgName, wgTup, wgCons, wgNil, wgLst, wiT, wiL, wiR1, wiZip, wiEnu, wiEnuA, wChain, wYes, wBM, wBM0, slot, allD, wipeS, List.map_cons, List.map_nil, List.set_cons_zero, List.set_cons_succ, wUn, dNot, dII0, dII, dEqS, dNeS, dIsN, dNotN, dNeg, ends, DL.gLt, DL.gLe, DL.gGt, DL.gGe, DL.gAdd, DL.gSub, DL.gMul, DL.gMod, DL.gDiv, DL.gPow]
      refine u_isi (k_tup t) ?_
      cases ht : isTup t with
      | false =>
        try dsimp only [wRet, wAnd, wOr, wUn, wOp, wCa, wCons, wNil, wVar, wC, wSeq, wNext, wPass, wAsg, wExp, wIf, wB, wIfE, wAndT, wOrT, wNotT, wTup, wLst, wSl, dSl, wNoP, wPart, wCall, wCallK, wCallO, wFrz, wGet1, wGet2, wPut, wNewT, wPar, wgName, wgTup, wgCons, wgNil, wgLst, wiT, wiL, wiR1, wiZip, wiEnu, wiEnuA, wChain, wYes, wBM, wBM0, slot, allD, wipeS, List.map_cons, List.map_nil, List.set_cons_zero, List.set_cons_succ, wUn, dNot, dII0, dII, dEqS, dNeS, dIsN, dNotN, dNeg, ends, DL.gLt, DL.gLe, DL.gGt, DL.gGe, DL.gAdd, DL.gSub, DL.gMul, DL.gMod, DL.gDiv, DL.gPow]
        have := hR ob
        rw [show isFl (.tuple [.tuple (ns.map .int), t]) = false from isFl_no3 ht] at this
        exact this
      | true =>
        obtain ⟨ts, rfl⟩ := tup_of ht
        have e : isFl (.tuple [.tuple (ns.map .int), .tuple ts]) = isFlT ns ts := isFl_eq hr
        rw [e] at hR
        have hlen : ts.length ≤ 31 := hfew _ _ rfl
        try dsimp only [wRet, wAnd, wOr, wUn, wOp, wCa, wCons, wNil, wVar, wC, wSeq, wNext, wPass, wAsg, wExp, wIf, wB, wIfE, wAndT, wOrT, wNotT, wTup, wLst, wSl, dSl, wNoP, wPart, wCall, wCallK, wCallO, wFrz, wGet1, wGet2, wPut, wNewT, wPar, wgName, wgTup, wgCons, wgNil, wgLst, wiT, wiL, wiR1, wiZip, wiEnu, wiEnuA, wChain, wYes, wBM, wBM0, slot, allD, wipeS, List.map_cons, List.map_nil, List.set_cons_zero, List.set_cons_succ, wUn, dNot, dII0, dII, dEqS, dNeS, dIsN, dNotN, dNeg, ends, DL.gLt, DL.gLe, DL.gGt, DL.gGe, DL.gAdd, DL.gSub, DL.gMul, DL.gMod, DL.gDiv, DL.gPow]
        refine ⟨rfl, ?_⟩
        try dsimp only [wRet, wAnd, wOr, wUn, wOp, wCa, wCons, wNil, wVar, wC, wSeq, wNext, wPass, wAsg, wExp, wIf, wB, wIfE, wAndT, wOrT, wNotT, wTup, wLst, wSl, dSl, wNoP, wPart, wCall, wCallK, wCallO, wFrz, wGet1, wGet2, wPut, wNewT, wPar, wgName, wgTup, wgCons, wgNil, wgLst, wiT, wiL, wiR1, wiZip, wiEnu, wiEnuA, wChain, wYes, wBM, wBM0, slot, allD, wipeS, List.map_cons, List.map_nil, List.set_cons_zero, List.set_cons_succ, wUn, dNot, dII0, dII, dEqS, dNeS, dIsN, dNotN, dNeg, ends, DL.gLt, DL.gLe, DL.gGt, DL.gGe, DL.gAdd, DL.gSub, DL.gMul, DL.gMod, DL.gDiv, DL.gPow]
        refine lc_fun ts _ (fun x => .bool (isTch ns x)) (fun C h => h) (Nat.le_trans hlen (by decide)) (fun x hx o E hE => ?_) ?_
        · try dsimp only [wRet, wAnd, wOr, wUn, wOp, wCa, wCons, wNil, wVar, wC, wSeq, wNext, wPass, wAsg, wExp, wIf, wB, wIfE, wAndT, wOrT, wNotT, wTup, wLst, wSl, dSl, wNoP, wPart, wCall, wCallK, wCallO, wFrz, wGet1, wGet2, wPut, wNewT, wPar, wgName, wgTup, wgCons, wgNil, wgLst, wiT, wiL, wiR1, wiZip, wiEnu, wiEnuA, wChain, wYes, wBM, wBM0, slot, allD, wipeS, List.map_cons, List.map_nil, List.set_cons_zero, List.set_cons_succ, wUn, dNot, dII0, dII, dEqS, dNeS, dIsN, dNotN, dNeg, ends, DL.gLt, DL.gLe, DL.gGt, DL.gGe, DL.gAdd, DL.gSub, DL.gMul, DL.gMod, DL.gDiv, DL.gPow]
          exact call_pur [.tuple (ns.map .int), x] (.bool (isTch ns x)) rfl ⟨ns, x, rfl, rfl⟩ (hE _ rfl)
        · try dsimp only [wRet, wAnd, wOr, wUn, wOp, wCa, wCons, wNil, wVar, wC, wSeq, wNext, wPass, wAsg, wExp, wIf, wB, wIfE, wAndT, wOrT, wNotT, wTup, wLst, wSl, dSl, wNoP, wPart, wCall, wCallK, wCallO, wFrz, wGet1, wGet2, wPut, wNewT, wPar, wgName, wgTup, wgCons, wgNil, wgLst, wiT, wiL, wiR1, wiZip, wiEnu, wiEnuA, wChain, wYes, wBM, wBM0, slot, allD, wipeS, List.map_cons, List.map_nil, List.set_cons_zero, List.set_cons_succ, wUn, dNot, dII0, dII, dEqS, dNeS, dIsN, dNotN, dNeg, ends, DL.gLt, DL.gLe, DL.gGt, DL.gGe, DL.gAdd, DL.gSub, DL.gMul, DL.gMod, DL.gDiv, DL.gPow]
          refine u_all ?_
          have eT : isFlT ns ts = (ts.all (isTch ns) && (asc ts && dist (ts.flatMap sides))) := rfl
          rw [eT] at hR
          cases ha : ts.all (isTch ns) with
          | false =>
            rw [ha] at hR
            try dsimp only [wRet, wAnd, wOr, wUn, wOp, wCa, wCons, wNil, wVar, wC, wSeq, wNext, wPass, wAsg, wExp, wIf, wB, wIfE, wAndT, wOrT, wNotT, wTup, wLst, wSl, dSl, wNoP, wPart, wCall, wCallK, wCallO, wFrz, wGet1, wGet2, wPut, wNewT, wPar, wgName, wgTup, wgCons, wgNil, wgLst, wiT, wiL, wiR1, wiZip, wiEnu, wiEnuA, wChain, wYes, wBM, wBM0, slot, allD, wipeS, List.map_cons, List.map_nil, List.set_cons_zero, List.set_cons_succ, wUn, dNot, dII0, dII, dEqS, dNeS, dIsN, dNotN, dNeg, ends, DL.gLt, DL.gLe, DL.gGt, DL.gGe, DL.gAdd, DL.gSub, DL.gMul, DL.gMod, DL.gDiv, DL.gPow]
            exact hR _
          | true =>
            rw [ha, Bool.true_and] at hR
            obtain ⟨ws, hws, hwl, hsl⟩ := tch_rows ha
            try dsimp only [wRet, wAnd, wOr, wUn, wOp, wCa, wCons, wNil, wVar, wC, wSeq, wNext, wPass, wAsg, wExp, wIf, wB, wIfE, wAndT, wOrT, wNotT, wTup, wLst, wSl, dSl, wNoP, wPart, wCall, wCallK, wCallO, wFrz, wGet1, wGet2, wPut, wNewT, wPar, wgName, wgTup, wgCons, wgNil, wgLst, wiT, wiL, wiR1, wiZip, wiEnu, wiEnuA, wChain, wYes, wBM, wBM0, slot, allD, wipeS, List.map_cons, List.map_nil, List.set_cons_zero, List.set_cons_succ, wUn, dNot, dII0, dII, dEqS, dNeS, dIsN, dNotN, dNeg, ends, DL.gLt, DL.gLe, DL.gGt, DL.gGe, DL.gAdd, DL.gSub, DL.gMul, DL.gMod, DL.gDiv, DL.gPow]
            refine lc2_fun ts _ sides (fun C h => h) (by rw [hsl, hwl]; exact Nat.le_trans (by omega : 2 * ts.length ≤ 62) (by decide)) (fun x hx l => ?_) ?_
            · obtain ⟨u, i, v, j, rfl⟩ := tch_of (List.all_eq_true.mp ha x hx)
              try dsimp only [wRet, wAnd, wOr, wUn, wOp, wCa, wCons, wNil, wVar, wC, wSeq, wNext, wPass, wAsg, wExp, wIf, wB, wIfE, wAndT, wOrT, wNotT, wTup, wLst, wSl, dSl, wNoP, wPart, wCall, wCallK, wCallO, wFrz, wGet1, wGet2, wPut, wNewT, wPar, wgName, wgTup, wgCons, wgNil, wgLst, wiT, wiL, wiR1, wiZip, wiEnu, wiEnuA, wChain, wYes, wBM, wBM0, slot, allD, wipeS, List.map_cons, List.map_nil, List.set_cons_zero, List.set_cons_succ, wUn, dNot, dII0, dII, dEqS, dNeS, dIsN, dNotN, dNeg, ends, DL.gLt, DL.gLe, DL.gGt, DL.gGe, DL.gAdd, DL.gSub, DL.gMul, DL.gMod, DL.gDiv, DL.gPow]
              refine ⟨rfl, rfl, fun j' y hy l' => ?_⟩
              try dsimp only [wRet, wAnd, wOr, wUn, wOp, wCa, wCons, wNil, wVar, wC, wSeq, wNext, wPass, wAsg, wExp, wIf, wB, wIfE, wAndT, wOrT, wNotT, wTup, wLst, wSl, dSl, wNoP, wPart, wCall, wCallK, wCallO, wFrz, wGet1, wGet2, wPut, wNewT, wPar, wgName, wgTup, wgCons, wgNil, wgLst, wiT, wiL, wiR1, wiZip, wiEnu, wiEnuA, wChain, wYes, wBM, wBM0, slot, allD, wipeS, List.map_cons, List.map_nil, List.set_cons_zero, List.set_cons_succ, wUn, dNot, dII0, dII, dEqS, dNeS, dIsN, dNotN, dNeg, ends, DL.gLt, DL.gLe, DL.gGt, DL.gGe, DL.gAdd, DL.gSub, DL.gMul, DL.gMod, DL.gDiv, DL.gPow]
              exact ⟨rfl, y, hy, rfl⟩
            · try dsimp only [wRet, wAnd, wOr, wUn, wOp, wCa, wCons, wNil, wVar, wC, wSeq, wNext, wPass, wAsg, wExp, wIf, wB, wIfE, wAndT, wOrT, wNotT, wTup, wLst, wSl, dSl, wNoP, wPart, wCall, wCallK, wCallO, wFrz, wGet1, wGet2, wPut, wNewT, wPar, wgName, wgTup, wgCons, wgNil, wgLst, wiT, wiL, wiR1, wiZip, wiEnu, wiEnuA, wChain, wYes, wBM, wBM0, slot, allD, wipeS, List.map_cons, List.map_nil, List.set_cons_zero, List.set_cons_succ, wUn, dNot, dII0, dII, dEqS, dNeS, dIsN, dNotN, dNeg, ends, DL.gLt, DL.gLe, DL.gGt, DL.gGe, DL.gAdd, DL.gSub, DL.gMul, DL.gMod, DL.gDiv, DL.gPow]
              refine call_pur [.tuple ts] (.bool (asc ts)) rfl ⟨ts, rfl, tch_nbr ha, by omega, rfl⟩ ?_
              cases hc : asc ts with
              | false =>
                rw [hc] at hR
                try dsimp only [wRet, wAnd, wOr, wUn, wOp, wCa, wCons, wNil, wVar, wC, wSeq, wNext, wPass, wAsg, wExp, wIf, wB, wIfE, wAndT, wOrT, wNotT, wTup, wLst, wSl, dSl, wNoP, wPart, wCall, wCallK, wCallO, wFrz, wGet1, wGet2, wPut, wNewT, wPar, wgName, wgTup, wgCons, wgNil, wgLst, wiT, wiL, wiR1, wiZip, wiEnu, wiEnuA, wChain, wYes, wBM, wBM0, slot, allD, wipeS, List.map_cons, List.map_nil, List.set_cons_zero, List.set_cons_succ, wUn, dNot, dII0, dII, dEqS, dNeS, dIsN, dNotN, dNeg, ends, DL.gLt, DL.gLe, DL.gGt, DL.gGe, DL.gAdd, DL.gSub, DL.gMul, DL.gMod, DL.gDiv, DL.gPow]
                exact hR _
              | true =>
                rw [hc, Bool.true_and] at hR
                have ed : dist (ts.flatMap sides) = decide (((dcn ws : Nat) : Int) = ((ws.length : Nat) : Int)) := by
                  unfold dist
                  rw [hws]
                  show decide (dcn ws = ws.length) = _
                  rw [decide_eq_decide]
                  omega
                rw [ed] at hR
                try dsimp only [wRet, wAnd, wOr, wUn, wOp, wCa, wCons, wNil, wVar, wC, wSeq, wNext, wPass, wAsg, wExp, wIf, wB, wIfE, wAndT, wOrT, wNotT, wTup, wLst, wSl, dSl, wNoP, wPart, wCall, wCallK, wCallO, wFrz, wGet1, wGet2, wPut, wNewT, wPar, wgName, wgTup, wgCons, wgNil, wgLst, wiT, wiL, wiR1, wiZip, wiEnu, wiEnuA, wChain, wYes, wBM, wBM0, slot, allD, wipeS, List.map_cons, List.map_nil, List.set_cons_zero, List.set_cons_succ, wUn, dNot, dII0, dII, dEqS, dNeS, dIsN, dNotN, dNeg, ends, DL.gLt, DL.gLe, DL.gGt, DL.gGe, DL.gAdd, DL.gSub, DL.gMul, DL.gMod, DL.gDiv, DL.gPow]
                refine ⟨_, ws, lst_last, hws, by omega, ?_⟩
                try dsimp only [wRet, wAnd, wOr, wUn, wOp, wCa, wCons, wNil, wVar, wC, wSeq, wNext, wPass, wAsg, wExp, wIf, wB, wIfE, wAndT, wOrT, wNotT, wTup, wLst, wSl, dSl, wNoP, wPart, wCall, wCallK, wCallO, wFrz, wGet1, wGet2, wPut, wNewT, wPar, wgName, wgTup, wgCons, wgNil, wgLst, wiT, wiL, wiR1, wiZip, wiEnu, wiEnuA, wChain, wYes, wBM, wBM0, slot, allD, wipeS, List.map_cons, List.map_nil, List.set_cons_zero, List.set_cons_succ, wUn, dNot, dII0, dII, dEqS, dNeS, dIsN, dNotN, dNeg, ends, DL.gLt, DL.gLe, DL.gGt, DL.gGe, DL.gAdd, DL.gSub, DL.gMul, DL.gMod, DL.gDiv, DL.gPow]
                refine ⟨(ts.flatMap sides).map .d, ?_, ?_⟩
                · show (match obK _ _ with | .lst xs => some xs | _ => none) = _
                  rw [obK_last]
                · try dsimp only [wRet, wAnd, wOr, wUn, wOp, wCa, wCons, wNil, wVar, wC, wSeq, wNext, wPass, wAsg, wExp, wIf, wB, wIfE, wAndT, wOrT, wNotT, wTup, wLst, wSl, dSl, wNoP, wPart, wCall, wCallK, wCallO, wFrz, wGet1, wGet2, wPut, wNewT, wPar, wgName, wgTup, wgCons, wgNil, wgLst, wiT, wiL, wiR1, wiZip, wiEnu, wiEnuA, wChain, wYes, wBM, wBM0, slot, allD, wipeS, List.map_cons, List.map_nil, List.set_cons_zero, List.set_cons_succ, wUn, dNot, dII0, dII, dEqS, dNeS, dIsN, dNotN, dNeg, ends, DL.gLt, DL.gLe, DL.gGt, DL.gGe, DL.gAdd, DL.gSub, DL.gMul, DL.gMod, DL.gDiv, DL.gPow]
                  rw [List.length_map, hsl]
                  exact hR _
end K02
end

section
set_option Elab.async false
set_option linter.all false
set_option maxRecDepth 100000
set_option maxHeartbeats 1000000
set_option autoImplicit false
namespace K02
open PySem PySem.Spec PyProof.Rows L2 DL
/-! ### right floors -/
abbrev Tc := Int × Int × Int × Int
def plD (u i : Int) : PyData := .tuple [.int u, .int i]
def tD (t : Tc) : PyData := .tuple [plD t.1 t.2.1, plD t.2.2.1 t.2.2.2]
def flD (ns : List Int) (tl : List Tc) : PyData := .tuple [.tuple (ns.map .int), .tuple (tl.map tD)]
structure FlOk (ns : List Int) (tl : List Tc) : Prop where
  fl : isFl (flD ns tl) = true
  fw31 : tl.length ≤ 31
theorem FlOk.fw {ns : List Int} {tl : List Tc} (h : FlOk ns tl) : few (flD ns tl) := fun r ts e => by
  injection e with e
  injection e with _ e
  injection e with e _
  injection e with e
  rw [← e, List.length_map]
  exact h.fw31
def sp_need_floor : DSp := pur 1 fun ds y => ∃ ns tl, ds = [flD ns tl] ∧ FlOk ns tl ∧ y = .none
theorem ok_need_floor {P : Program} {w0 : World} {K : PySem.W.Frag} {mg : Str → Option Value} {base : Heap} (h : Hd K mg "need_floor" s_need_floor nP_need_floor) (c_is_floor : DefG P w0 K mg base 5 "is_floor" s_is_floor nP_is_floor sp_is_floor) : DefG P w0 K mg base 6 "need_floor" s_need_floor nP_need_floor sp_need_floor := by
  refine mk_def h sc_need_floor pur_len (pdss_one (pds_if (pdt_not (pdt_val (pd_call 0 (c_is_floor.to) rfl (pda_cons (pd_var 0) pda_nil)))) (pdss_one pds_never) pdss_nil)) ?_
  rintro dvs ob R X ⟨ds, y, rfl, hl, ⟨ns, tl, rfl, hf, rfl⟩, hR⟩ sl e1
  have e1 : [some (.d (flD ns tl))] = sl := e1
  subst e1
  try dsimp only [wRet, wAnd, wOr, wUn, wOp, wCa, wCons, wNil, wVar, wC, wSeq, wNext, wPass, wAsg, wExp, wIf, wB, wIfE, wAndT, wOrT, wNotT, wTup, wLst, wSl, dSl, wNoP, wPart, wCall, wCallK, wCallO, wFrz, wGet1, wGet2, wPut, wNewT, wPar, wgName, wgTup, wgCons, wgNil, wgLst, wiT, wiL, wiR1, wiZip, wiEnu, wiEnuA, wChain, wYes, wBM, wBM0, slot, allD, wipeS, List.map_cons, List.map_nil, List.set_cons_zero, List.set_cons_succ, wUn, dNot, dII0, dII, dEqS, dNeS, dIsN, dNotN, dNeg, ends, DL.gLt, DL.gLe, DL.gGt, DL.gGe, DL.gAdd, DL.gSub, DL.gMul, DL.gMod, DL.gDiv, DL.gPow]
  refine call_pur [flD ns tl] (.bool (isFl (flD ns tl))) rfl ⟨_, rfl, hf.fw, rfl⟩ ?_
  rw [hf.fl]
  try dsimp only [wRet, wAnd, wOr, wUn, wOp, wCa, wCons, wNil, wVar, wC, wSeq, wNext, wPass, wAsg, wExp, wIf, wB, wIfE, wAndT, wOrT, wNotT, wTup, wLst, wSl, dSl, wNoP, wPart, wCall, wCallK, wCallO, wFrz, wGet1, wGet2, wPut, wNewT, wPar, wgName, wgTup, wgCons, wgNil, wgLst, wiT, wiL, wiR1, wiZip, wiEnu, wiEnuA, wChain, wYes, wBM, wBM0, slot, allD, wipeS, List.map_cons, List.map_nil, List.set_cons_zero, List.set_cons_succ, wUn, dNot, dII0, dII, dEqS, dNeS, dIsN, dNotN, dNeg, ends, DL.gLt, DL.gLe, DL.gGt, DL.gGe, DL.gAdd, DL.gSub, DL.gMul, DL.gMod, DL.gDiv, DL.gPow]
  exact hR ob
def sp_is_place : DSp := pur 2 fun ds y => ∃ ns tl p, ds = [flD ns tl, p] ∧ FlOk ns tl ∧ y = .bool (isPl ns p)
theorem ok_is_place {P : Program} {w0 : World} {K : PySem.W.Frag} {mg : Str → Option Value} {base : Heap} (h : Hd K mg "is_place" s_is_place nP_is_place) (c_is_place_on : DefG P w0 K mg base 3 "is_place_on" s_is_place_on nP_is_place_on sp_is_place_on) (c_need_floor : DefG P w0 K mg base 6 "need_floor" s_need_floor nP_need_floor sp_need_floor) : DefG P w0 K mg base 7 "is_place" s_is_place nP_is_place sp_is_place := by
  refine mk_def h sc_is_place pur_len (pdss_cons (pds_expr (pd_call 0 (c_need_floor.to) rfl (pda_cons (pd_var 0) pda_nil)))
  (pdss_one (pds_ret (pd_call 0 (c_is_place_on.to) rfl (pda_cons (pd_ix (pd_var 0) pd_int) (pda_cons (pd_var 1) pda_nil)))))) ?_
  rintro dvs ob R X ⟨ds, y, rfl, hl, ⟨ns, tl, p, rfl, hf, rfl⟩, hR⟩ sl e1
  have e1 : [some (.d (flD ns tl)), some (.d p)] = sl := e1
  subst e1
  try dsimp only [wRet, wAnd, wOr, wUn, wOp, wCa, wCons, wNil, wVar, wC, wSeq, wNext, wPass, wAsg, wExp, wIf, wB, wIfE, wAndT, wOrT, wNotT, wTup, wLst, wSl, dSl, wNoP, wPart, wCall, wCallK, wCallO, wFrz, wGet1, wGet2, wPut, wNewT, wPar, wgName, wgTup, wgCons, wgNil, wgLst, wiT, wiL, wiR1, wiZip, wiEnu, wiEnuA, wChain, wYes, wBM, wBM0, slot, allD, wipeS, List.map_cons, List.map_nil, List.set_cons_zero, List.set_cons_succ, wUn, dNot, dII0, dII, dEqS, dNeS, dIsN, dNotN, dNeg, ends, DL.gLt, DL.gLe, DL.gGt, DL.gGe, DL.gAdd, DL.gSub, DL.gMul, DL.gMod, DL.gDiv, DL.gPow]
  refine call_pur [flD ns tl] .none rfl ⟨ns, tl, rfl, hf, rfl⟩ ?_
  try dsimp only [wRet, wAnd, wOr, wUn, wOp, wCa, wCons, wNil, wVar, wC, wSeq, wNext, wPass, wAsg, wExp, wIf, wB, wIfE, wAndT, wOrT, wNotT, wTup, wLst, wSl, dSl, wNoP, wPart, wCall, wCallK, wCallO, wFrz, wGet1, wGet2, wPut, wNewT, wPar, wgName, wgTup, wgCons, wgNil, wgLst, wiT, wiL, wiR1, wiZip, wiEnu, wiEnuA, wChain, wYes, wBM, wBM0, slot, allD, wipeS, List.map_cons, List.map_nil, List.set_cons_zero, List.set_cons_succ, wUn, dNot, dII0, dII, dEqS, dNeS, dIsN, dNotN, dNeg, ends, DL.gLt, DL.gLe, DL.gGt, DL.gGe, DL.gAdd, DL.gSub, DL.gMul, DL.gMod, DL.gDiv, DL.gPow]
  refine u_ix (z := .tuple (ns.map .int)) rfl ?_
  try dsimp only [wRet, wAnd, wOr, wUn, wOp, wCa, wCons, wNil, wVar, wC, wSeq, wNext, wPass, wAsg, wExp, wIf, wB, wIfE, wAndT, wOrT, wNotT, wTup, wLst, wSl, dSl, wNoP, wPart, wCall, wCallK, wCallO, wFrz, wGet1, wGet2, wPut, wNewT, wPar, wgName, wgTup, wgCons, wgNil, wgLst, wiT, wiL, wiR1, wiZip, wiEnu, wiEnuA, wChain, wYes, wBM, wBM0, slot, allD, wipeS, List.map_cons, List.map_nil, List.set_cons_zero, List.set_cons_succ, wUn, dNot, dII0, dII, dEqS, dNeS, dIsN, dNotN, dNeg, ends, DL.gLt, DL.gLe, DL.gGt, DL.gGe, DL.gAdd, DL.gSub, DL.gMul, DL.gMod, DL.gDiv, DL.gPow]
  exact call_pur [.tuple (ns.map .int), p] (.bool (isPl ns p)) rfl ⟨ns, p, rfl, rfl⟩ (hR ob)
def sp_need_place : DSp := pur 2 fun ds y => ∃ ns tl p, ds = [flD ns tl, p] ∧ FlOk ns tl ∧ isPl ns p = true ∧ y = .none
theorem ok_need_place {P : Program} {w0 : World} {K : PySem.W.Frag} {mg : Str → Option Value} {base : Heap} (h : Hd K mg "need_place" s_need_place nP_need_place) (c_is_place : DefG P w0 K mg base 7 "is_place" s_is_place nP_is_place sp_is_place) : DefG P w0 K mg base 8 "need_place" s_need_place nP_need_place sp_need_place := by
  refine mk_def h sc_need_place pur_len (pdss_one (pds_if (pdt_not (pdt_val (pd_call 0 (c_is_place.to) rfl (pda_cons (pd_var 0) (pda_cons (pd_var 1) pda_nil))))) (pdss_one pds_never) pdss_nil)) ?_
  rintro dvs ob R X ⟨ds, y, rfl, hl, ⟨ns, tl, p, rfl, hf, hp, rfl⟩, hR⟩ sl e1
  have e1 : [some (.d (flD ns tl)), some (.d p)] = sl := e1
  subst e1
  try dsimp only [wRet, wAnd, wOr, wUn, wOp, wCa, wCons, wNil, wVar, wC, wSeq, wNext, wPass, wAsg, wExp, wIf, wB, wIfE, wAndT, wOrT, wNotT, wTup, wLst, wSl, dSl, wNoP, wPart, wCall, wCallK, wCallO, wFrz, wGet1, wGet2, wPut, wNewT, wPar, wgName, wgTup, wgCons, wgNil, wgLst, wiT, wiL, wiR1, wiZip, wiEnu, wiEnuA, wChain, wYes, wBM, wBM0, slot, allD, wipeS, List.map_cons, List.map_nil, List.set_cons_zero, List.set_cons_succ, wUn, dNot, dII0, dII, dEqS, dNeS, dIsN, dNotN, dNeg, ends, DL.gLt, DL.gLe, DL.gGt, DL.gGe, DL.gAdd, DL.gSub, DL.gMul, DL.gMod, DL.gDiv, DL.gPow]
  refine call_pur [flD ns tl, p] (.bool (isPl ns p)) rfl ⟨ns, tl, p, rfl, hf, rfl⟩ ?_
  rw [hp]
  try dsimp only [wRet, wAnd, wOr, wUn, wOp, wCa, wCons, wNil, wVar, wC, wSeq, wNext, wPass, wAsg, wExp, wIf, wB, wIfE, wAndT, wOrT, wNotT, wTup, wLst, wSl, dSl, wNoP, wPart, wCall, wCallK, wCallO, wFrz, wGet1, wGet2, wPut, wNewT, wPar, wgName, wgTup, wgCons, wgNil, wgLst, wiT, wiL, wiR1, wiZip, wiEnu, wiEnuA, wChain, wYes, wBM, wBM0, slot, allD, wipeS, List.map_cons, List.map_nil, List.set_cons_zero, List.set_cons_succ, wUn, dNot, dII0, dII, dEqS, dNeS, dIsN, dNotN, dNeg, ends, DL.gLt, DL.gLe, DL.gGt, DL.gGe, DL.gAdd, DL.gSub, DL.gMul, DL.gMod, DL.gDiv, DL.gPow]
  exact hR ob
/-! ### partners -/
abbrev Tab := List (List Key × PyData)
def plK (u i : Int) : List Key := [.inl u, .inl i]
def mapV (l : Tab) : List (List Key × DV) := l.map fun p => (p.1, .d p.2)
theorem putD_map (l : Tab) (k : List Key) (v : PyData) : putD (mapV l) k (.d v) = mapV (putD l k v) := by
  unfold putD mapV
  rw [List.any_map]
  have e : ((fun p : List Key × DV => decide (p.1 = k)) ∘ fun p : List Key × PyData => (p.1, DV.d p.2)) = fun p => decide (p.1 = k) := rfl
  rw [e]
  by_cases h : (l.any fun p => decide (p.1 = k)) = true
  · rw [if_pos h, if_pos h, List.map_map, List.map_map]
    refine List.map_congr_left fun p _ => ?_
    by_cases hp : p.1 = k
    · simp [hp]
    · simp [hp]
  · rw [if_neg h, if_neg h, List.map_append]
    rfl
theorem putD_len {κ α : Type} [DecidableEq κ] (l : List (κ × α)) (k : κ) (v : α) : (putD l k v).length ≤ l.length + 1 := by
  unfold putD
  by_cases h : (l.any fun p => decide (p.1 = k)) = true
  · rw [if_pos h, List.length_map]
    omega
  · rw [if_neg h, List.length_append]
    simp
def par1 (l : Tab) (t : Tc) : Tab := putD (putD l (plK t.1 t.2.1) (plD t.2.2.1 t.2.2.2)) (plK t.2.2.1 t.2.2.2) (plD t.1 t.2.1)
def parP (tl : List Tc) : Tab := tl.foldl par1 []
theorem parP_len (tl : List Tc) : (parP tl).length ≤ 2 * tl.length := by
  have : ∀ (tl : List Tc) (l : Tab), (tl.foldl par1 l).length ≤ l.length + 2 * tl.length := by
    intro tl
    induction tl with
    | nil => intro l; simp
    | cons t r ih =>
      intro l
      have h1 := ih (par1 l t)
      have h2 := putD_len (putD l (plK t.1 t.2.1) (plD t.2.2.1 t.2.2.2)) (plK t.2.2.1 t.2.2.2) (plD t.1 t.2.1)
      have h3 := putD_len l (plK t.1 t.2.1) (plD t.2.2.1 t.2.2.2)
      rw [List.foldl_cons, List.length_cons]
      unfold par1 at h1 ⊢
      omega
  have h := this tl []
  rw [List.length_nil] at h
  unfold parP
  omega
theorem parP_take {tl : List Tc} {i : Nat} {t : Tc} (h : tl[i]? = some t) : parP (tl.take (i + 1)) = par1 (parP (tl.take i)) t := by
  unfold parP
  rw [List.take_succ, h, List.foldl_append]
  rfl
def dtD (l : Tab) : PyData := .dict ((.none, .none) :: (l.map fun p => .tuple (p.1.map kP)).zip (l.map (·.2)))
theorem mapV_snd (l : Tab) : (mapV l).map (·.2) = (l.map (·.2)).map .d := by
  unfold mapV
  rw [List.map_map, List.map_map]
  rfl
theorem mapV_fst (l : Tab) : ((mapV l).map fun p => PyData.tuple (p.1.map kP)) = l.map fun p => .tuple (p.1.map kP) := by
  unfold mapV
  rw [List.map_map]
  rfl
theorem frz_last {sl : List (Option DV)} {ob : List OB} {l : Tab} : ∃ ρ2, frz ⟨sl, ob ++ [.dt (mapV l)]⟩ ob.length = some (dtD l, ρ2) := by
  unfold frz
  rw [obK_last]
  show ∃ ρ2, (allD ((mapV l).map (·.2))).map _ = _
  rw [mapV_snd, allD_map, mapV_fst]
  exact ⟨_, rfl⟩
theorem set_last {α : Type} (l : List α) (x y : α) : (l ++ [x]).set l.length y = l ++ [y] := by
  rw [List.set_append_right _ _ (Nat.le_refl _), Nat.sub_self]
  rfl
/-- d[place] = place on the dict made last -/
theorem put_last {sl : List (Option DV)} {ob : List OB} {l : Tab} {u i : Int} {v : PyData} : putR ⟨sl, ob ++ [.dt (mapV l)]⟩ (.o ob.length) (.d (plD u i)) (.d v) = some ⟨sl, ob ++ [.dt (mapV (putD l (plK u i) v))]⟩ := by
  show (match obK ⟨sl, ob ++ [.dt (mapV l)]⟩ ob.length with
    | .dk kvs => (toK (plD u i)).map fun kk => (⟨sl, (ob ++ [OB.dt (mapV l)]).set ob.length (.dk (putD kvs kk (.d v)))⟩ : S)
    | .dt kvs => (tkey (plD u i)).map fun kl => ⟨sl, (ob ++ [OB.dt (mapV l)]).set ob.length (.dt (putD kvs kl (.d v)))⟩
    | _ => none) = _
  rw [obK_last]
  show some (⟨sl, (ob ++ [OB.dt (mapV l)]).set ob.length (.dt (putD (mapV l) (plK u i) (.d v)))⟩ : S) = _
  rw [set_last, putD_map]
theorem few_last {sl : List (Option DV)} {ob : List OB} {l : Tab} (h : l.length ≤ 1000) : fewD ⟨sl, ob ++ [.dt (mapV l)]⟩ (.o ob.length) = true := by
  show (match obK ⟨sl, ob ++ [.dt (mapV l)]⟩ ob.length with | .dk kvs => decide (kvs.length < sizeLine) | .dt kvs => decide (kvs.length < sizeLine) | _ => false) = true
  rw [obK_last]
  refine decide_eq_true ?_
  unfold mapV
  rw [List.length_map]
  exact small1000 h
def sp_partners : DSp := pur 1 fun ds y => ∃ ns tl, ds = [flD ns tl] ∧ tl.length ≤ 31 ∧ y = dtD (parP tl)
theorem ok_partners {P : Program} {w0 : World} {K : PySem.W.Frag} {mg : Str → Option Value} {base : Heap} (h : Hd K mg "partners" s_partners nP_partners) : DefG P w0 K mg base 1 "partners" s_partners nP_partners sp_partners := by
  refine mk_def h sc_partners pur_len (pdss_cons (pds_set 1 pd_newT)
  (pdss_cons (pds_for (pdi_tup (pd_ix (pd_var 0) pd_int)) (pdg_tup (n := 2) (pdgs_cons (pdg_name 2) (pdgs_cons (pdg_name 3) pdgs_nil))) (pdss_cons (pds_put (pd_var 1) (pd_var 2) (pd_var 3))
  (pdss_one (pds_put (pd_var 1) (pd_var 3) (pd_var 2)))))
  (pdss_one (pds_ret (pd_frz (pd_var 1)))))) ?_
  rintro dvs ob R X ⟨ds, y, rfl, hl, ⟨ns, tl, rfl, hf, rfl⟩, hR⟩ sl e1
  have e1 : [some (.d (flD ns tl)), none, none, none] = sl := e1
  subst e1
  try dsimp only [wRet, wAnd, wOr, wUn, wOp, wCa, wCons, wNil, wVar, wC, wSeq, wNext, wPass, wAsg, wExp, wIf, wB, wIfE, wAndT, wOrT, wNotT, wTup, wLst, wSl, dSl, wNoP, wPart, wCall, wCallK, wCallO, wFrz, wGet1, wGet2, wPut, wNewT, wPar, wgName, wgTup, wgCons, wgNil, wgLst, wiT, wiL, wiR1, wiZip, wiEnu, wiEnuA, wChain, wYes, wBM, wBM0, slot, allD, wipeS, List.map_cons, List.map_nil, List.set_cons_zero, List.set_cons_succ, wUn, dNot, dII0, dII, dEqS, dNeS, dIsN, dNotN, dNeg, ends, DL.gLt, DL.gLe, DL.gGt, DL.gGe, DL.gAdd, DL.gSub, DL.gMul, DL.gMod, DL.gDiv, DL.gPow]
  refine for_in (tl.map tD) ⟨[some (.d (flD ns tl)), some (.o ob.length), none, none], ob ++ [.dt (mapV (parP (tl.take 0)))]⟩ (fun i ρ' => ∃ a b, ρ' = ⟨[some (.d (flD ns tl)), some (.o ob.length), a, b], ob ++ [.dt (mapV (parP (tl.take i)))]⟩) (fun C h => ?_) ⟨_, _, rfl⟩ ?_ ?_
  · try dsimp only [wRet, wAnd, wOr, wUn, wOp, wCa, wCons, wNil, wVar, wC, wSeq, wNext, wPass, wAsg, wExp, wIf, wB, wIfE, wAndT, wOrT, wNotT, wTup, wLst, wSl, dSl, wNoP, wPart, wCall, wCallK, wCallO, wFrz, wGet1, wGet2, wPut, wNewT, wPar, wgName, wgTup, wgCons, wgNil, wgLst, wiT, wiL, wiR1, wiZip, wiEnu, wiEnuA, wChain, wYes, wBM, wBM0, slot, allD, wipeS, List.map_cons, List.map_nil, List.set_cons_zero, List.set_cons_succ, wUn, dNot, dII0, dII, dEqS, dNeS, dIsN, dNotN, dNeg, ends, DL.gLt, DL.gLe, DL.gGt, DL.gGe, DL.gAdd, DL.gSub, DL.gMul, DL.gMod, DL.gDiv, DL.gPow]
    exact u_ix (z := .tuple (tl.map tD)) rfl h
  · rintro i x ρ' hx ⟨a, b, rfl⟩
    rw [List.getElem?_map] at hx
    cases ht : tl[i]? with
    | none => rw [ht] at hx; cases hx
    | some t =>
      rw [ht] at hx
      obtain rfl := Option.some.inj hx
      have hl1 : (parP (tl.take i)).length ≤ 62 := Nat.le_trans (parP_len _) (by rw [List.length_take]; omega)
      have hl2 := putD_len (parP (tl.take i)) (plK t.1 t.2.1) (plD t.2.2.1 t.2.2.2)
      unfold tD
      try dsimp only [wRet, wAnd, wOr, wUn, wOp, wCa, wCons, wNil, wVar, wC, wSeq, wNext, wPass, wAsg, wExp, wIf, wB, wIfE, wAndT, wOrT, wNotT, wTup, wLst, wSl, dSl, wNoP, wPart, wCall, wCallK, wCallO, wFrz, wGet1, wGet2, wPut, wNewT, wPar, wgName, wgTup, wgCons, wgNil, wgLst, wiT, wiL, wiR1, wiZip, wiEnu, wiEnuA, wChain, wYes, wBM, wBM0, slot, allD, wipeS, List.map_cons, List.map_nil, List.set_cons_zero, List.set_cons_succ, wUn, dNot, dII0, dII, dEqS, dNeS, dIsN, dNotN, dNeg, ends, DL.gLt, DL.gLe, DL.gGt, DL.gGe, DL.gAdd, DL.gSub, DL.gMul, DL.gMod, DL.gDiv, DL.gPow]
      refine ⟨rfl, ?_⟩
      refine ⟨few_last (by omega), ?_⟩
      rw [put_last]
      try dsimp only [wRet, wAnd, wOr, wUn, wOp, wCa, wCons, wNil, wVar, wC, wSeq, wNext, wPass, wAsg, wExp, wIf, wB, wIfE, wAndT, wOrT, wNotT, wTup, wLst, wSl, dSl, wNoP, wPart, wCall, wCallK, wCallO, wFrz, wGet1, wGet2, wPut, wNewT, wPar, wgName, wgTup, wgCons, wgNil, wgLst, wiT, wiL, wiR1, wiZip, wiEnu, wiEnuA, wChain, wYes, wBM, wBM0, slot, allD, wipeS, List.map_cons, List.map_nil, List.set_cons_zero, List.set_cons_succ, wUn, dNot, dII0, dII, dEqS, dNeS, dIsN, dNotN, dNeg, ends, DL.gLt, DL.gLe, DL.gGt, DL.gGe, DL.gAdd, DL.gSub, DL.gMul, DL.gMod, DL.gDiv, DL.gPow]
      refine ⟨few_last (by omega), ?_⟩
      rw [put_last]
      try dsimp only [wRet, wAnd, wOr, wUn, wOp, wCa, wCons, wNil, wVar, wC, wSeq, wNext, wPass, wAsg, wExp, wIf, wB, wIfE, wAndT, wOrT, wNotT, wTup, wLst, wSl, dSl, wNoP, wPart, wCall, wCallK, wCallO, wFrz, wGet1, wGet2, wPut, wNewT, wPar, wgName, wgTup, wgCons, wgNil, wgLst, wiT, wiL, wiR1, wiZip, wiEnu, wiEnuA, wChain, wYes, wBM, wBM0, slot, allD, wipeS, List.map_cons, List.map_nil, List.set_cons_zero, List.set_cons_succ, wUn, dNot, dII0, dII, dEqS, dNeS, dIsN, dNotN, dNeg, ends, DL.gLt, DL.gLe, DL.gGt, DL.gGe, DL.gAdd, DL.gSub, DL.gMul, DL.gMod, DL.gDiv, DL.gPow]
      exact ⟨_, _, by rw [parP_take ht]; rfl⟩
  · rintro ρ' ⟨a, b, rfl⟩
    rw [List.length_map, List.take_length]
    try dsimp only [wRet, wAnd, wOr, wUn, wOp, wCa, wCons, wNil, wVar, wC, wSeq, wNext, wPass, wAsg, wExp, wIf, wB, wIfE, wAndT, wOrT, wNotT, wTup, wLst, wSl, dSl, wNoP, wPart, wCall, wCallK, wCallO, wFrz, wGet1, wGet2, wPut, wNewT, wPar, wgName, wgTup, wgCons, wgNil, wgLst, wiT, wiL, wiR1, wiZip, wiEnu, wiEnuA, wChain, wYes, wBM, wBM0, slot, allD, wipeS, List.map_cons, List.map_nil, List.set_cons_zero, List.set_cons_succ, wUn, dNot, dII0, dII, dEqS, dNeS, dIsN, dNotN, dNeg, ends, DL.gLt, DL.gLe, DL.gGt, DL.gGe, DL.gAdd, DL.gSub, DL.gMul, DL.gMod, DL.gDiv, DL.gPow]
    obtain ⟨ρ2, e⟩ := frz_last (sl := [some (.d (flD ns tl)), some (.o ob.length), a, b]) (ob := ob) (l := parP tl)
    rw [e]
    exact hR _
end K02
end

section
set_option Elab.async false
set_option linter.all false
set_option maxRecDepth 100000
set_option maxHeartbeats 1000000
set_option autoImplicit false
namespace K02
open PySem PySem.Spec PyProof.Rows L2 DL
/-! ### the places of rings -/
theorem sz2 : 2 ≤ sizeLine := by decide
def spF : PyData → List PyData
  | .tuple [.int u, .int l] => (rng 0 l.toNat).map fun i => .tuple [.int u, i]
  | _ => []
def enuN (ns : List Int) : List PyData := zipP (rng 0 (ns.map PyData.int).length) (ns.map .int)
def spots (ns : List Int) : List PyData := (enuN ns).flatMap spF
theorem enu_mem {ns : List Int} {x : PyData} (h : x ∈ enuN ns) : ∃ (u : Nat) (l : Int), x = .tuple [.int u, .int l] ∧ ns[u]? = some l := by
  obtain ⟨j, hj⟩ := List.getElem?_of_mem h
  obtain ⟨a, b, h1, h2, rfl⟩ := DL.zip_get hj
  obtain ⟨_, rfl⟩ := rng_get h1
  rw [List.getElem?_map] at h2
  cases e : ns[j]? with
  | none => rw [e] at h2; cases h2
  | some l =>
    rw [e] at h2
    obtain rfl := Option.some.inj h2
    exact ⟨j, l, by rw [Int.zero_add], e⟩
def Small (ns : List Int) : Prop := (∀ l ∈ ns, l ≤ 1000) ∧ (spots ns).length ≤ 1000 ∧ ∀ l ∈ ns, 1 ≤ l
theorem Small.rg {ns : List Int} (h : Small ns) {u : Nat} {l : Int} (e : ns[u]? = some l) : RgB l := by
  have h1 := h.1 l (List.mem_of_getElem? e)
  have h2 := h.2.2 l (List.mem_of_getElem? e)
  unfold RgB
  omega
def sp_places : DSp := pur 1 fun ds y => ∃ ns tl, ds = [flD ns tl] ∧ FlOk ns tl ∧ Small ns ∧ y = .tuple (spots ns)
theorem ok_places {P : Program} {w0 : World} {K : PySem.W.Frag} {mg : Str → Option Value} {base : Heap} (b : BI mg) (h : Hd K mg "places" s_places nP_places) (c_need_floor : DefG P w0 K mg base 6 "need_floor" s_need_floor nP_need_floor sp_need_floor) : DefG P w0 K mg base 7 "places" s_places nP_places sp_places := by
  refine mk_def h sc_places pur_len (pdss_cons (pds_expr (pd_call 0 (c_need_floor.to) rfl (pda_cons (pd_var 0) pda_nil)))
  (pdss_one (pds_ret (pd_tuple rfl b.tuple_ (pda_cons (pd_lc2 (own := [("u", 1), ("length", 2), ("i", 3)]) [3] (pdi_enum (pda_cons (pd_ix (pd_var 0) pd_int) pda_nil) rfl b.enumerate) (blkOk_by (own := [("u", 1), ("length", 2), ("i", 3)]) (N := nN_places) (sc := defScope s_places) (by decide +kernel)) (pdg_tup (n := 2) (pdgs_cons (pdg_name 1) (pdgs_cons (pdg_name 2) pdgs_nil))) (pdi_range1 (pda_cons (pd_var 2) pda_nil) rfl b.range) (pdg_name 3) (pd_tup (pda_cons (pd_var 1) (pda_cons (pd_var 3) pda_nil)))) pda_nil))))) ?_
  rintro dvs ob R X ⟨ds, y, rfl, hl, ⟨ns, tl, rfl, hf, hs, rfl⟩, hR⟩ sl e1
  have e1 : [some (.d (flD ns tl)), none, none, none] = sl := e1
  subst e1
  try dsimp only [wRet, wAnd, wOr, wUn, wOp, wCa, wCons, wNil, wVar, wC, wSeq, wNext, wPass, wAsg, wExp, wIf, wB, wIfE, wAndT, wOrT, wNotT, wTup, wLst, wSl, dSl, wNoP, wPart, wCall, wCallK, wCallO, wFrz, wGet1, wGet2, wPut, wNewT, wPar, wgName, wgTup, wgCons, wgNil, wgLst, wiT, wiL, wiR1, wiZip, wiEnu, wiEnuA, wChain, wYes, wBM, wBM0, slot, allD, wipeS, List.map_cons, List.map_nil, List.set_cons_zero, List.set_cons_succ, wUn, dNot, dII0, dII, dEqS, dNeS, dIsN, dNotN, dNeg, ends, DL.gLt, DL.gLe, DL.gGt, DL.gGe, DL.gAdd, DL.gSub, DL.gMul, DL.gMod, DL.gDiv, DL.gPow]
  refine call_pur [flD ns tl] .none rfl ⟨ns, tl, rfl, hf, rfl⟩ ?_
  try dsimp only [wRet, wAnd, wOr, wUn, wOp, wCa, wCons, wNil, wVar, wC, wSeq, wNext, wPass, wAsg, wExp, wIf, wB, wIfE, wAndT, wOrT, wNotT, wTup, wLst, wSl, dSl, wNoP, wPart, wCall, wCallK, wCallO, wFrz, wGet1, wGet2, wPut, wNewT, wPar, wgName, wgTup, wgCons, wgNil, wgLst, wiT, wiL, wiR1, wiZip, wiEnu, wiEnuA, wChain, wYes, wBM, wBM0, slot, allD, wipeS, List.map_cons, List.map_nil, List.set_cons_zero, List.set_cons_succ, wUn, dNot, dII0, dII, dEqS, dNeS, dIsN, dNotN, dNeg, ends, DL.gLt, DL.gLe, DL.gGt, DL.gGe, DL.gAdd, DL.gSub, DL.gMul, DL.gMod, DL.gDiv, DL.gPow]
  refine lc2_fun (enuN ns) ⟨[some (.d (flD ns tl)), none, none, none], ob⟩ spF (fun C h => ?_) (Nat.le_trans hs.2.1 (by decide)) (fun x hx l => ?_) ?_
  · try dsimp only [wRet, wAnd, wOr, wUn, wOp, wCa, wCons, wNil, wVar, wC, wSeq, wNext, wPass, wAsg, wExp, wIf, wB, wIfE, wAndT, wOrT, wNotT, wTup, wLst, wSl, dSl, wNoP, wPart, wCall, wCallK, wCallO, wFrz, wGet1, wGet2, wPut, wNewT, wPar, wgName, wgTup, wgCons, wgNil, wgLst, wiT, wiL, wiR1, wiZip, wiEnu, wiEnuA, wChain, wYes, wBM, wBM0, slot, allD, wipeS, List.map_cons, List.map_nil, List.set_cons_zero, List.set_cons_succ, wUn, dNot, dII0, dII, dEqS, dNeS, dIsN, dNotN, dNeg, ends, DL.gLt, DL.gLe, DL.gGt, DL.gGe, DL.gAdd, DL.gSub, DL.gMul, DL.gMod, DL.gDiv, DL.gPow]
    exact u_ix (z := .tuple (ns.map .int)) rfl h
  · obtain ⟨u, len, rfl, e⟩ := enu_mem hx
    try dsimp only [wRet, wAnd, wOr, wUn, wOp, wCa, wCons, wNil, wVar, wC, wSeq, wNext, wPass, wAsg, wExp, wIf, wB, wIfE, wAndT, wOrT, wNotT, wTup, wLst, wSl, dSl, wNoP, wPart, wCall, wCallK, wCallO, wFrz, wGet1, wGet2, wPut, wNewT, wPar, wgName, wgTup, wgCons, wgNil, wgLst, wiT, wiL, wiR1, wiZip, wiEnu, wiEnuA, wChain, wYes, wBM, wBM0, slot, allD, wipeS, List.map_cons, List.map_nil, List.set_cons_zero, List.set_cons_succ, wUn, dNot, dII0, dII, dEqS, dNeS, dIsN, dNotN, dNeg, ends, DL.gLt, DL.gLe, DL.gGt, DL.gGe, DL.gAdd, DL.gSub, DL.gMul, DL.gMod, DL.gDiv, DL.gPow]
    refine ⟨rfl, hs.rg e, rfl, ?_, fun j y hy l' => ?_⟩
    · show (rng 0 len.toNat).length = ((rng 0 len.toNat).map _).length
      rw [List.length_map]
    · obtain ⟨hj, rfl⟩ := rng_get hy
      try dsimp only [wRet, wAnd, wOr, wUn, wOp, wCa, wCons, wNil, wVar, wC, wSeq, wNext, wPass, wAsg, wExp, wIf, wB, wIfE, wAndT, wOrT, wNotT, wTup, wLst, wSl, dSl, wNoP, wPart, wCall, wCallK, wCallO, wFrz, wGet1, wGet2, wPut, wNewT, wPar, wgName, wgTup, wgCons, wgNil, wgLst, wiT, wiL, wiR1, wiZip, wiEnu, wiEnuA, wChain, wYes, wBM, wBM0, slot, allD, wipeS, List.map_cons, List.map_nil, List.set_cons_zero, List.set_cons_succ, wUn, dNot, dII0, dII, dEqS, dNeS, dIsN, dNotN, dNeg, ends, DL.gLt, DL.gLe, DL.gGt, DL.gGe, DL.gAdd, DL.gSub, DL.gMul, DL.gMod, DL.gDiv, DL.gPow]
      refine ⟨sz2, rfl, _, ?_, rfl⟩
      show ((rng 0 len.toNat).map fun i => PyData.tuple [.int u, i])[j]? = _
      rw [List.getElem?_map, hy]
      rfl
  · try dsimp only [wRet, wAnd, wOr, wUn, wOp, wCa, wCons, wNil, wVar, wC, wSeq, wNext, wPass, wAsg, wExp, wIf, wB, wIfE, wAndT, wOrT, wNotT, wTup, wLst, wSl, dSl, wNoP, wPart, wCall, wCallK, wCallO, wFrz, wGet1, wGet2, wPut, wNewT, wPar, wgName, wgTup, wgCons, wgNil, wgLst, wiT, wiL, wiR1, wiZip, wiEnu, wiEnuA, wChain, wYes, wBM, wBM0, slot, allD, wipeS, List.map_cons, List.map_nil, List.set_cons_zero, List.set_cons_succ, wUn, dNot, dII0, dII, dEqS, dNeS, dIsN, dNotN, dNeg, ends, DL.gLt, DL.gLe, DL.gGt, DL.gGe, DL.gAdd, DL.gSub, DL.gMul, DL.gMod, DL.gDiv, DL.gPow]
    exact ⟨_, lst_last, hR _⟩
/-- an item of a row that is a place -/
theorem pl_in {ns : List Int} {u i : Int} (h : isPl ns (plD u i) = true) : ∃ (n : Nat) (hn : n < ns.length), u = n ∧ 0 ≤ i ∧ i < ns[n] := by
  have h : (decide (0 ≤ u ∧ u < ns.length) && decide (0 ≤ i ∧ i < ns.getD u.toNat 0)) = true := h
  rw [Bool.and_eq_true, decide_eq_true_eq, decide_eq_true_eq] at h
  obtain ⟨⟨h1, h2⟩, h3, h4⟩ := h
  have hn : u.toNat < ns.length := by omega
  refine ⟨u.toNat, hn, by omega, h3, ?_⟩
  rw [List.getD_eq_getElem?_getD, List.getElem?_eq_getElem hn] at h4
  exact h4
def seatN (ns : List Int) (u i : Int) : Int := (ns.take u.toNat).sum + i
theorem cut_to {α : Type} (l : List α) (n : Nat) (h : n ≤ l.length) : DL.cutD l none (some (n : Int)) = l.take n := by
  unfold DL.cutD
  rw [HT.sIx_none, show HT.sIx l.length l.length (some (n : Int)) = min n l.length from HT.sIx_nat l.length l.length n, Nat.min_eq_left h]
  rfl
def sp_seat : DSp := pur 2 fun ds y => ∃ ns tl u i, ds = [flD ns tl, plD u i] ∧ FlOk ns tl ∧ isPl ns (plD u i) = true ∧ y = .int (seatN ns u i)
theorem ok_seat {P : Program} {w0 : World} {K : PySem.W.Frag} {mg : Str → Option Value} {base : Heap} (b : BI mg) (h : Hd K mg "seat" s_seat nP_seat) (c_need_place : DefG P w0 K mg base 8 "need_place" s_need_place nP_need_place sp_need_place) : DefG P w0 K mg base 9 "seat" s_seat nP_seat sp_seat := by
  refine mk_def h sc_seat pur_len (pdss_cons (pds_expr (pd_call 0 (c_need_place.to) rfl (pda_cons (pd_var 0) (pda_cons (pd_var 1) pda_nil))))
  (pdss_cons (pds_asg (pd_var 1) (pdg_tup (n := 2) (pdgs_cons (pdg_name 2) (pdgs_cons (pdg_name 3) pdgs_nil))))
  (pdss_one (pds_ret (pd_add (pd_sumT rfl b.sum (pda_cons (pd_slice (pd_ix (pd_var 0) pd_int) pdo_none (pdo_some (pd_var 2))) pda_nil)) (pd_var 3)))))) ?_
  rintro dvs ob R X ⟨ds, y, rfl, hl, ⟨ns, tl, u, i, rfl, hf, hp, rfl⟩, hR⟩ sl e1
  have e1 : [some (.d (flD ns tl)), some (.d (plD u i)), none, none] = sl := e1
  subst e1
  try dsimp only [wRet, wAnd, wOr, wUn, wOp, wCa, wCons, wNil, wVar, wC, wSeq, wNext, wPass, wAsg, wExp, wIf, wB, wIfE, wAndT, wOrT, wNotT, wTup, wLst, wSl, dSl, wNoP, wPart, wCall, wCallK, wCallO, wFrz, wGet1, wGet2, wPut, wNewT, wPar, wgName, wgTup, wgCons, wgNil, wgLst, wiT, wiL, wiR1, wiZip, wiEnu, wiEnuA, wChain, wYes, wBM, wBM0, slot, allD, wipeS, List.map_cons, List.map_nil, List.set_cons_zero, List.set_cons_succ, wUn, dNot, dII0, dII, dEqS, dNeS, dIsN, dNotN, dNeg, ends, DL.gLt, DL.gLe, DL.gGt, DL.gGe, DL.gAdd, DL.gSub, DL.gMul, DL.gMod, DL.gDiv, DL.gPow]
  refine call_pur [flD ns tl, plD u i] .none rfl ⟨ns, tl, plD u i, rfl, hf, hp, rfl⟩ ?_
  unfold plD
  try dsimp only [wRet, wAnd, wOr, wUn, wOp, wCa, wCons, wNil, wVar, wC, wSeq, wNext, wPass, wAsg, wExp, wIf, wB, wIfE, wAndT, wOrT, wNotT, wTup, wLst, wSl, dSl, wNoP, wPart, wCall, wCallK, wCallO, wFrz, wGet1, wGet2, wPut, wNewT, wPar, wgName, wgTup, wgCons, wgNil, wgLst, wiT, wiL, wiR1, wiZip, wiEnu, wiEnuA, wChain, wYes, wBM, wBM0, slot, allD, wipeS, List.map_cons, List.map_nil, List.set_cons_zero, List.set_cons_succ, wUn, dNot, dII0, dII, dEqS, dNeS, dIsN, dNotN, dNeg, ends, DL.gLt, DL.gLe, DL.gGt, DL.gGe, DL.gAdd, DL.gSub, DL.gMul, DL.gMod, DL.gDiv, DL.gPow]
  refine ⟨rfl, ?_⟩
  refine u_ix (z := .tuple (ns.map .int)) rfl ?_
  obtain ⟨n, hn, rfl, h0, h1⟩ := pl_in hp
  try dsimp only [wRet, wAnd, wOr, wUn, wOp, wCa, wCons, wNil, wVar, wC, wSeq, wNext, wPass, wAsg, wExp, wIf, wB, wIfE, wAndT, wOrT, wNotT, wTup, wLst, wSl, dSl, wNoP, wPart, wCall, wCallK, wCallO, wFrz, wGet1, wGet2, wPut, wNewT, wPar, wgName, wgTup, wgCons, wgNil, wgLst, wiT, wiL, wiR1, wiZip, wiEnu, wiEnuA, wChain, wYes, wBM, wBM0, slot, allD, wipeS, List.map_cons, List.map_nil, List.set_cons_zero, List.set_cons_succ, wUn, dNot, dII0, dII, dEqS, dNeS, dIsN, dNotN, dNeg, ends, DL.gLt, DL.gLe, DL.gGt, DL.gGe, DL.gAdd, DL.gSub, DL.gMul, DL.gMod, DL.gDiv, DL.gPow]
  show dSumT [.d (.tuple (DL.cutD (ns.map PyData.int) none (some (n : Int))))] _ _
  rw [cut_to _ _ (by rw [List.length_map]; omega), ← List.map_take]
  refine ⟨ns.take n, intsOf_map _, ?_⟩
  try dsimp only [wRet, wAnd, wOr, wUn, wOp, wCa, wCons, wNil, wVar, wC, wSeq, wNext, wPass, wAsg, wExp, wIf, wB, wIfE, wAndT, wOrT, wNotT, wTup, wLst, wSl, dSl, wNoP, wPart, wCall, wCallK, wCallO, wFrz, wGet1, wGet2, wPut, wNewT, wPar, wgName, wgTup, wgCons, wgNil, wgLst, wiT, wiL, wiR1, wiZip, wiEnu, wiEnuA, wChain, wYes, wBM, wBM0, slot, allD, wipeS, List.map_cons, List.map_nil, List.set_cons_zero, List.set_cons_succ, wUn, dNot, dII0, dII, dEqS, dNeS, dIsN, dNotN, dNeg, ends, DL.gLt, DL.gLe, DL.gGt, DL.gGe, DL.gAdd, DL.gSub, DL.gMul, DL.gMod, DL.gDiv, DL.gPow]
  exact hR ob
def sp_behind : DSp := pur 3 fun ds y => ∃ ns tl u i k, ds = [flD ns tl, plD u i, .int k] ∧ FlOk ns tl ∧ isPl ns (plD u i) = true ∧ y = plD u ((i + k) % ns.getD u.toNat 0)
theorem ok_behind {P : Program} {w0 : World} {K : PySem.W.Frag} {mg : Str → Option Value} {base : Heap} (h : Hd K mg "behind" s_behind nP_behind) (c_is_whole : DefG P w0 K mg base 1 "is_whole" s_is_whole nP_is_whole sp_is_whole) (c_need_place : DefG P w0 K mg base 8 "need_place" s_need_place nP_need_place sp_need_place) : DefG P w0 K mg base 9 "behind" s_behind nP_behind sp_behind := by
  refine mk_def h sc_behind pur_len (pdss_cons (pds_expr (pd_call 0 (c_need_place.to) rfl (pda_cons (pd_var 0) (pda_cons (pd_var 1) pda_nil))))
  (pdss_cons (pds_if (pdt_not (pdt_val (pd_call 0 (c_is_whole.to) rfl (pda_cons (pd_var 2) pda_nil)))) (pdss_one pds_never) pdss_nil)
  (pdss_cons (pds_asg (pd_var 1) (pdg_tup (n := 2) (pdgs_cons (pdg_name 3) (pdgs_cons (pdg_name 4) pdgs_nil))))
  (pdss_one (pds_ret (pd_tup (pda_cons (pd_var 3) (pda_cons (pd_mod (pd_add (pd_var 4) (pd_var 2)) (pd_ix (pd_ix (pd_var 0) pd_int) (pd_var 3))) pda_nil)))))))) ?_
  rintro dvs ob R X ⟨ds, y, rfl, hl, ⟨ns, tl, u, i, k, rfl, hf, hp, rfl⟩, hR⟩ sl e1
  have e1 : [some (.d (flD ns tl)), some (.d (plD u i)), some (.d (.int k)), none, none] = sl := e1
  subst e1
  try dsimp only [wRet, wAnd, wOr, wUn, wOp, wCa, wCons, wNil, wVar, wC, wSeq, wNext, wPass, wAsg, wExp, wIf, wB, wIfE, wAndT, wOrT, wNotT, wTup, wLst, wSl, dSl, wNoP, wPart, wCall, wCallK, wCallO, wFrz, wGet1, wGet2, wPut, wNewT, wPar, wgName, wgTup, wgCons, wgNil, wgLst, wiT, wiL, wiR1, wiZip, wiEnu, wiEnuA, wChain, wYes, wBM, wBM0, slot, allD, wipeS, List.map_cons, List.map_nil, List.set_cons_zero, List.set_cons_succ, wUn, dNot, dII0, dII, dEqS, dNeS, dIsN, dNotN, dNeg, ends, DL.gLt, DL.gLe, DL.gGt, DL.gGe, DL.gAdd, DL.gSub, DL.gMul, DL.gMod, DL.gDiv, DL.gPow]
  refine call_pur [flD ns tl, plD u i] .none rfl ⟨ns, tl, plD u i, rfl, hf, hp, rfl⟩ ?_
  try dsimp only [wRet, wAnd, wOr, wUn, wOp, wCa, wCons, wNil, wVar, wC, wSeq, wNext, wPass, wAsg, wExp, wIf, wB, wIfE, wAndT, wOrT, wNotT, wTup, wLst, wSl, dSl, wNoP, wPart, wCall, wCallK, wCallO, wFrz, wGet1, wGet2, wPut, wNewT, wPar, wgName, wgTup, wgCons, wgNil, wgLst, wiT, wiL, wiR1, wiZip, wiEnu, wiEnuA, wChain, wYes, wBM, wBM0, slot, allD, wipeS, List.map_cons, List.map_nil, List.set_cons_zero, List.set_cons_succ, wUn, dNot, dII0, dII, dEqS, dNeS, dIsN, dNotN, dNeg, ends, DL.gLt, DL.gLe, DL.gGt, DL.gGe, DL.gAdd, DL.gSub, DL.gMul, DL.gMod, DL.gDiv, DL.gPow]
  refine call_pur [.int k] (.bool true) rfl ⟨.int k, rfl, rfl⟩ ?_
  unfold plD
  try dsimp only [wRet, wAnd, wOr, wUn, wOp, wCa, wCons, wNil, wVar, wC, wSeq, wNext, wPass, wAsg, wExp, wIf, wB, wIfE, wAndT, wOrT, wNotT, wTup, wLst, wSl, dSl, wNoP, wPart, wCall, wCallK, wCallO, wFrz, wGet1, wGet2, wPut, wNewT, wPar, wgName, wgTup, wgCons, wgNil, wgLst, wiT, wiL, wiR1, wiZip, wiEnu, wiEnuA, wChain, wYes, wBM, wBM0, slot, allD, wipeS, List.map_cons, List.map_nil, List.set_cons_zero, List.set_cons_succ, wUn, dNot, dII0, dII, dEqS, dNeS, dIsN, dNotN, dNeg, ends, DL.gLt, DL.gLe, DL.gGt, DL.gGe, DL.gAdd, DL.gSub, DL.gMul, DL.gMod, DL.gDiv, DL.gPow]
  refine ⟨rfl, ?_⟩
  obtain ⟨n, hn, rfl, h0, h1⟩ := pl_in hp
  refine u_ix (z := .tuple (ns.map .int)) rfl ?_
  try dsimp only [wRet, wAnd, wOr, wUn, wOp, wCa, wCons, wNil, wVar, wC, wSeq, wNext, wPass, wAsg, wExp, wIf, wB, wIfE, wAndT, wOrT, wNotT, wTup, wLst, wSl, dSl, wNoP, wPart, wCall, wCallK, wCallO, wFrz, wGet1, wGet2, wPut, wNewT, wPar, wgName, wgTup, wgCons, wgNil, wgLst, wiT, wiL, wiR1, wiZip, wiEnu, wiEnuA, wChain, wYes, wBM, wBM0, slot, allD, wipeS, List.map_cons, List.map_nil, List.set_cons_zero, List.set_cons_succ, wUn, dNot, dII0, dII, dEqS, dNeS, dIsN, dNotN, dNeg, ends, DL.gLt, DL.gLe, DL.gGt, DL.gGe, DL.gAdd, DL.gSub, DL.gMul, DL.gMod, DL.gDiv, DL.gPow]
  refine u_ix (atI_map (f := PyData.int) hn) ?_
  try dsimp only [wRet, wAnd, wOr, wUn, wOp, wCa, wCons, wNil, wVar, wC, wSeq, wNext, wPass, wAsg, wExp, wIf, wB, wIfE, wAndT, wOrT, wNotT, wTup, wLst, wSl, dSl, wNoP, wPart, wCall, wCallK, wCallO, wFrz, wGet1, wGet2, wPut, wNewT, wPar, wgName, wgTup, wgCons, wgNil, wgLst, wiT, wiL, wiR1, wiZip, wiEnu, wiEnuA, wChain, wYes, wBM, wBM0, slot, allD, wipeS, List.map_cons, List.map_nil, List.set_cons_zero, List.set_cons_succ, wUn, dNot, dII0, dII, dEqS, dNeS, dIsN, dNotN, dNeg, ends, DL.gLt, DL.gLe, DL.gGt, DL.gGe, DL.gAdd, DL.gSub, DL.gMul, DL.gMod, DL.gDiv, DL.gPow]
  have eg : ns.getD ((n : Nat) : Int).toNat 0 = ns[n] := by
    rw [Int.toNat_natCast, List.getD_eq_getElem?_getD, List.getElem?_eq_getElem hn]
    rfl
  rw [eg] at hR
  exact ⟨by omega, sz2, hR ob⟩
theorem lookT_dt (l : Tab) (k : List Key) : lookT ((l.map fun p => PyData.tuple (p.1.map kP)).zip (l.map (·.2))) k = lookD l k := by
  induction l with
  | nil => rfl
  | cons p r ih =>
    show (if tkey (.tuple (p.1.map kP)) = some k then some p.2 else lookT ((r.map fun p => PyData.tuple (p.1.map kP)).zip (r.map (·.2))) k) = if p.1 = k then some p.2 else lookD r k
    rw [tkey_kP, ih]
    by_cases h : p.1 = k
    · rw [if_pos h, if_pos (by rw [h])]
    · rw [if_neg h, if_neg (fun z => h (Option.some.inj z))]
def parOf (tl : List Tc) (u i : Int) : PyData := (lookD (parP tl) (plK u i)).getD .none
theorem getR_par {ρ : S} {tl : List Tc} {u i : Int} : getR ρ (.d (dtD (parP tl))) (.d (plD u i)) = some ((lookD (parP tl) (plK u i)).map .d) := by
  show some ((lookT _ (plK u i)).map DV.d) = _
  rw [lookT_dt]
theorem getD_map (o : Option PyData) : ((o.map DV.d).getD (.d .none)) = .d (o.getD .none) := by cases o <;> rfl
def sp_partner : DSp := pur 2 fun ds y => ∃ ns tl u i, ds = [flD ns tl, plD u i] ∧ FlOk ns tl ∧ isPl ns (plD u i) = true ∧ y = parOf tl u i
theorem ok_partner {P : Program} {w0 : World} {K : PySem.W.Frag} {mg : Str → Option Value} {base : Heap} (h : Hd K mg "partner" s_partner nP_partner) (c_need_place : DefG P w0 K mg base 8 "need_place" s_need_place nP_need_place sp_need_place) (c_partners : DefG P w0 K mg base 1 "partners" s_partners nP_partners sp_partners) : DefG P w0 K mg base 9 "partner" s_partner nP_partner sp_partner := by
  refine mk_def h sc_partner pur_len (pdss_cons (pds_expr (pd_call 0 (c_need_place.to) rfl (pda_cons (pd_var 0) (pda_cons (pd_var 1) pda_nil))))
  (pdss_one (pds_ret (pd_get1 (pd_call 0 (c_partners.to) rfl (pda_cons (pd_var 0) pda_nil)) (pd_var 1))))) ?_
  rintro dvs ob R X ⟨ds, y, rfl, hl, ⟨ns, tl, u, i, rfl, hf, hp, rfl⟩, hR⟩ sl e1
  have e1 : [some (.d (flD ns tl)), some (.d (plD u i))] = sl := e1
  subst e1
  try dsimp only [wRet, wAnd, wOr, wUn, wOp, wCa, wCons, wNil, wVar, wC, wSeq, wNext, wPass, wAsg, wExp, wIf, wB, wIfE, wAndT, wOrT, wNotT, wTup, wLst, wSl, dSl, wNoP, wPart, wCall, wCallK, wCallO, wFrz, wGet1, wGet2, wPut, wNewT, wPar, wgName, wgTup, wgCons, wgNil, wgLst, wiT, wiL, wiR1, wiZip, wiEnu, wiEnuA, wChain, wYes, wBM, wBM0, slot, allD, wipeS, List.map_cons, List.map_nil, List.set_cons_zero, List.set_cons_succ, wUn, dNot, dII0, dII, dEqS, dNeS, dIsN, dNotN, dNeg, ends, DL.gLt, DL.gLe, DL.gGt, DL.gGe, DL.gAdd, DL.gSub, DL.gMul, DL.gMod, DL.gDiv, DL.gPow]
  refine call_pur [flD ns tl, plD u i] .none rfl ⟨ns, tl, plD u i, rfl, hf, hp, rfl⟩ ?_
  try dsimp only [wRet, wAnd, wOr, wUn, wOp, wCa, wCons, wNil, wVar, wC, wSeq, wNext, wPass, wAsg, wExp, wIf, wB, wIfE, wAndT, wOrT, wNotT, wTup, wLst, wSl, dSl, wNoP, wPart, wCall, wCallK, wCallO, wFrz, wGet1, wGet2, wPut, wNewT, wPar, wgName, wgTup, wgCons, wgNil, wgLst, wiT, wiL, wiR1, wiZip, wiEnu, wiEnuA, wChain, wYes, wBM, wBM0, slot, allD, wipeS, List.map_cons, List.map_nil, List.set_cons_zero, List.set_cons_succ, wUn, dNot, dII0, dII, dEqS, dNeS, dIsN, dNotN, dNeg, ends, DL.gLt, DL.gLe, DL.gGt, DL.gGe, DL.gAdd, DL.gSub, DL.gMul, DL.gMod, DL.gDiv, DL.gPow]
  refine call_pur [flD ns tl] (dtD (parP tl)) rfl ⟨ns, tl, rfl, hf.fw31, rfl⟩ ?_
  try dsimp only [wRet, wAnd, wOr, wUn, wOp, wCa, wCons, wNil, wVar, wC, wSeq, wNext, wPass, wAsg, wExp, wIf, wB, wIfE, wAndT, wOrT, wNotT, wTup, wLst, wSl, dSl, wNoP, wPart, wCall, wCallK, wCallO, wFrz, wGet1, wGet2, wPut, wNewT, wPar, wgName, wgTup, wgCons, wgNil, wgLst, wiT, wiL, wiR1, wiZip, wiEnu, wiEnuA, wChain, wYes, wBM, wBM0, slot, allD, wipeS, List.map_cons, List.map_nil, List.set_cons_zero, List.set_cons_succ, wUn, dNot, dII0, dII, dEqS, dNeS, dIsN, dNotN, dNeg, ends, DL.gLt, DL.gLe, DL.gGt, DL.gGe, DL.gAdd, DL.gSub, DL.gMul, DL.gMod, DL.gDiv, DL.gPow]
  refine ⟨rfl, ?_⟩
  rw [getR_par]
  try dsimp only [wRet, wAnd, wOr, wUn, wOp, wCa, wCons, wNil, wVar, wC, wSeq, wNext, wPass, wAsg, wExp, wIf, wB, wIfE, wAndT, wOrT, wNotT, wTup, wLst, wSl, dSl, wNoP, wPart, wCall, wCallK, wCallO, wFrz, wGet1, wGet2, wPut, wNewT, wPar, wgName, wgTup, wgCons, wgNil, wgLst, wiT, wiL, wiR1, wiZip, wiEnu, wiEnuA, wChain, wYes, wBM, wBM0, slot, allD, wipeS, List.map_cons, List.map_nil, List.set_cons_zero, List.set_cons_succ, wUn, dNot, dII0, dII, dEqS, dNeS, dIsN, dNotN, dNeg, ends, DL.gLt, DL.gLe, DL.gGt, DL.gGe, DL.gAdd, DL.gSub, DL.gMul, DL.gMod, DL.gDiv, DL.gPow]
  rw [getD_map]
  exact hR ob
end K02
end

section
set_option Elab.async false
set_option linter.all false
set_option maxRecDepth 100000
set_option maxHeartbeats 1000000
set_option autoImplicit false
namespace K02
open PySem PySem.Spec PyProof.Rows L2 DL
/-! ### the law's deck -/
theorem frz_lst {sl : List (Option DV)} {ob : List OB} {l : List PyData} : frz ⟨sl, ob ++ [.lst (l.map .d)]⟩ ob.length = some (.list l, ⟨sl.map (ren ob.length (.list l)), ob ++ [.gone]⟩) := by
  unfold frz
  rw [obK_last]
  show (allD (l.map .d)).map _ = _
  rw [allD_map]
  show some (_, _) = _
  rw [set_last]
theorem lst_of {ρ : S} {k : Nat} {l : List PyData} (h : obK ρ k = .lst (l.map .d)) : lstOf ρ (.o k) = some l := by
  show (match obK ρ k with | .lst xs => allD xs | _ => none) = some l
  rw [h]
  exact allD_map l
theorem puts3 (x y z : DV) : putsD [] ["cells", "mixed", "draws"] [x, y, z] = [(.inr "cells", x), (.inr "mixed", y), (.inr "draws", z)] := by
  have h1 : ((Sum.inr ("cells" : Str) : Key) = Sum.inr ("mixed" : Str)) = False := by decide
  have h2 : ((Sum.inr ("cells" : Str) : Key) = Sum.inr ("draws" : Str)) = False := by decide
  have h3 : ((Sum.inr ("mixed" : Str) : Key) = Sum.inr ("draws" : Str)) = False := by decide
  simp [putsD, putD, h1, h2, h3]
def sp_law_deck : DSp := fun dvs ob R _ => ∃ ns : List Int, dvs = [.d (.list (ns.map .int))] ∧ ns.length ≤ 63 ∧ ob = [] ∧
  ∀ (c : List Int) (m : Int) (x y : OB), c.length ≤ 63 → R (.o 1) [.gone, .dk [(.inr "cells", .o 4), (.inr "mixed", .d (.int m)), (.inr "draws", .d (.int 0))], x, y, cellsO c]
theorem cut_le {α : Type} (l : List α) (lo hi : Option Int) : (DL.cutD l lo hi).length ≤ l.length := by
  unfold DL.cutD
  rw [List.length_take, List.length_drop]
  omega
theorem cut_map {α β : Type} (f : α → β) (l : List α) (lo hi : Option Int) : DL.cutD (l.map f) lo hi = (DL.cutD l lo hi).map f := by
  unfold DL.cutD
  rw [List.length_map, List.map_take, List.map_drop]
theorem deck_len : ∀ (ys : List DV) (ob : List OB) (R : DV → List OB → Prop) (X : XD → List OB → Prop), sp_law_deck ys ob R X → ys.length = 1 := by
  rintro ys ob R X ⟨ns, rfl, _⟩
  rfl
theorem ok_law_deck {P : Program} {w0 : World} {K : PySem.W.Frag} {mg : Str → Option Value} {base : Heap} (b : BI mg) (h : Hd K mg "_law_deck" s_law_deck nP_law_deck) : DefG P w0 K mg base 1 "_law_deck" s_law_deck nP_law_deck sp_law_deck := by
  refine mk_def h sc_law_deck deck_len (pdss_cons (pds_set 1 pd_int)
  (pdss_cons (pds_for (pdi_list (pd_frz (pd_slice (pd_var 0) pdo_none (pdo_some pd_int)))) (pdg_name 2) (pdss_one (pds_set 1 (pd_mod (pd_intC rfl b.int_ (pda_cons (pd_add (pd_add (pd_mul (pd_var 1) pd_int) (pd_mod (pd_intC rfl b.int_ (pda_cons (pd_var 2) pda_nil)) pd_int)) pd_int) pda_nil)) pd_int))))
  (pdss_one (pds_ret (pd_disp (pdp_cons (pd_revL (pd_list rfl b.list_ (pda_cons (pd_slice (pd_var 0) pdo_none (pdo_some pd_int)) pda_nil))) (pdp_cons (pd_var 1) (pdp_cons pd_int pdp_nil))) (by rfl) (by rfl) (fun z => by cases z) (by decide) (by decide)))))) ?_
  rintro dvs ob R X ⟨ns, rfl, hn, rfl, hR⟩ sl e1
  have e1 : [some (.d (.list (ns.map .int))), none, none] = sl := e1
  subst e1
  try dsimp only [wRet, wAnd, wOr, wUn, wOp, wCa, wCons, wNil, wVar, wC, wSeq, wNext, wPass, wAsg, wExp, wIf, wB, wIfE, wAndT, wOrT, wNotT, wTup, wLst, wSl, dSl, wNoP, wPart, wCall, wCallK, wCallO, wCallP, wDisp, wFrz, wGet1, wGet2, wPut, wNewT, wPar, wgName, wgTup, wgCons, wgNil, wgLst, wiT, wiL, wiR1, wiZip, wiEnu, wiEnuA, wChain, wYes, wBM, wBM0, slot, allD, wipeS, List.map_cons, List.map_nil, List.set_cons_zero, List.set_cons_succ, List.cons_append, List.nil_append, List.isEmpty_nil, List.isEmpty_cons, Bool.not_true, Bool.not_false, wUn, dNot, dII0, dII, dEqS, dNeS, dIsN, dNotN, dNeg, ends, DL.gLt, DL.gLe, DL.gGt, DL.gGe, DL.gAdd, DL.gSub, DL.gMul, DL.gMod, DL.gDiv, DL.gPow]
  have hlen : (DL.cutD ns none (some 63)).length ≤ 63 := Nat.le_trans (cut_le _ _ _) hn
  refine for_in ((DL.cutD ns none (some 63)).map .int) ⟨[some (.d (.list (ns.map .int))), some (.d (.int 10896209)), none], [.gone]⟩ (fun _ ρ' => ∃ m x, ρ' = ⟨[some (.d (.list (ns.map .int))), some (.d (.int m)), x], [.gone]⟩) (fun C h => ?_) ⟨_, _, rfl⟩ ?_ ?_
  · try dsimp only [wRet, wAnd, wOr, wUn, wOp, wCa, wCons, wNil, wVar, wC, wSeq, wNext, wPass, wAsg, wExp, wIf, wB, wIfE, wAndT, wOrT, wNotT, wTup, wLst, wSl, dSl, wNoP, wPart, wCall, wCallK, wCallO, wCallP, wDisp, wFrz, wGet1, wGet2, wPut, wNewT, wPar, wgName, wgTup, wgCons, wgNil, wgLst, wiT, wiL, wiR1, wiZip, wiEnu, wiEnuA, wChain, wYes, wBM, wBM0, slot, allD, wipeS, List.map_cons, List.map_nil, List.set_cons_zero, List.set_cons_succ, List.cons_append, List.nil_append, List.isEmpty_nil, List.isEmpty_cons, Bool.not_true, Bool.not_false, wUn, dNot, dII0, dII, dEqS, dNeS, dIsN, dNotN, dNeg, ends, DL.gLt, DL.gLe, DL.gGt, DL.gGe, DL.gAdd, DL.gSub, DL.gMul, DL.gMod, DL.gDiv, DL.gPow]
    rw [cut_map, frz_of ((DL.cutD ns none (some 63)).map .int) rfl]
    exact h
  · rintro i x ρ' hx ⟨m, z, rfl⟩
    rw [List.getElem?_map] at hx
    cases hc : (DL.cutD ns none (some 63))[i]? with
    | none => rw [hc] at hx; cases hx
    | some k =>
      rw [hc] at hx
      obtain rfl := Option.some.inj hx
      try dsimp only [wRet, wAnd, wOr, wUn, wOp, wCa, wCons, wNil, wVar, wC, wSeq, wNext, wPass, wAsg, wExp, wIf, wB, wIfE, wAndT, wOrT, wNotT, wTup, wLst, wSl, dSl, wNoP, wPart, wCall, wCallK, wCallO, wCallP, wDisp, wFrz, wGet1, wGet2, wPut, wNewT, wPar, wgName, wgTup, wgCons, wgNil, wgLst, wiT, wiL, wiR1, wiZip, wiEnu, wiEnuA, wChain, wYes, wBM, wBM0, slot, allD, wipeS, List.map_cons, List.map_nil, List.set_cons_zero, List.set_cons_succ, List.cons_append, List.nil_append, List.isEmpty_nil, List.isEmpty_cons, Bool.not_true, Bool.not_false, wUn, dNot, dII0, dII, dEqS, dNeS, dIsN, dNotN, dNeg, ends, DL.gLt, DL.gLe, DL.gGt, DL.gGe, DL.gAdd, DL.gSub, DL.gMul, DL.gMod, DL.gDiv, DL.gPow]
      refine ⟨.inr (by decide), ?_⟩
      try dsimp only [wRet, wAnd, wOr, wUn, wOp, wCa, wCons, wNil, wVar, wC, wSeq, wNext, wPass, wAsg, wExp, wIf, wB, wIfE, wAndT, wOrT, wNotT, wTup, wLst, wSl, dSl, wNoP, wPart, wCall, wCallK, wCallO, wCallP, wDisp, wFrz, wGet1, wGet2, wPut, wNewT, wPar, wgName, wgTup, wgCons, wgNil, wgLst, wiT, wiL, wiR1, wiZip, wiEnu, wiEnuA, wChain, wYes, wBM, wBM0, slot, allD, wipeS, List.map_cons, List.map_nil, List.set_cons_zero, List.set_cons_succ, List.cons_append, List.nil_append, List.isEmpty_nil, List.isEmpty_cons, Bool.not_true, Bool.not_false, wUn, dNot, dII0, dII, dEqS, dNeS, dIsN, dNotN, dNeg, ends, DL.gLt, DL.gLe, DL.gGt, DL.gGe, DL.gAdd, DL.gSub, DL.gMul, DL.gMod, DL.gDiv, DL.gPow]
      refine ⟨by decide, ?_⟩
      try dsimp only [wRet, wAnd, wOr, wUn, wOp, wCa, wCons, wNil, wVar, wC, wSeq, wNext, wPass, wAsg, wExp, wIf, wB, wIfE, wAndT, wOrT, wNotT, wTup, wLst, wSl, dSl, wNoP, wPart, wCall, wCallK, wCallO, wCallP, wDisp, wFrz, wGet1, wGet2, wPut, wNewT, wPar, wgName, wgTup, wgCons, wgNil, wgLst, wiT, wiL, wiR1, wiZip, wiEnu, wiEnuA, wChain, wYes, wBM, wBM0, slot, allD, wipeS, List.map_cons, List.map_nil, List.set_cons_zero, List.set_cons_succ, List.cons_append, List.nil_append, List.isEmpty_nil, List.isEmpty_cons, Bool.not_true, Bool.not_false, wUn, dNot, dII0, dII, dEqS, dNeS, dIsN, dNotN, dNeg, ends, DL.gLt, DL.gLe, DL.gGt, DL.gGe, DL.gAdd, DL.gSub, DL.gMul, DL.gMod, DL.gDiv, DL.gPow]
      exact ⟨by decide, _, _, rfl⟩
  · rintro ρ' ⟨m, z, rfl⟩
    try dsimp only [wRet, wAnd, wOr, wUn, wOp, wCa, wCons, wNil, wVar, wC, wSeq, wNext, wPass, wAsg, wExp, wIf, wB, wIfE, wAndT, wOrT, wNotT, wTup, wLst, wSl, dSl, wNoP, wPart, wCall, wCallK, wCallO, wCallP, wDisp, wFrz, wGet1, wGet2, wPut, wNewT, wPar, wgName, wgTup, wgCons, wgNil, wgLst, wiT, wiL, wiR1, wiZip, wiEnu, wiEnuA, wChain, wYes, wBM, wBM0, slot, allD, wipeS, List.map_cons, List.map_nil, List.set_cons_zero, List.set_cons_succ, List.cons_append, List.nil_append, List.isEmpty_nil, List.isEmpty_cons, Bool.not_true, Bool.not_false, wUn, dNot, dII0, dII, dEqS, dNeS, dIsN, dNotN, dNeg, ends, DL.gLt, DL.gLe, DL.gGt, DL.gGe, DL.gAdd, DL.gSub, DL.gMul, DL.gMod, DL.gDiv, DL.gPow]
    rw [cut_map]
    refine ⟨((DL.cutD ns none (some 63)).map PyData.int).map .d, rfl, ?_⟩
    try dsimp only [wRet, wAnd, wOr, wUn, wOp, wCa, wCons, wNil, wVar, wC, wSeq, wNext, wPass, wAsg, wExp, wIf, wB, wIfE, wAndT, wOrT, wNotT, wTup, wLst, wSl, dSl, wNoP, wPart, wCall, wCallK, wCallO, wCallP, wDisp, wFrz, wGet1, wGet2, wPut, wNewT, wPar, wgName, wgTup, wgCons, wgNil, wgLst, wiT, wiL, wiR1, wiZip, wiEnu, wiEnuA, wChain, wYes, wBM, wBM0, slot, allD, wipeS, List.map_cons, List.map_nil, List.set_cons_zero, List.set_cons_succ, List.cons_append, List.nil_append, List.isEmpty_nil, List.isEmpty_cons, Bool.not_true, Bool.not_false, wUn, dNot, dII0, dII, dEqS, dNeS, dIsN, dNotN, dNeg, ends, DL.gLt, DL.gLe, DL.gGt, DL.gGe, DL.gAdd, DL.gSub, DL.gMul, DL.gMod, DL.gDiv, DL.gPow]
    refine ⟨(DL.cutD ns none (some 63)).map .int, lst_of rfl, ?_⟩
    try dsimp only [wRet, wAnd, wOr, wUn, wOp, wCa, wCons, wNil, wVar, wC, wSeq, wNext, wPass, wAsg, wExp, wIf, wB, wIfE, wAndT, wOrT, wNotT, wTup, wLst, wSl, dSl, wNoP, wPart, wCall, wCallK, wCallO, wCallP, wDisp, wFrz, wGet1, wGet2, wPut, wNewT, wPar, wgName, wgTup, wgCons, wgNil, wgLst, wiT, wiL, wiR1, wiZip, wiEnu, wiEnuA, wChain, wYes, wBM, wBM0, slot, allD, wipeS, List.map_cons, List.map_nil, List.set_cons_zero, List.set_cons_succ, List.cons_append, List.nil_append, List.isEmpty_nil, List.isEmpty_cons, Bool.not_true, Bool.not_false, wUn, dNot, dII0, dII, dEqS, dNeS, dIsN, dNotN, dNeg, ends, DL.gLt, DL.gLe, DL.gGt, DL.gGe, DL.gAdd, DL.gSub, DL.gMul, DL.gMod, DL.gDiv, DL.gPow]
    refine ⟨rfl, ?_⟩
    rw [puts3, ← List.map_reverse]
    exact hR (DL.cutD ns none (some 63)).reverse m _ _ (by rw [List.length_reverse]; exact hlen)
def sp_law_draw : DSp := dkS 1 (fun ds => ∃ n : Int, ds = [.int n] ∧ 1 ≤ n ∧ n ≤ 1000000000) (fun ds y => ∃ n r : Int, ds = [.int n] ∧ y = .int r ∧ 0 ≤ r ∧ r < n)
theorem ok_law_draw {P : Program} {w0 : World} {K : PySem.W.Frag} {mg : Str → Option Value} {base : Heap} (b : BI mg) (h : Hd K mg "_law_draw" s_law_draw nP_law_draw) : DefG P w0 K mg base 1 "_law_draw" s_law_draw nP_law_draw sp_law_draw := by
  refine mk_def h sc_law_draw dkS_len (pdss_cons (pds_put (pd_var 0) pd_str (pd_add (pd_dget (pd_var 0) pd_str) pd_int))
  (pdss_cons (pds_set 2 (pd_add (pd_dget (pd_var 0) pd_str) (pd_mul pd_int (pd_dget (pd_var 0) pd_str))))
  (pdss_cons (pds_if (pdt_cmpD cd_neD (pd_dget (pd_var 0) pd_str) (pd_lst pda_nil)) (pdss_cons (pds_set 3 (pd_pop (pl := pure true) (pd_dget (pd_var 0) pd_str)))
  (pdss_cons (pds_if (pdt_cmpD cd_ge (pd_var 3) (pd_pow pd_int pd_int)) (pdss_cons (pds_expr (pd_append (pd_dget (pd_var 0) pd_str) (pda_cons (pd_fdiv (pd_var 3) (pd_max2 rfl b.max (pda_cons pd_int (pda_cons (pd_var 1) pda_nil)))) pda_nil)))
  (pdss_one (pds_ret (pd_mod (pd_intC rfl b.int_ (pda_cons (pd_var 3) pda_nil)) (pd_var 1))))) pdss_nil)
  (pdss_one (pds_set 2 (pd_add (pd_var 2) (pd_mod (pd_intC rfl b.int_ (pda_cons (pd_var 3) pda_nil)) pd_int)))))) pdss_nil)
  (pdss_cons (pds_set 2 (pd_mod (pd_intC rfl b.int_ (pda_cons (pd_add (pd_mul (pd_var 2) pd_int) pd_int) pda_nil)) pd_int))
  (pdss_cons (pds_set 2 (pd_mod (pd_intC rfl b.int_ (pda_cons (pd_add (pd_add (pd_mul (pd_var 2) (pd_var 2)) (pd_mul pd_int (pd_dget (pd_var 0) pd_str))) pd_int) pda_nil)) pd_int))
  (pdss_cons (pds_set 2 (pd_mod (pd_intC rfl b.int_ (pda_cons (pd_mul (pd_var 2) pd_int) pda_nil)) pd_int))
  (pdss_one (pds_ret (pd_mod (pd_intC rfl b.int_ (pda_cons (pd_fdiv (pd_var 2) pd_int) pda_nil)) (pd_var 1)))))))))) ?_
  rintro dvs ob R X ⟨ds, c, m, d, rfl, hl, ⟨n, rfl, h1, h2⟩, hc, rfl, hR⟩ sl e1
  have e1 : [some (.o 0), some (.d (.int n)), none, none] = sl := e1
  subst e1
  try dsimp only [wRet, wAnd, wOr, wUn, wOp, wCa, wCons, wNil, wVar, wC, wSeq, wNext, wPass, wAsg, wExp, wIf, wB, wIfE, wAndT, wOrT, wNotT, wTup, wLst, wSl, dSl, wNoP, wPart, wCall, wCallK, wCallO, wCallP, wDisp, wFrz, wGet1, wGet2, wPut, wNewT, wPar, wgName, wgTup, wgCons, wgNil, wgLst, wiT, wiL, wiR1, wiZip, wiEnu, wiEnuA, wChain, wYes, wBM, wBM0, slot, allD, wipeS, List.map_cons, List.map_nil, List.set_cons_zero, List.set_cons_succ, List.cons_append, List.nil_append, List.isEmpty_nil, List.isEmpty_cons, Bool.not_true, Bool.not_false, wUn, dNot, dII0, dII, dEqS, dNeS, dIsN, dNotN, dNeg, ends, DL.gLt, DL.gLe, DL.gGt, DL.gGe, DL.gAdd, DL.gSub, DL.gMul, DL.gMod, DL.gDiv, DL.gPow]
  refine dg_draws ?_
  try dsimp only [wRet, wAnd, wOr, wUn, wOp, wCa, wCons, wNil, wVar, wC, wSeq, wNext, wPass, wAsg, wExp, wIf, wB, wIfE, wAndT, wOrT, wNotT, wTup, wLst, wSl, dSl, wNoP, wPart, wCall, wCallK, wCallO, wCallP, wDisp, wFrz, wGet1, wGet2, wPut, wNewT, wPar, wgName, wgTup, wgCons, wgNil, wgLst, wiT, wiL, wiR1, wiZip, wiEnu, wiEnuA, wChain, wYes, wBM, wBM0, slot, allD, wipeS, List.map_cons, List.map_nil, List.set_cons_zero, List.set_cons_succ, List.cons_append, List.nil_append, List.isEmpty_nil, List.isEmpty_cons, Bool.not_true, Bool.not_false, wUn, dNot, dII0, dII, dEqS, dNeS, dIsN, dNotN, dNeg, ends, DL.gLt, DL.gLe, DL.gGt, DL.gGe, DL.gAdd, DL.gSub, DL.gMul, DL.gMod, DL.gDiv, DL.gPow]
  refine ⟨few_deck, ?_⟩
  rw [put_draws]
  try dsimp only [wRet, wAnd, wOr, wUn, wOp, wCa, wCons, wNil, wVar, wC, wSeq, wNext, wPass, wAsg, wExp, wIf, wB, wIfE, wAndT, wOrT, wNotT, wTup, wLst, wSl, dSl, wNoP, wPart, wCall, wCallK, wCallO, wCallP, wDisp, wFrz, wGet1, wGet2, wPut, wNewT, wPar, wgName, wgTup, wgCons, wgNil, wgLst, wiT, wiL, wiR1, wiZip, wiEnu, wiEnuA, wChain, wYes, wBM, wBM0, slot, allD, wipeS, List.map_cons, List.map_nil, List.set_cons_zero, List.set_cons_succ, List.cons_append, List.nil_append, List.isEmpty_nil, List.isEmpty_cons, Bool.not_true, Bool.not_false, wUn, dNot, dII0, dII, dEqS, dNeS, dIsN, dNotN, dNeg, ends, DL.gLt, DL.gLe, DL.gGt, DL.gGe, DL.gAdd, DL.gSub, DL.gMul, DL.gMod, DL.gDiv, DL.gPow]
  refine dg_mixed ?_
  try dsimp only [wRet, wAnd, wOr, wUn, wOp, wCa, wCons, wNil, wVar, wC, wSeq, wNext, wPass, wAsg, wExp, wIf, wB, wIfE, wAndT, wOrT, wNotT, wTup, wLst, wSl, dSl, wNoP, wPart, wCall, wCallK, wCallO, wCallP, wDisp, wFrz, wGet1, wGet2, wPut, wNewT, wPar, wgName, wgTup, wgCons, wgNil, wgLst, wiT, wiL, wiR1, wiZip, wiEnu, wiEnuA, wChain, wYes, wBM, wBM0, slot, allD, wipeS, List.map_cons, List.map_nil, List.set_cons_zero, List.set_cons_succ, List.cons_append, List.nil_append, List.isEmpty_nil, List.isEmpty_cons, Bool.not_true, Bool.not_false, wUn, dNot, dII0, dII, dEqS, dNeS, dIsN, dNotN, dNeg, ends, DL.gLt, DL.gLe, DL.gGt, DL.gGe, DL.gAdd, DL.gSub, DL.gMul, DL.gMod, DL.gDiv, DL.gPow]
  refine dg_draws ?_
  try dsimp only [wRet, wAnd, wOr, wUn, wOp, wCa, wCons, wNil, wVar, wC, wSeq, wNext, wPass, wAsg, wExp, wIf, wB, wIfE, wAndT, wOrT, wNotT, wTup, wLst, wSl, dSl, wNoP, wPart, wCall, wCallK, wCallO, wCallP, wDisp, wFrz, wGet1, wGet2, wPut, wNewT, wPar, wgName, wgTup, wgCons, wgNil, wgLst, wiT, wiL, wiR1, wiZip, wiEnu, wiEnuA, wChain, wYes, wBM, wBM0, slot, allD, wipeS, List.map_cons, List.map_nil, List.set_cons_zero, List.set_cons_succ, List.cons_append, List.nil_append, List.isEmpty_nil, List.isEmpty_cons, Bool.not_true, Bool.not_false, wUn, dNot, dII0, dII, dEqS, dNeS, dIsN, dNotN, dNeg, ends, DL.gLt, DL.gLe, DL.gGt, DL.gGe, DL.gAdd, DL.gSub, DL.gMul, DL.gMod, DL.gDiv, DL.gPow]
  refine ⟨.inl (by decide), ?_⟩
  refine dg_cells ?_
  try dsimp only [wRet, wAnd, wOr, wUn, wOp, wCa, wCons, wNil, wVar, wC, wSeq, wNext, wPass, wAsg, wExp, wIf, wB, wIfE, wAndT, wOrT, wNotT, wTup, wLst, wSl, dSl, wNoP, wPart, wCall, wCallK, wCallO, wCallP, wDisp, wFrz, wGet1, wGet2, wPut, wNewT, wPar, wgName, wgTup, wgCons, wgNil, wgLst, wiT, wiL, wiR1, wiZip, wiEnu, wiEnuA, wChain, wYes, wBM, wBM0, slot, allD, wipeS, List.map_cons, List.map_nil, List.set_cons_zero, List.set_cons_succ, List.cons_append, List.nil_append, List.isEmpty_nil, List.isEmpty_cons, Bool.not_true, Bool.not_false, wUn, dNot, dII0, dII, dEqS, dNeS, dIsN, dNotN, dNeg, ends, DL.gLt, DL.gLe, DL.gGt, DL.gGe, DL.gAdd, DL.gSub, DL.gMul, DL.gMod, DL.gDiv, DL.gPow]
  refine ⟨Nat.zero_le _, ?_⟩
  -- behind the cells: the mixed number
  refine u_neNil (l := c.map .int) rfl rfl (eqs_ints c) ?_
  try dsimp only [wRet, wAnd, wOr, wUn, wOp, wCa, wCons, wNil, wVar, wC, wSeq, wNext, wPass, wAsg, wExp, wIf, wB, wIfE, wAndT, wOrT, wNotT, wTup, wLst, wSl, dSl, wNoP, wPart, wCall, wCallK, wCallO, wCallP, wDisp, wFrz, wGet1, wGet2, wPut, wNewT, wPar, wgName, wgTup, wgCons, wgNil, wgLst, wiT, wiL, wiR1, wiZip, wiEnu, wiEnuA, wChain, wYes, wBM, wBM0, slot, allD, wipeS, List.map_cons, List.map_nil, List.set_cons_zero, List.set_cons_succ, List.cons_append, List.nil_append, List.isEmpty_nil, List.isEmpty_cons, Bool.not_true, Bool.not_false, wUn, dNot, dII0, dII, dEqS, dNeS, dIsN, dNotN, dNeg, ends, DL.gLt, DL.gLe, DL.gGt, DL.gGe, DL.gAdd, DL.gSub, DL.gMul, DL.gMod, DL.gDiv, DL.gPow]
  have stop : ∀ (z : Int) (c' : List Int) (m' d' : Int) (rest : List OB), c'.length ≤ 63 → R (.d (.int (z % n))) (deckO m' d' :: cellsO c' :: rest) := fun z c' m' d' rest hc' =>
    hR _ c' m' d' rest ⟨n, z % n, rfl, rfl, Int.emod_nonneg _ (by omega), Int.emod_lt_of_pos _ (by omega)⟩ hc'
  by_cases hn : c = []
  · subst hn
    try dsimp only [wRet, wAnd, wOr, wUn, wOp, wCa, wCons, wNil, wVar, wC, wSeq, wNext, wPass, wAsg, wExp, wIf, wB, wIfE, wAndT, wOrT, wNotT, wTup, wLst, wSl, dSl, wNoP, wPart, wCall, wCallK, wCallO, wCallP, wDisp, wFrz, wGet1, wGet2, wPut, wNewT, wPar, wgName, wgTup, wgCons, wgNil, wgLst, wiT, wiL, wiR1, wiZip, wiEnu, wiEnuA, wChain, wYes, wBM, wBM0, slot, allD, wipeS, List.map_cons, List.map_nil, List.set_cons_zero, List.set_cons_succ, List.cons_append, List.nil_append, List.isEmpty_nil, List.isEmpty_cons, Bool.not_true, Bool.not_false, wUn, dNot, dII0, dII, dEqS, dNeS, dIsN, dNotN, dNeg, ends, DL.gLt, DL.gLe, DL.gGt, DL.gGe, DL.gAdd, DL.gSub, DL.gMul, DL.gMod, DL.gDiv, DL.gPow]
    try dsimp only [wRet, wAnd, wOr, wUn, wOp, wCa, wCons, wNil, wVar, wC, wSeq, wNext, wPass, wAsg, wExp, wIf, wB, wIfE, wAndT, wOrT, wNotT, wTup, wLst, wSl, dSl, wNoP, wPart, wCall, wCallK, wCallO, wCallP, wDisp, wFrz, wGet1, wGet2, wPut, wNewT, wPar, wgName, wgTup, wgCons, wgNil, wgLst, wiT, wiL, wiR1, wiZip, wiEnu, wiEnuA, wChain, wYes, wBM, wBM0, slot, allD, wipeS, List.map_cons, List.map_nil, List.set_cons_zero, List.set_cons_succ, List.cons_append, List.nil_append, List.isEmpty_nil, List.isEmpty_cons, Bool.not_true, Bool.not_false, wUn, dNot, dII0, dII, dEqS, dNeS, dIsN, dNotN, dNeg, ends, DL.gLt, DL.gLe, DL.gGt, DL.gGe, DL.gAdd, DL.gSub, DL.gMul, DL.gMod, DL.gDiv, DL.gPow]
    refine ⟨.inr (by decide), ?_⟩
    try dsimp only [wRet, wAnd, wOr, wUn, wOp, wCa, wCons, wNil, wVar, wC, wSeq, wNext, wPass, wAsg, wExp, wIf, wB, wIfE, wAndT, wOrT, wNotT, wTup, wLst, wSl, dSl, wNoP, wPart, wCall, wCallK, wCallO, wCallP, wDisp, wFrz, wGet1, wGet2, wPut, wNewT, wPar, wgName, wgTup, wgCons, wgNil, wgLst, wiT, wiL, wiR1, wiZip, wiEnu, wiEnuA, wChain, wYes, wBM, wBM0, slot, allD, wipeS, List.map_cons, List.map_nil, List.set_cons_zero, List.set_cons_succ, List.cons_append, List.nil_append, List.isEmpty_nil, List.isEmpty_cons, Bool.not_true, Bool.not_false, wUn, dNot, dII0, dII, dEqS, dNeS, dIsN, dNotN, dNeg, ends, DL.gLt, DL.gLe, DL.gGt, DL.gGe, DL.gAdd, DL.gSub, DL.gMul, DL.gMod, DL.gDiv, DL.gPow]
    try unfold dInt
    try dsimp only [wRet, wAnd, wOr, wUn, wOp, wCa, wCons, wNil, wVar, wC, wSeq, wNext, wPass, wAsg, wExp, wIf, wB, wIfE, wAndT, wOrT, wNotT, wTup, wLst, wSl, dSl, wNoP, wPart, wCall, wCallK, wCallO, wCallP, wDisp, wFrz, wGet1, wGet2, wPut, wNewT, wPar, wgName, wgTup, wgCons, wgNil, wgLst, wiT, wiL, wiR1, wiZip, wiEnu, wiEnuA, wChain, wYes, wBM, wBM0, slot, allD, wipeS, List.map_cons, List.map_nil, List.set_cons_zero, List.set_cons_succ, List.cons_append, List.nil_append, List.isEmpty_nil, List.isEmpty_cons, Bool.not_true, Bool.not_false, wUn, dNot, dII0, dII, dEqS, dNeS, dIsN, dNotN, dNeg, ends, DL.gLt, DL.gLe, DL.gGt, DL.gGe, DL.gAdd, DL.gSub, DL.gMul, DL.gMod, DL.gDiv, DL.gPow]
    refine ⟨by decide, ?_⟩
    try dsimp only [wRet, wAnd, wOr, wUn, wOp, wCa, wCons, wNil, wVar, wC, wSeq, wNext, wPass, wAsg, wExp, wIf, wB, wIfE, wAndT, wOrT, wNotT, wTup, wLst, wSl, dSl, wNoP, wPart, wCall, wCallK, wCallO, wCallP, wDisp, wFrz, wGet1, wGet2, wPut, wNewT, wPar, wgName, wgTup, wgCons, wgNil, wgLst, wiT, wiL, wiR1, wiZip, wiEnu, wiEnuA, wChain, wYes, wBM, wBM0, slot, allD, wipeS, List.map_cons, List.map_nil, List.set_cons_zero, List.set_cons_succ, List.cons_append, List.nil_append, List.isEmpty_nil, List.isEmpty_cons, Bool.not_true, Bool.not_false, wUn, dNot, dII0, dII, dEqS, dNeS, dIsN, dNotN, dNeg, ends, DL.gLt, DL.gLe, DL.gGt, DL.gGe, DL.gAdd, DL.gSub, DL.gMul, DL.gMod, DL.gDiv, DL.gPow]
    refine ⟨.inl (by omega), ?_⟩
    try dsimp only [wRet, wAnd, wOr, wUn, wOp, wCa, wCons, wNil, wVar, wC, wSeq, wNext, wPass, wAsg, wExp, wIf, wB, wIfE, wAndT, wOrT, wNotT, wTup, wLst, wSl, dSl, wNoP, wPart, wCall, wCallK, wCallO, wCallP, wDisp, wFrz, wGet1, wGet2, wPut, wNewT, wPar, wgName, wgTup, wgCons, wgNil, wgLst, wiT, wiL, wiR1, wiZip, wiEnu, wiEnuA, wChain, wYes, wBM, wBM0, slot, allD, wipeS, List.map_cons, List.map_nil, List.set_cons_zero, List.set_cons_succ, List.cons_append, List.nil_append, List.isEmpty_nil, List.isEmpty_cons, Bool.not_true, Bool.not_false, wUn, dNot, dII0, dII, dEqS, dNeS, dIsN, dNotN, dNeg, ends, DL.gLt, DL.gLe, DL.gGt, DL.gGe, DL.gAdd, DL.gSub, DL.gMul, DL.gMod, DL.gDiv, DL.gPow]
    refine dg_draws ?_
    try dsimp only [wRet, wAnd, wOr, wUn, wOp, wCa, wCons, wNil, wVar, wC, wSeq, wNext, wPass, wAsg, wExp, wIf, wB, wIfE, wAndT, wOrT, wNotT, wTup, wLst, wSl, dSl, wNoP, wPart, wCall, wCallK, wCallO, wCallP, wDisp, wFrz, wGet1, wGet2, wPut, wNewT, wPar, wgName, wgTup, wgCons, wgNil, wgLst, wiT, wiL, wiR1, wiZip, wiEnu, wiEnuA, wChain, wYes, wBM, wBM0, slot, allD, wipeS, List.map_cons, List.map_nil, List.set_cons_zero, List.set_cons_succ, List.cons_append, List.nil_append, List.isEmpty_nil, List.isEmpty_cons, Bool.not_true, Bool.not_false, wUn, dNot, dII0, dII, dEqS, dNeS, dIsN, dNotN, dNeg, ends, DL.gLt, DL.gLe, DL.gGt, DL.gGe, DL.gAdd, DL.gSub, DL.gMul, DL.gMod, DL.gDiv, DL.gPow]
    refine ⟨.inl (by decide), ?_⟩
    try dsimp only [wRet, wAnd, wOr, wUn, wOp, wCa, wCons, wNil, wVar, wC, wSeq, wNext, wPass, wAsg, wExp, wIf, wB, wIfE, wAndT, wOrT, wNotT, wTup, wLst, wSl, dSl, wNoP, wPart, wCall, wCallK, wCallO, wCallP, wDisp, wFrz, wGet1, wGet2, wPut, wNewT, wPar, wgName, wgTup, wgCons, wgNil, wgLst, wiT, wiL, wiR1, wiZip, wiEnu, wiEnuA, wChain, wYes, wBM, wBM0, slot, allD, wipeS, List.map_cons, List.map_nil, List.set_cons_zero, List.set_cons_succ, List.cons_append, List.nil_append, List.isEmpty_nil, List.isEmpty_cons, Bool.not_true, Bool.not_false, wUn, dNot, dII0, dII, dEqS, dNeS, dIsN, dNotN, dNeg, ends, DL.gLt, DL.gLe, DL.gGt, DL.gGe, DL.gAdd, DL.gSub, DL.gMul, DL.gMod, DL.gDiv, DL.gPow]
    refine ⟨by decide, ?_⟩
    try dsimp only [wRet, wAnd, wOr, wUn, wOp, wCa, wCons, wNil, wVar, wC, wSeq, wNext, wPass, wAsg, wExp, wIf, wB, wIfE, wAndT, wOrT, wNotT, wTup, wLst, wSl, dSl, wNoP, wPart, wCall, wCallK, wCallO, wCallP, wDisp, wFrz, wGet1, wGet2, wPut, wNewT, wPar, wgName, wgTup, wgCons, wgNil, wgLst, wiT, wiL, wiR1, wiZip, wiEnu, wiEnuA, wChain, wYes, wBM, wBM0, slot, allD, wipeS, List.map_cons, List.map_nil, List.set_cons_zero, List.set_cons_succ, List.cons_append, List.nil_append, List.isEmpty_nil, List.isEmpty_cons, Bool.not_true, Bool.not_false, wUn, dNot, dII0, dII, dEqS, dNeS, dIsN, dNotN, dNeg, ends, DL.gLt, DL.gLe, DL.gGt, DL.gGe, DL.gAdd, DL.gSub, DL.gMul, DL.gMod, DL.gDiv, DL.gPow]
    refine ⟨.inr (by decide), ?_⟩
    try dsimp only [wRet, wAnd, wOr, wUn, wOp, wCa, wCons, wNil, wVar, wC, wSeq, wNext, wPass, wAsg, wExp, wIf, wB, wIfE, wAndT, wOrT, wNotT, wTup, wLst, wSl, dSl, wNoP, wPart, wCall, wCallK, wCallO, wCallP, wDisp, wFrz, wGet1, wGet2, wPut, wNewT, wPar, wgName, wgTup, wgCons, wgNil, wgLst, wiT, wiL, wiR1, wiZip, wiEnu, wiEnuA, wChain, wYes, wBM, wBM0, slot, allD, wipeS, List.map_cons, List.map_nil, List.set_cons_zero, List.set_cons_succ, List.cons_append, List.nil_append, List.isEmpty_nil, List.isEmpty_cons, Bool.not_true, Bool.not_false, wUn, dNot, dII0, dII, dEqS, dNeS, dIsN, dNotN, dNeg, ends, DL.gLt, DL.gLe, DL.gGt, DL.gGe, DL.gAdd, DL.gSub, DL.gMul, DL.gMod, DL.gDiv, DL.gPow]
    refine ⟨by decide, ?_⟩
    try dsimp only [wRet, wAnd, wOr, wUn, wOp, wCa, wCons, wNil, wVar, wC, wSeq, wNext, wPass, wAsg, wExp, wIf, wB, wIfE, wAndT, wOrT, wNotT, wTup, wLst, wSl, dSl, wNoP, wPart, wCall, wCallK, wCallO, wCallP, wDisp, wFrz, wGet1, wGet2, wPut, wNewT, wPar, wgName, wgTup, wgCons, wgNil, wgLst, wiT, wiL, wiR1, wiZip, wiEnu, wiEnuA, wChain, wYes, wBM, wBM0, slot, allD, wipeS, List.map_cons, List.map_nil, List.set_cons_zero, List.set_cons_succ, List.cons_append, List.nil_append, List.isEmpty_nil, List.isEmpty_cons, Bool.not_true, Bool.not_false, wUn, dNot, dII0, dII, dEqS, dNeS, dIsN, dNotN, dNeg, ends, DL.gLt, DL.gLe, DL.gGt, DL.gGe, DL.gAdd, DL.gSub, DL.gMul, DL.gMod, DL.gDiv, DL.gPow]
    refine ⟨⟨by decide, by decide⟩, ?_⟩
    try dsimp only [wRet, wAnd, wOr, wUn, wOp, wCa, wCons, wNil, wVar, wC, wSeq, wNext, wPass, wAsg, wExp, wIf, wB, wIfE, wAndT, wOrT, wNotT, wTup, wLst, wSl, dSl, wNoP, wPart, wCall, wCallK, wCallO, wCallP, wDisp, wFrz, wGet1, wGet2, wPut, wNewT, wPar, wgName, wgTup, wgCons, wgNil, wgLst, wiT, wiL, wiR1, wiZip, wiEnu, wiEnuA, wChain, wYes, wBM, wBM0, slot, allD, wipeS, List.map_cons, List.map_nil, List.set_cons_zero, List.set_cons_succ, List.cons_append, List.nil_append, List.isEmpty_nil, List.isEmpty_cons, Bool.not_true, Bool.not_false, wUn, dNot, dII0, dII, dEqS, dNeS, dIsN, dNotN, dNeg, ends, DL.gLt, DL.gLe, DL.gGt, DL.gGe, DL.gAdd, DL.gSub, DL.gMul, DL.gMod, DL.gDiv, DL.gPow]
    refine ⟨by omega, ?_⟩
    try dsimp only [wRet, wAnd, wOr, wUn, wOp, wCa, wCons, wNil, wVar, wC, wSeq, wNext, wPass, wAsg, wExp, wIf, wB, wIfE, wAndT, wOrT, wNotT, wTup, wLst, wSl, dSl, wNoP, wPart, wCall, wCallK, wCallO, wCallP, wDisp, wFrz, wGet1, wGet2, wPut, wNewT, wPar, wgName, wgTup, wgCons, wgNil, wgLst, wiT, wiL, wiR1, wiZip, wiEnu, wiEnuA, wChain, wYes, wBM, wBM0, slot, allD, wipeS, List.map_cons, List.map_nil, List.set_cons_zero, List.set_cons_succ, List.cons_append, List.nil_append, List.isEmpty_nil, List.isEmpty_cons, Bool.not_true, Bool.not_false, wUn, dNot, dII0, dII, dEqS, dNeS, dIsN, dNotN, dNeg, ends, DL.gLt, DL.gLe, DL.gGt, DL.gGe, DL.gAdd, DL.gSub, DL.gMul, DL.gMod, DL.gDiv, DL.gPow]
    exact stop _ [] _ _ _ hc
  · obtain ⟨c0, k, rfl⟩ := snoc_of hn
    rw [show ((c0 ++ [k]).map PyData.int).isEmpty = false by simp, Bool.not_false]
    try dsimp only [wRet, wAnd, wOr, wUn, wOp, wCa, wCons, wNil, wVar, wC, wSeq, wNext, wPass, wAsg, wExp, wIf, wB, wIfE, wAndT, wOrT, wNotT, wTup, wLst, wSl, dSl, wNoP, wPart, wCall, wCallK, wCallO, wCallP, wDisp, wFrz, wGet1, wGet2, wPut, wNewT, wPar, wgName, wgTup, wgCons, wgNil, wgLst, wiT, wiL, wiR1, wiZip, wiEnu, wiEnuA, wChain, wYes, wBM, wBM0, slot, allD, wipeS, List.map_cons, List.map_nil, List.set_cons_zero, List.set_cons_succ, List.cons_append, List.nil_append, List.isEmpty_nil, List.isEmpty_cons, Bool.not_true, Bool.not_false, wUn, dNot, dII0, dII, dEqS, dNeS, dIsN, dNotN, dNeg, ends, DL.gLt, DL.gLe, DL.gGt, DL.gGe, DL.gAdd, DL.gSub, DL.gMul, DL.gMod, DL.gDiv, DL.gPow]
    refine dg_cells ?_
    refine ⟨u_tyL (xs := ((c0 ++ [k]).map PyData.int).map .d) rfl, ?_⟩
    have hc0 : c0.length + 1 ≤ 63 := by simpa using hc
    refine u_pop (l := c0.map .int) (x := .int k) (by rw [← List.map_singleton (f := PyData.int), ← List.map_append]; rfl) ?_
    try dsimp only [wRet, wAnd, wOr, wUn, wOp, wCa, wCons, wNil, wVar, wC, wSeq, wNext, wPass, wAsg, wExp, wIf, wB, wIfE, wAndT, wOrT, wNotT, wTup, wLst, wSl, dSl, wNoP, wPart, wCall, wCallK, wCallO, wCallP, wDisp, wFrz, wGet1, wGet2, wPut, wNewT, wPar, wgName, wgTup, wgCons, wgNil, wgLst, wiT, wiL, wiR1, wiZip, wiEnu, wiEnuA, wChain, wYes, wBM, wBM0, slot, allD, wipeS, List.map_cons, List.map_nil, List.set_cons_zero, List.set_cons_succ, List.cons_append, List.nil_append, List.isEmpty_nil, List.isEmpty_cons, Bool.not_true, Bool.not_false, wUn, dNot, dII0, dII, dEqS, dNeS, dIsN, dNotN, dNeg, ends, DL.gLt, DL.gLe, DL.gGt, DL.gGe, DL.gAdd, DL.gSub, DL.gMul, DL.gMod, DL.gDiv, DL.gPow]
    refine ⟨⟨by decide, by decide, by decide⟩, ?_⟩
    try dsimp only [wRet, wAnd, wOr, wUn, wOp, wCa, wCons, wNil, wVar, wC, wSeq, wNext, wPass, wAsg, wExp, wIf, wB, wIfE, wAndT, wOrT, wNotT, wTup, wLst, wSl, dSl, wNoP, wPart, wCall, wCallK, wCallO, wCallP, wDisp, wFrz, wGet1, wGet2, wPut, wNewT, wPar, wgName, wgTup, wgCons, wgNil, wgLst, wiT, wiL, wiR1, wiZip, wiEnu, wiEnuA, wChain, wYes, wBM, wBM0, slot, allD, wipeS, List.map_cons, List.map_nil, List.set_cons_zero, List.set_cons_succ, List.cons_append, List.nil_append, List.isEmpty_nil, List.isEmpty_cons, Bool.not_true, Bool.not_false, wUn, dNot, dII0, dII, dEqS, dNeS, dIsN, dNotN, dNeg, ends, DL.gLt, DL.gLe, DL.gGt, DL.gGe, DL.gAdd, DL.gSub, DL.gMul, DL.gMod, DL.gDiv, DL.gPow]
    have he : ∀ (M D : Int) (C : OB), deckO M D :: OB.lst ((c0.map PyData.int).map .d) :: [OB.lst []] = [deckO M D, cellsO c0, OB.lst []] := fun _ _ _ => rfl
    rw [he _ _ (cellsO c0)]
    by_cases hb : (10 : Int) ^ (Int.toNat 18) ≤ k
    · rw [decide_eq_true hb]
      try dsimp only [wRet, wAnd, wOr, wUn, wOp, wCa, wCons, wNil, wVar, wC, wSeq, wNext, wPass, wAsg, wExp, wIf, wB, wIfE, wAndT, wOrT, wNotT, wTup, wLst, wSl, dSl, wNoP, wPart, wCall, wCallK, wCallO, wCallP, wDisp, wFrz, wGet1, wGet2, wPut, wNewT, wPar, wgName, wgTup, wgCons, wgNil, wgLst, wiT, wiL, wiR1, wiZip, wiEnu, wiEnuA, wChain, wYes, wBM, wBM0, slot, allD, wipeS, List.map_cons, List.map_nil, List.set_cons_zero, List.set_cons_succ, List.cons_append, List.nil_append, List.isEmpty_nil, List.isEmpty_cons, Bool.not_true, Bool.not_false, wUn, dNot, dII0, dII, dEqS, dNeS, dIsN, dNotN, dNeg, ends, DL.gLt, DL.gLe, DL.gGt, DL.gGe, DL.gAdd, DL.gSub, DL.gMul, DL.gMod, DL.gDiv, DL.gPow]
      refine dg_cells ?_
      refine ⟨u_tyL (xs := (c0.map PyData.int).map .d) rfl, ?_⟩
      try dsimp only [wRet, wAnd, wOr, wUn, wOp, wCa, wCons, wNil, wVar, wC, wSeq, wNext, wPass, wAsg, wExp, wIf, wB, wIfE, wAndT, wOrT, wNotT, wTup, wLst, wSl, dSl, wNoP, wPart, wCall, wCallK, wCallO, wCallP, wDisp, wFrz, wGet1, wGet2, wPut, wNewT, wPar, wgName, wgTup, wgCons, wgNil, wgLst, wiT, wiL, wiR1, wiZip, wiEnu, wiEnuA, wChain, wYes, wBM, wBM0, slot, allD, wipeS, List.map_cons, List.map_nil, List.set_cons_zero, List.set_cons_succ, List.cons_append, List.nil_append, List.isEmpty_nil, List.isEmpty_cons, Bool.not_true, Bool.not_false, wUn, dNot, dII0, dII, dEqS, dNeS, dIsN, dNotN, dNeg, ends, DL.gLt, DL.gLe, DL.gGt, DL.gGe, DL.gAdd, DL.gSub, DL.gMul, DL.gMod, DL.gDiv, DL.gPow]
      try unfold dMax
      try dsimp only [wRet, wAnd, wOr, wUn, wOp, wCa, wCons, wNil, wVar, wC, wSeq, wNext, wPass, wAsg, wExp, wIf, wB, wIfE, wAndT, wOrT, wNotT, wTup, wLst, wSl, dSl, wNoP, wPart, wCall, wCallK, wCallO, wCallP, wDisp, wFrz, wGet1, wGet2, wPut, wNewT, wPar, wgName, wgTup, wgCons, wgNil, wgLst, wiT, wiL, wiR1, wiZip, wiEnu, wiEnuA, wChain, wYes, wBM, wBM0, slot, allD, wipeS, List.map_cons, List.map_nil, List.set_cons_zero, List.set_cons_succ, List.cons_append, List.nil_append, List.isEmpty_nil, List.isEmpty_cons, Bool.not_true, Bool.not_false, wUn, dNot, dII0, dII, dEqS, dNeS, dIsN, dNotN, dNeg, ends, DL.gLt, DL.gLe, DL.gGt, DL.gGe, DL.gAdd, DL.gSub, DL.gMul, DL.gMod, DL.gDiv, DL.gPow]
      refine ⟨⟨by omega, by omega⟩, ?_⟩
      refine u_app (l := c0.map .int) rfl (by rw [List.length_map]; exact small1000 (by omega)) ?_
      try dsimp only [wRet, wAnd, wOr, wUn, wOp, wCa, wCons, wNil, wVar, wC, wSeq, wNext, wPass, wAsg, wExp, wIf, wB, wIfE, wAndT, wOrT, wNotT, wTup, wLst, wSl, dSl, wNoP, wPart, wCall, wCallK, wCallO, wCallP, wDisp, wFrz, wGet1, wGet2, wPut, wNewT, wPar, wgName, wgTup, wgCons, wgNil, wgLst, wiT, wiL, wiR1, wiZip, wiEnu, wiEnuA, wChain, wYes, wBM, wBM0, slot, allD, wipeS, List.map_cons, List.map_nil, List.set_cons_zero, List.set_cons_succ, List.cons_append, List.nil_append, List.isEmpty_nil, List.isEmpty_cons, Bool.not_true, Bool.not_false, wUn, dNot, dII0, dII, dEqS, dNeS, dIsN, dNotN, dNeg, ends, DL.gLt, DL.gLe, DL.gGt, DL.gGe, DL.gAdd, DL.gSub, DL.gMul, DL.gMod, DL.gDiv, DL.gPow]
      try unfold dInt
      try dsimp only [wRet, wAnd, wOr, wUn, wOp, wCa, wCons, wNil, wVar, wC, wSeq, wNext, wPass, wAsg, wExp, wIf, wB, wIfE, wAndT, wOrT, wNotT, wTup, wLst, wSl, dSl, wNoP, wPart, wCall, wCallK, wCallO, wCallP, wDisp, wFrz, wGet1, wGet2, wPut, wNewT, wPar, wgName, wgTup, wgCons, wgNil, wgLst, wiT, wiL, wiR1, wiZip, wiEnu, wiEnuA, wChain, wYes, wBM, wBM0, slot, allD, wipeS, List.map_cons, List.map_nil, List.set_cons_zero, List.set_cons_succ, List.cons_append, List.nil_append, List.isEmpty_nil, List.isEmpty_cons, Bool.not_true, Bool.not_false, wUn, dNot, dII0, dII, dEqS, dNeS, dIsN, dNotN, dNeg, ends, DL.gLt, DL.gLe, DL.gGt, DL.gGe, DL.gAdd, DL.gSub, DL.gMul, DL.gMod, DL.gDiv, DL.gPow]
      refine ⟨by omega, ?_⟩
      try dsimp only [wRet, wAnd, wOr, wUn, wOp, wCa, wCons, wNil, wVar, wC, wSeq, wNext, wPass, wAsg, wExp, wIf, wB, wIfE, wAndT, wOrT, wNotT, wTup, wLst, wSl, dSl, wNoP, wPart, wCall, wCallK, wCallO, wCallP, wDisp, wFrz, wGet1, wGet2, wPut, wNewT, wPar, wgName, wgTup, wgCons, wgNil, wgLst, wiT, wiL, wiR1, wiZip, wiEnu, wiEnuA, wChain, wYes, wBM, wBM0, slot, allD, wipeS, List.map_cons, List.map_nil, List.set_cons_zero, List.set_cons_succ, List.cons_append, List.nil_append, List.isEmpty_nil, List.isEmpty_cons, Bool.not_true, Bool.not_false, wUn, dNot, dII0, dII, dEqS, dNeS, dIsN, dNotN, dNeg, ends, DL.gLt, DL.gLe, DL.gGt, DL.gGe, DL.gAdd, DL.gSub, DL.gMul, DL.gMod, DL.gDiv, DL.gPow]
      rw [cells_snoc]
      exact stop _ _ _ _ _ (by rw [List.length_append]; exact hc0)
    · rw [decide_eq_false hb]
      try dsimp only [wRet, wAnd, wOr, wUn, wOp, wCa, wCons, wNil, wVar, wC, wSeq, wNext, wPass, wAsg, wExp, wIf, wB, wIfE, wAndT, wOrT, wNotT, wTup, wLst, wSl, dSl, wNoP, wPart, wCall, wCallK, wCallO, wCallP, wDisp, wFrz, wGet1, wGet2, wPut, wNewT, wPar, wgName, wgTup, wgCons, wgNil, wgLst, wiT, wiL, wiR1, wiZip, wiEnu, wiEnuA, wChain, wYes, wBM, wBM0, slot, allD, wipeS, List.map_cons, List.map_nil, List.set_cons_zero, List.set_cons_succ, List.cons_append, List.nil_append, List.isEmpty_nil, List.isEmpty_cons, Bool.not_true, Bool.not_false, wUn, dNot, dII0, dII, dEqS, dNeS, dIsN, dNotN, dNeg, ends, DL.gLt, DL.gLe, DL.gGt, DL.gGe, DL.gAdd, DL.gSub, DL.gMul, DL.gMod, DL.gDiv, DL.gPow]
      try unfold dInt
      try dsimp only [wRet, wAnd, wOr, wUn, wOp, wCa, wCons, wNil, wVar, wC, wSeq, wNext, wPass, wAsg, wExp, wIf, wB, wIfE, wAndT, wOrT, wNotT, wTup, wLst, wSl, dSl, wNoP, wPart, wCall, wCallK, wCallO, wCallP, wDisp, wFrz, wGet1, wGet2, wPut, wNewT, wPar, wgName, wgTup, wgCons, wgNil, wgLst, wiT, wiL, wiR1, wiZip, wiEnu, wiEnuA, wChain, wYes, wBM, wBM0, slot, allD, wipeS, List.map_cons, List.map_nil, List.set_cons_zero, List.set_cons_succ, List.cons_append, List.nil_append, List.isEmpty_nil, List.isEmpty_cons, Bool.not_true, Bool.not_false, wUn, dNot, dII0, dII, dEqS, dNeS, dIsN, dNotN, dNeg, ends, DL.gLt, DL.gLe, DL.gGt, DL.gGe, DL.gAdd, DL.gSub, DL.gMul, DL.gMod, DL.gDiv, DL.gPow]
      refine ⟨by decide, ?_⟩
      try dsimp only [wRet, wAnd, wOr, wUn, wOp, wCa, wCons, wNil, wVar, wC, wSeq, wNext, wPass, wAsg, wExp, wIf, wB, wIfE, wAndT, wOrT, wNotT, wTup, wLst, wSl, dSl, wNoP, wPart, wCall, wCallK, wCallO, wCallP, wDisp, wFrz, wGet1, wGet2, wPut, wNewT, wPar, wgName, wgTup, wgCons, wgNil, wgLst, wiT, wiL, wiR1, wiZip, wiEnu, wiEnuA, wChain, wYes, wBM, wBM0, slot, allD, wipeS, List.map_cons, List.map_nil, List.set_cons_zero, List.set_cons_succ, List.cons_append, List.nil_append, List.isEmpty_nil, List.isEmpty_cons, Bool.not_true, Bool.not_false, wUn, dNot, dII0, dII, dEqS, dNeS, dIsN, dNotN, dNeg, ends, DL.gLt, DL.gLe, DL.gGt, DL.gGe, DL.gAdd, DL.gSub, DL.gMul, DL.gMod, DL.gDiv, DL.gPow]
      refine ⟨.inr (by decide), ?_⟩
      try dsimp only [wRet, wAnd, wOr, wUn, wOp, wCa, wCons, wNil, wVar, wC, wSeq, wNext, wPass, wAsg, wExp, wIf, wB, wIfE, wAndT, wOrT, wNotT, wTup, wLst, wSl, dSl, wNoP, wPart, wCall, wCallK, wCallO, wCallP, wDisp, wFrz, wGet1, wGet2, wPut, wNewT, wPar, wgName, wgTup, wgCons, wgNil, wgLst, wiT, wiL, wiR1, wiZip, wiEnu, wiEnuA, wChain, wYes, wBM, wBM0, slot, allD, wipeS, List.map_cons, List.map_nil, List.set_cons_zero, List.set_cons_succ, List.cons_append, List.nil_append, List.isEmpty_nil, List.isEmpty_cons, Bool.not_true, Bool.not_false, wUn, dNot, dII0, dII, dEqS, dNeS, dIsN, dNotN, dNeg, ends, DL.gLt, DL.gLe, DL.gGt, DL.gGe, DL.gAdd, DL.gSub, DL.gMul, DL.gMod, DL.gDiv, DL.gPow]
      try unfold dInt
      try dsimp only [wRet, wAnd, wOr, wUn, wOp, wCa, wCons, wNil, wVar, wC, wSeq, wNext, wPass, wAsg, wExp, wIf, wB, wIfE, wAndT, wOrT, wNotT, wTup, wLst, wSl, dSl, wNoP, wPart, wCall, wCallK, wCallO, wCallP, wDisp, wFrz, wGet1, wGet2, wPut, wNewT, wPar, wgName, wgTup, wgCons, wgNil, wgLst, wiT, wiL, wiR1, wiZip, wiEnu, wiEnuA, wChain, wYes, wBM, wBM0, slot, allD, wipeS, List.map_cons, List.map_nil, List.set_cons_zero, List.set_cons_succ, List.cons_append, List.nil_append, List.isEmpty_nil, List.isEmpty_cons, Bool.not_true, Bool.not_false, wUn, dNot, dII0, dII, dEqS, dNeS, dIsN, dNotN, dNeg, ends, DL.gLt, DL.gLe, DL.gGt, DL.gGe, DL.gAdd, DL.gSub, DL.gMul, DL.gMod, DL.gDiv, DL.gPow]
      refine ⟨by decide, ?_⟩
      try dsimp only [wRet, wAnd, wOr, wUn, wOp, wCa, wCons, wNil, wVar, wC, wSeq, wNext, wPass, wAsg, wExp, wIf, wB, wIfE, wAndT, wOrT, wNotT, wTup, wLst, wSl, dSl, wNoP, wPart, wCall, wCallK, wCallO, wCallP, wDisp, wFrz, wGet1, wGet2, wPut, wNewT, wPar, wgName, wgTup, wgCons, wgNil, wgLst, wiT, wiL, wiR1, wiZip, wiEnu, wiEnuA, wChain, wYes, wBM, wBM0, slot, allD, wipeS, List.map_cons, List.map_nil, List.set_cons_zero, List.set_cons_succ, List.cons_append, List.nil_append, List.isEmpty_nil, List.isEmpty_cons, Bool.not_true, Bool.not_false, wUn, dNot, dII0, dII, dEqS, dNeS, dIsN, dNotN, dNeg, ends, DL.gLt, DL.gLe, DL.gGt, DL.gGe, DL.gAdd, DL.gSub, DL.gMul, DL.gMod, DL.gDiv, DL.gPow]
      refine ⟨.inl (by omega), ?_⟩
      try dsimp only [wRet, wAnd, wOr, wUn, wOp, wCa, wCons, wNil, wVar, wC, wSeq, wNext, wPass, wAsg, wExp, wIf, wB, wIfE, wAndT, wOrT, wNotT, wTup, wLst, wSl, dSl, wNoP, wPart, wCall, wCallK, wCallO, wCallP, wDisp, wFrz, wGet1, wGet2, wPut, wNewT, wPar, wgName, wgTup, wgCons, wgNil, wgLst, wiT, wiL, wiR1, wiZip, wiEnu, wiEnuA, wChain, wYes, wBM, wBM0, slot, allD, wipeS, List.map_cons, List.map_nil, List.set_cons_zero, List.set_cons_succ, List.cons_append, List.nil_append, List.isEmpty_nil, List.isEmpty_cons, Bool.not_true, Bool.not_false, wUn, dNot, dII0, dII, dEqS, dNeS, dIsN, dNotN, dNeg, ends, DL.gLt, DL.gLe, DL.gGt, DL.gGe, DL.gAdd, DL.gSub, DL.gMul, DL.gMod, DL.gDiv, DL.gPow]
      refine dg_draws ?_
      try dsimp only [wRet, wAnd, wOr, wUn, wOp, wCa, wCons, wNil, wVar, wC, wSeq, wNext, wPass, wAsg, wExp, wIf, wB, wIfE, wAndT, wOrT, wNotT, wTup, wLst, wSl, dSl, wNoP, wPart, wCall, wCallK, wCallO, wCallP, wDisp, wFrz, wGet1, wGet2, wPut, wNewT, wPar, wgName, wgTup, wgCons, wgNil, wgLst, wiT, wiL, wiR1, wiZip, wiEnu, wiEnuA, wChain, wYes, wBM, wBM0, slot, allD, wipeS, List.map_cons, List.map_nil, List.set_cons_zero, List.set_cons_succ, List.cons_append, List.nil_append, List.isEmpty_nil, List.isEmpty_cons, Bool.not_true, Bool.not_false, wUn, dNot, dII0, dII, dEqS, dNeS, dIsN, dNotN, dNeg, ends, DL.gLt, DL.gLe, DL.gGt, DL.gGe, DL.gAdd, DL.gSub, DL.gMul, DL.gMod, DL.gDiv, DL.gPow]
      refine ⟨.inl (by decide), ?_⟩
      try dsimp only [wRet, wAnd, wOr, wUn, wOp, wCa, wCons, wNil, wVar, wC, wSeq, wNext, wPass, wAsg, wExp, wIf, wB, wIfE, wAndT, wOrT, wNotT, wTup, wLst, wSl, dSl, wNoP, wPart, wCall, wCallK, wCallO, wCallP, wDisp, wFrz, wGet1, wGet2, wPut, wNewT, wPar, wgName, wgTup, wgCons, wgNil, wgLst, wiT, wiL, wiR1, wiZip, wiEnu, wiEnuA, wChain, wYes, wBM, wBM0, slot, allD, wipeS, List.map_cons, List.map_nil, List.set_cons_zero, List.set_cons_succ, List.cons_append, List.nil_append, List.isEmpty_nil, List.isEmpty_cons, Bool.not_true, Bool.not_false, wUn, dNot, dII0, dII, dEqS, dNeS, dIsN, dNotN, dNeg, ends, DL.gLt, DL.gLe, DL.gGt, DL.gGe, DL.gAdd, DL.gSub, DL.gMul, DL.gMod, DL.gDiv, DL.gPow]
      refine ⟨by decide, ?_⟩
      try dsimp only [wRet, wAnd, wOr, wUn, wOp, wCa, wCons, wNil, wVar, wC, wSeq, wNext, wPass, wAsg, wExp, wIf, wB, wIfE, wAndT, wOrT, wNotT, wTup, wLst, wSl, dSl, wNoP, wPart, wCall, wCallK, wCallO, wCallP, wDisp, wFrz, wGet1, wGet2, wPut, wNewT, wPar, wgName, wgTup, wgCons, wgNil, wgLst, wiT, wiL, wiR1, wiZip, wiEnu, wiEnuA, wChain, wYes, wBM, wBM0, slot, allD, wipeS, List.map_cons, List.map_nil, List.set_cons_zero, List.set_cons_succ, List.cons_append, List.nil_append, List.isEmpty_nil, List.isEmpty_cons, Bool.not_true, Bool.not_false, wUn, dNot, dII0, dII, dEqS, dNeS, dIsN, dNotN, dNeg, ends, DL.gLt, DL.gLe, DL.gGt, DL.gGe, DL.gAdd, DL.gSub, DL.gMul, DL.gMod, DL.gDiv, DL.gPow]
      refine ⟨.inr (by decide), ?_⟩
      try dsimp only [wRet, wAnd, wOr, wUn, wOp, wCa, wCons, wNil, wVar, wC, wSeq, wNext, wPass, wAsg, wExp, wIf, wB, wIfE, wAndT, wOrT, wNotT, wTup, wLst, wSl, dSl, wNoP, wPart, wCall, wCallK, wCallO, wCallP, wDisp, wFrz, wGet1, wGet2, wPut, wNewT, wPar, wgName, wgTup, wgCons, wgNil, wgLst, wiT, wiL, wiR1, wiZip, wiEnu, wiEnuA, wChain, wYes, wBM, wBM0, slot, allD, wipeS, List.map_cons, List.map_nil, List.set_cons_zero, List.set_cons_succ, List.cons_append, List.nil_append, List.isEmpty_nil, List.isEmpty_cons, Bool.not_true, Bool.not_false, wUn, dNot, dII0, dII, dEqS, dNeS, dIsN, dNotN, dNeg, ends, DL.gLt, DL.gLe, DL.gGt, DL.gGe, DL.gAdd, DL.gSub, DL.gMul, DL.gMod, DL.gDiv, DL.gPow]
      refine ⟨by decide, ?_⟩
      try dsimp only [wRet, wAnd, wOr, wUn, wOp, wCa, wCons, wNil, wVar, wC, wSeq, wNext, wPass, wAsg, wExp, wIf, wB, wIfE, wAndT, wOrT, wNotT, wTup, wLst, wSl, dSl, wNoP, wPart, wCall, wCallK, wCallO, wCallP, wDisp, wFrz, wGet1, wGet2, wPut, wNewT, wPar, wgName, wgTup, wgCons, wgNil, wgLst, wiT, wiL, wiR1, wiZip, wiEnu, wiEnuA, wChain, wYes, wBM, wBM0, slot, allD, wipeS, List.map_cons, List.map_nil, List.set_cons_zero, List.set_cons_succ, List.cons_append, List.nil_append, List.isEmpty_nil, List.isEmpty_cons, Bool.not_true, Bool.not_false, wUn, dNot, dII0, dII, dEqS, dNeS, dIsN, dNotN, dNeg, ends, DL.gLt, DL.gLe, DL.gGt, DL.gGe, DL.gAdd, DL.gSub, DL.gMul, DL.gMod, DL.gDiv, DL.gPow]
      refine ⟨⟨by decide, by decide⟩, ?_⟩
      try dsimp only [wRet, wAnd, wOr, wUn, wOp, wCa, wCons, wNil, wVar, wC, wSeq, wNext, wPass, wAsg, wExp, wIf, wB, wIfE, wAndT, wOrT, wNotT, wTup, wLst, wSl, dSl, wNoP, wPart, wCall, wCallK, wCallO, wCallP, wDisp, wFrz, wGet1, wGet2, wPut, wNewT, wPar, wgName, wgTup, wgCons, wgNil, wgLst, wiT, wiL, wiR1, wiZip, wiEnu, wiEnuA, wChain, wYes, wBM, wBM0, slot, allD, wipeS, List.map_cons, List.map_nil, List.set_cons_zero, List.set_cons_succ, List.cons_append, List.nil_append, List.isEmpty_nil, List.isEmpty_cons, Bool.not_true, Bool.not_false, wUn, dNot, dII0, dII, dEqS, dNeS, dIsN, dNotN, dNeg, ends, DL.gLt, DL.gLe, DL.gGt, DL.gGe, DL.gAdd, DL.gSub, DL.gMul, DL.gMod, DL.gDiv, DL.gPow]
      refine ⟨by omega, ?_⟩
      try dsimp only [wRet, wAnd, wOr, wUn, wOp, wCa, wCons, wNil, wVar, wC, wSeq, wNext, wPass, wAsg, wExp, wIf, wB, wIfE, wAndT, wOrT, wNotT, wTup, wLst, wSl, dSl, wNoP, wPart, wCall, wCallK, wCallO, wCallP, wDisp, wFrz, wGet1, wGet2, wPut, wNewT, wPar, wgName, wgTup, wgCons, wgNil, wgLst, wiT, wiL, wiR1, wiZip, wiEnu, wiEnuA, wChain, wYes, wBM, wBM0, slot, allD, wipeS, List.map_cons, List.map_nil, List.set_cons_zero, List.set_cons_succ, List.cons_append, List.nil_append, List.isEmpty_nil, List.isEmpty_cons, Bool.not_true, Bool.not_false, wUn, dNot, dII0, dII, dEqS, dNeS, dIsN, dNotN, dNeg, ends, DL.gLt, DL.gLe, DL.gGt, DL.gGe, DL.gAdd, DL.gSub, DL.gMul, DL.gMod, DL.gDiv, DL.gPow]
      exact stop _ _ _ _ _ (by omega)
def sp_law_pick : DSp := dkS 1 (fun ds => ∃ xs : List PyData, (ds = [.tuple xs] ∨ ds = [.list xs]) ∧ 1 ≤ xs.length ∧ xs.length ≤ 1000) (fun ds y => ∃ xs : List PyData, (ds = [.tuple xs] ∨ ds = [.list xs]) ∧ y ∈ xs)
theorem at_mem {xs : List PyData} {r : Int} (h0 : 0 ≤ r) (h1 : r < (xs.length : Nat)) : ∃ z, atI xs r = some z ∧ z ∈ xs := by
  have hr : r.toNat < xs.length := by omega
  refine ⟨xs[r.toNat], ?_, List.getElem_mem hr⟩
  have := atI_nat (xs := xs) (j := r.toNat) (List.getElem?_eq_getElem hr)
  rwa [Int.toNat_of_nonneg h0] at this
theorem ok_law_pick {P : Program} {w0 : World} {K : PySem.W.Frag} {mg : Str → Option Value} {base : Heap} (b : BI mg) (h : Hd K mg "_law_pick" s_law_pick nP_law_pick) (c_law_draw : DefG P w0 K mg base 1 "_law_draw" s_law_draw nP_law_draw sp_law_draw) : DefG P w0 K mg base 2 "_law_pick" s_law_pick nP_law_pick sp_law_pick := by
  refine mk_def h sc_law_pick dkS_len (pdss_one (pds_ret (pd_ix (pd_var 1) (pd_call 2 (c_law_draw.to) rfl (pda_cons (pd_var 0) (pda_cons (pd_len rfl b.len (pda_cons (pd_var 1) pda_nil)) pda_nil)))))) ?_
  rintro dvs ob R X ⟨ds, c, m, d, rfl, hl, ⟨xs, hx, h1, h2⟩, hc, rfl, hR⟩ sl e1
  rcases hx with rfl | rfl
  · have e1 : [some (.o 0), some (.d (.tuple xs))] = sl := e1
    subst e1
    try dsimp only [wRet, wAnd, wOr, wUn, wOp, wCa, wCons, wNil, wVar, wC, wSeq, wNext, wPass, wAsg, wExp, wIf, wB, wIfE, wAndT, wOrT, wNotT, wTup, wLst, wSl, dSl, wNoP, wPart, wCall, wCallK, wCallO, wCallP, wDisp, wFrz, wGet1, wGet2, wPut, wNewT, wPar, wgName, wgTup, wgCons, wgNil, wgLst, wiT, wiL, wiR1, wiZip, wiEnu, wiEnuA, wChain, wYes, wBM, wBM0, slot, allD, wipeS, List.map_cons, List.map_nil, List.set_cons_zero, List.set_cons_succ, List.cons_append, List.nil_append, List.isEmpty_nil, List.isEmpty_cons, Bool.not_true, Bool.not_false, wUn, dNot, dII0, dII, dEqS, dNeS, dIsN, dNotN, dNeg, ends, DL.gLt, DL.gLe, DL.gGt, DL.gGe, DL.gAdd, DL.gSub, DL.gMul, DL.gMod, DL.gDiv, DL.gPow]
    refine u_len ?_
    refine call_dk [.int (xs.length : Nat)] rfl ⟨_, rfl, by omega, by omega⟩ hc fun y c' m' d' hv hc' => ?_
    obtain ⟨n, r, e, rfl, h0, h3⟩ := hv
    injection e with e
    injection e with e
    subst e
    obtain ⟨z, hz, hm⟩ := at_mem h0 h3
    exact u_ix hz (hR z c' m' d' [] ⟨xs, .inl rfl, hm⟩ hc')
  · have e1 : [some (.o 0), some (.d (.list xs))] = sl := e1
    subst e1
    try dsimp only [wRet, wAnd, wOr, wUn, wOp, wCa, wCons, wNil, wVar, wC, wSeq, wNext, wPass, wAsg, wExp, wIf, wB, wIfE, wAndT, wOrT, wNotT, wTup, wLst, wSl, dSl, wNoP, wPart, wCall, wCallK, wCallO, wCallP, wDisp, wFrz, wGet1, wGet2, wPut, wNewT, wPar, wgName, wgTup, wgCons, wgNil, wgLst, wiT, wiL, wiR1, wiZip, wiEnu, wiEnuA, wChain, wYes, wBM, wBM0, slot, allD, wipeS, List.map_cons, List.map_nil, List.set_cons_zero, List.set_cons_succ, List.cons_append, List.nil_append, List.isEmpty_nil, List.isEmpty_cons, Bool.not_true, Bool.not_false, wUn, dNot, dII0, dII, dEqS, dNeS, dIsN, dNotN, dNeg, ends, DL.gLt, DL.gLe, DL.gGt, DL.gGe, DL.gAdd, DL.gSub, DL.gMul, DL.gMod, DL.gDiv, DL.gPow]
    refine u_lenL ?_
    refine call_dk [.int (xs.length : Nat)] rfl ⟨_, rfl, by omega, by omega⟩ hc fun y c' m' d' hv hc' => ?_
    obtain ⟨n, r, e, rfl, h0, h3⟩ := hv
    injection e with e
    injection e with e
    subst e
    obtain ⟨z, hz, hm⟩ := at_mem h0 h3
    exact u_ixL hz (hR z c' m' d' [] ⟨xs, .inr rfl, hm⟩ hc')
end K02
end

section
set_option Elab.async false
set_option linter.all false
set_option maxRecDepth 100000
set_option maxHeartbeats 1000000
set_option autoImplicit false
namespace K02
open PySem PySem.Spec PyProof.Rows L2 DL
theorem erase_perm {α : Type} : ∀ {l : List α} {n : Nat} (h : n < l.length), (l[n] :: l.eraseIdx n).Perm l
  | x :: r, 0, _ => .refl _
  | x :: r, n + 1, h => (List.Perm.swap x (r[n]'(Nat.lt_of_succ_lt_succ h)) (r.eraseIdx n)).trans ((erase_perm (l := r) (Nat.lt_of_succ_lt_succ h)).cons x)
def sp_law_order : DSp := dkS 1 (fun ds => ∃ n : Int, ds = [.int n] ∧ 0 ≤ n ∧ n ≤ 1000) (fun ds y => ∃ (n : Int) (p : List PyData), ds = [.int n] ∧ y = .tuple p ∧ p.Perm (rng 0 n.toNat))
theorem ok_law_order {P : Program} {w0 : World} {K : PySem.W.Frag} {mg : Str → Option Value} {base : Heap} (b : BI mg) (h : Hd K mg "_law_order" s_law_order nP_law_order) (c_law_draw : DefG P w0 K mg base 1 "_law_draw" s_law_draw nP_law_draw sp_law_draw) : DefG P w0 K mg base 2 "_law_order" s_law_order nP_law_order sp_law_order := by
  refine mk_def h sc_law_order dkS_len (pdss_cons (pds_par 2 3 (pda_cons (pd_listRg (pd_var 1) rfl b.range rfl b.list_) (pda_cons (pd_lst pda_nil) pda_nil)) (hw := (fun env e => by cases env; cases e; rfl)))
  (pdss_cons (pds_for (pdi_range1 (pda_cons (pd_var 1) pda_nil) rfl b.range) (pdg_name 4) (pdss_one (pds_expr (pd_append (pd_var 3) (pda_cons (pd_popAt (pd_var 2) (pda_cons (pd_call 2 (c_law_draw.to) rfl (pda_cons (pd_var 0) (pda_cons (pd_len rfl b.len (pda_cons (pd_var 2) pda_nil)) pda_nil))) pda_nil)) pda_nil)))))
  (pdss_one (pds_ret (pd_tuple rfl b.tuple_ (pda_cons (pd_var 3) pda_nil)))))) ?_
  rintro dvs ob R X ⟨ds, c, m, d, rfl, hl, ⟨n, rfl, h1, h2⟩, hc, rfl, hR⟩ sl e1
  have e1 : [some (.o 0), some (.d (.int n)), none, none, none] = sl := e1
  subst e1
  try dsimp only [wRet, wAnd, wOr, wUn, wOp, wCa, wCons, wNil, wVar, wC, wSeq, wNext, wPass, wAsg, wExp, wIf, wB, wIfE, wAndT, wOrT, wNotT, wTup, wLst, wSl, dSl, wNoP, wPart, wCall, wCallK, wCallO, wCallP, wDisp, wFrz, wGet1, wGet2, wPut, wNewT, wPar, wgName, wgTup, wgCons, wgNil, wgLst, wiT, wiL, wiR1, wiZip, wiEnu, wiEnuA, wChain, wYes, wBM, wBM0, slot, allD, wipeS, List.map_cons, List.map_nil, List.set_cons_zero, List.set_cons_succ, List.cons_append, List.nil_append, List.isEmpty_nil, List.isEmpty_cons, Bool.not_true, Bool.not_false, wUn, dNot, dII0, dII, dEqS, dNeS, dIsN, dNotN, dNeg, ends, DL.gLt, DL.gLe, DL.gGt, DL.gGe, DL.gAdd, DL.gSub, DL.gMul, DL.gMod, DL.gDiv, DL.gPow]
  refine ⟨⟨by omega, by omega, by omega, by omega, by omega⟩, ?_⟩
  refine ⟨Nat.zero_le _, ?_⟩
  try dsimp only [wRet, wAnd, wOr, wUn, wOp, wCa, wCons, wNil, wVar, wC, wSeq, wNext, wPass, wAsg, wExp, wIf, wB, wIfE, wAndT, wOrT, wNotT, wTup, wLst, wSl, dSl, wNoP, wPart, wCall, wCallK, wCallO, wCallP, wDisp, wFrz, wGet1, wGet2, wPut, wNewT, wPar, wgName, wgTup, wgCons, wgNil, wgLst, wiT, wiL, wiR1, wiZip, wiEnu, wiEnuA, wChain, wYes, wBM, wBM0, slot, allD, wipeS, List.map_cons, List.map_nil, List.set_cons_zero, List.set_cons_succ, List.cons_append, List.nil_append, List.isEmpty_nil, List.isEmpty_cons, Bool.not_true, Bool.not_false, wUn, dNot, dII0, dII, dEqS, dNeS, dIsN, dNotN, dNeg, ends, DL.gLt, DL.gLe, DL.gGt, DL.gGe, DL.gAdd, DL.gSub, DL.gMul, DL.gMod, DL.gDiv, DL.gPow]
  refine for_in (rng 0 n.toNat) ⟨[some (.o 0), some (.d (.int n)), some (.o 2), some (.o 3), none], [deckO m d, cellsO c, .lst ((rng 0 n.toNat).map .d), .lst []]⟩
    (fun i ρ' => ∃ (c' : List Int) (m' d' : Int) (l f : List PyData) (t : Option DV), c'.length ≤ 63 ∧ ρ' = ⟨[some (.o 0), some (.d (.int n)), some (.o 2), some (.o 3), t], [deckO m' d', cellsO c', .lst (l.map .d), .lst (f.map .d)]⟩ ∧ (f ++ l).Perm (rng 0 n.toNat) ∧ f.length = i)
    (fun C h => ⟨by unfold RgB; omega, h⟩) ⟨c, m, d, _, [], none, hc, rfl, .refl _, rfl⟩ ?_ ?_
  · rintro i x ρ' hx ⟨c', m', d', l, f, t, hc', rfl, hp, hf⟩
    have hi : i < n.toNat := by
      have := (List.getElem?_eq_some_iff.mp hx).1
      rwa [rng_len] at this
    have hlen : f.length + l.length = n.toNat := by
      have := hp.length_eq
      rwa [List.length_append, rng_len] at this
    try dsimp only [wRet, wAnd, wOr, wUn, wOp, wCa, wCons, wNil, wVar, wC, wSeq, wNext, wPass, wAsg, wExp, wIf, wB, wIfE, wAndT, wOrT, wNotT, wTup, wLst, wSl, dSl, wNoP, wPart, wCall, wCallK, wCallO, wCallP, wDisp, wFrz, wGet1, wGet2, wPut, wNewT, wPar, wgName, wgTup, wgCons, wgNil, wgLst, wiT, wiL, wiR1, wiZip, wiEnu, wiEnuA, wChain, wYes, wBM, wBM0, slot, allD, wipeS, List.map_cons, List.map_nil, List.set_cons_zero, List.set_cons_succ, List.cons_append, List.nil_append, List.isEmpty_nil, List.isEmpty_cons, Bool.not_true, Bool.not_false, wUn, dNot, dII0, dII, dEqS, dNeS, dIsN, dNotN, dNeg, ends, DL.gLt, DL.gLe, DL.gGt, DL.gGe, DL.gAdd, DL.gSub, DL.gMul, DL.gMod, DL.gDiv, DL.gPow]
    refine ⟨u_tyL rfl, ?_⟩
    try dsimp only [wRet, wAnd, wOr, wUn, wOp, wCa, wCons, wNil, wVar, wC, wSeq, wNext, wPass, wAsg, wExp, wIf, wB, wIfE, wAndT, wOrT, wNotT, wTup, wLst, wSl, dSl, wNoP, wPart, wCall, wCallK, wCallO, wCallP, wDisp, wFrz, wGet1, wGet2, wPut, wNewT, wPar, wgName, wgTup, wgCons, wgNil, wgLst, wiT, wiL, wiR1, wiZip, wiEnu, wiEnuA, wChain, wYes, wBM, wBM0, slot, allD, wipeS, List.map_cons, List.map_nil, List.set_cons_zero, List.set_cons_succ, List.cons_append, List.nil_append, List.isEmpty_nil, List.isEmpty_cons, Bool.not_true, Bool.not_false, wUn, dNot, dII0, dII, dEqS, dNeS, dIsN, dNotN, dNeg, ends, DL.gLt, DL.gLe, DL.gGt, DL.gGe, DL.gAdd, DL.gSub, DL.gMul, DL.gMod, DL.gDiv, DL.gPow]
    refine ⟨u_tyL rfl, ?_⟩
    refine u_lenO (l := l) rfl ?_
    refine call_dk [.int (l.length : Nat)] rfl ⟨_, rfl, by omega, by omega⟩ hc' fun y c2 m2 d2 hv hc2 => ?_
    obtain ⟨k, r, e, rfl, h0, h3⟩ := hv
    injection e with e
    injection e with e
    subst e
    have hr : r.toNat < l.length := by omega
    try dsimp only [wRet, wAnd, wOr, wUn, wOp, wCa, wCons, wNil, wVar, wC, wSeq, wNext, wPass, wAsg, wExp, wIf, wB, wIfE, wAndT, wOrT, wNotT, wTup, wLst, wSl, dSl, wNoP, wPart, wCall, wCallK, wCallO, wCallP, wDisp, wFrz, wGet1, wGet2, wPut, wNewT, wPar, wgName, wgTup, wgCons, wgNil, wgLst, wiT, wiL, wiR1, wiZip, wiEnu, wiEnuA, wChain, wYes, wBM, wBM0, slot, allD, wipeS, List.map_cons, List.map_nil, List.set_cons_zero, List.set_cons_succ, List.cons_append, List.nil_append, List.isEmpty_nil, List.isEmpty_cons, Bool.not_true, Bool.not_false, wUn, dNot, dII0, dII, dEqS, dNeS, dIsN, dNotN, dNeg, ends, DL.gLt, DL.gLe, DL.gGt, DL.gGe, DL.gAdd, DL.gSub, DL.gMul, DL.gMod, DL.gDiv, DL.gPow]
    refine u_popAt (l := l) rfl h0 (by omega) (List.getElem?_eq_getElem hr) ?_
    try dsimp only [wRet, wAnd, wOr, wUn, wOp, wCa, wCons, wNil, wVar, wC, wSeq, wNext, wPass, wAsg, wExp, wIf, wB, wIfE, wAndT, wOrT, wNotT, wTup, wLst, wSl, dSl, wNoP, wPart, wCall, wCallK, wCallO, wCallP, wDisp, wFrz, wGet1, wGet2, wPut, wNewT, wPar, wgName, wgTup, wgCons, wgNil, wgLst, wiT, wiL, wiR1, wiZip, wiEnu, wiEnuA, wChain, wYes, wBM, wBM0, slot, allD, wipeS, List.map_cons, List.map_nil, List.set_cons_zero, List.set_cons_succ, List.cons_append, List.nil_append, List.isEmpty_nil, List.isEmpty_cons, Bool.not_true, Bool.not_false, wUn, dNot, dII0, dII, dEqS, dNeS, dIsN, dNotN, dNeg, ends, DL.gLt, DL.gLe, DL.gGt, DL.gGe, DL.gAdd, DL.gSub, DL.gMul, DL.gMod, DL.gDiv, DL.gPow]
    refine u_app (l := f) rfl (small1000 (by omega)) ?_
    try dsimp only [wRet, wAnd, wOr, wUn, wOp, wCa, wCons, wNil, wVar, wC, wSeq, wNext, wPass, wAsg, wExp, wIf, wB, wIfE, wAndT, wOrT, wNotT, wTup, wLst, wSl, dSl, wNoP, wPart, wCall, wCallK, wCallO, wCallP, wDisp, wFrz, wGet1, wGet2, wPut, wNewT, wPar, wgName, wgTup, wgCons, wgNil, wgLst, wiT, wiL, wiR1, wiZip, wiEnu, wiEnuA, wChain, wYes, wBM, wBM0, slot, allD, wipeS, List.map_cons, List.map_nil, List.set_cons_zero, List.set_cons_succ, List.cons_append, List.nil_append, List.isEmpty_nil, List.isEmpty_cons, Bool.not_true, Bool.not_false, wUn, dNot, dII0, dII, dEqS, dNeS, dIsN, dNotN, dNeg, ends, DL.gLt, DL.gLe, DL.gGt, DL.gGe, DL.gAdd, DL.gSub, DL.gMul, DL.gMod, DL.gDiv, DL.gPow]
    refine ⟨c2, m2, d2, l.eraseIdx r.toNat, f ++ [l[r.toNat]], _, hc2, rfl, ?_, by rw [List.length_append, hf]; rfl⟩
    rw [List.append_assoc]
    exact ((erase_perm hr).append_left f).trans hp
  · rintro ρ' ⟨c', m', d', l, f, t, hc', rfl, hp, hf⟩
    rw [rng_len] at hf
    have hlen : f.length + l.length = n.toNat := by
      have := hp.length_eq
      rwa [List.length_append, rng_len] at this
    have hl0 : l = [] := List.length_eq_zero_iff.mp (by omega)
    subst hl0
    rw [List.append_nil] at hp
    try dsimp only [wRet, wAnd, wOr, wUn, wOp, wCa, wCons, wNil, wVar, wC, wSeq, wNext, wPass, wAsg, wExp, wIf, wB, wIfE, wAndT, wOrT, wNotT, wTup, wLst, wSl, dSl, wNoP, wPart, wCall, wCallK, wCallO, wCallP, wDisp, wFrz, wGet1, wGet2, wPut, wNewT, wPar, wgName, wgTup, wgCons, wgNil, wgLst, wiT, wiL, wiR1, wiZip, wiEnu, wiEnuA, wChain, wYes, wBM, wBM0, slot, allD, wipeS, List.map_cons, List.map_nil, List.set_cons_zero, List.set_cons_succ, List.cons_append, List.nil_append, List.isEmpty_nil, List.isEmpty_cons, Bool.not_true, Bool.not_false, wUn, dNot, dII0, dII, dEqS, dNeS, dIsN, dNotN, dNeg, ends, DL.gLt, DL.gLe, DL.gGt, DL.gGe, DL.gAdd, DL.gSub, DL.gMul, DL.gMod, DL.gDiv, DL.gPow]
    exact u_tupL rfl (hR (.tuple f) c' m' d' _ ⟨n, f, rfl, rfl, hp⟩ hc')
def sp_law_spots : DSp := pur0 1 fun ds y => ∃ ns : List Int, (ds = [.tuple (ns.map .int)] ∨ ds = [.list (ns.map .int)]) ∧ Small ns ∧ y = .list (spots ns)
theorem spots_take {ns : List Int} {i : Nat} {x : PyData} (h : (enuN ns)[i]? = some x) : ((enuN ns).take (i + 1)).flatMap spF = ((enuN ns).take i).flatMap spF ++ spF x := flat_take h
theorem ok_law_spots {P : Program} {w0 : World} {K : PySem.W.Frag} {mg : Str → Option Value} {base : Heap} (b : BI mg) (h : Hd K mg "_law_spots" s_law_spots nP_law_spots) : DefG P w0 K mg base 1 "_law_spots" s_law_spots nP_law_spots sp_law_spots := by
  refine mk_def h sc_law_spots pur0_len (pdss_cons (pds_set 1 (pd_lst pda_nil))
  (pdss_cons (pds_for (pdi_enumA (pda_cons (pd_var 0) pda_nil) rfl b.enumerate) (pdg_tup (n := 2) (pdgs_cons (pdg_name 2) (pdgs_cons (pdg_name 3) pdgs_nil))) (pdss_one (pds_expr (pd_extend (pd_var 1) (pda_cons (pd_lc (own := [("_law_i", 4)]) (pdi_range1 (pda_cons (pd_var 3) pda_nil) rfl b.range) (blkOk_by (own := [("_law_i", 4)]) (N := nN_law_spots) (sc := defScope s_law_spots) (by decide +kernel)) (pdg_name 4) pdts_nil (pd_tup (pda_cons (pd_var 2) (pda_cons (pd_var 4) pda_nil)))) pda_nil)))))
  (pdss_one (pds_ret (pd_frz (pd_var 1)))))) ?_
  rintro dvs ob R X ⟨ds, y, rfl, hl, ⟨ns, hd, hs, rfl⟩, rfl, hR⟩ sl e1
  obtain ⟨a, rfl, ha⟩ : ∃ a, ds = [a] ∧ (a = .tuple (ns.map .int) ∨ a = .list (ns.map .int)) := by
    rcases hd with rfl | rfl
    · exact ⟨_, rfl, .inl rfl⟩
    · exact ⟨_, rfl, .inr rfl⟩
  have e1 : [some (.d a), none, none, none, none] = sl := e1
  subst e1
  try dsimp only [wRet, wAnd, wOr, wUn, wOp, wCa, wCons, wNil, wVar, wC, wSeq, wNext, wPass, wAsg, wExp, wIf, wB, wIfE, wAndT, wOrT, wNotT, wTup, wLst, wSl, dSl, wNoP, wPart, wCall, wCallK, wCallO, wCallP, wDisp, wFrz, wGet1, wGet2, wPut, wNewT, wPar, wgName, wgTup, wgCons, wgNil, wgLst, wiT, wiL, wiR1, wiZip, wiEnu, wiEnuA, wChain, wYes, wBM, wBM0, slot, allD, wipeS, List.map_cons, List.map_nil, List.set_cons_zero, List.set_cons_succ, List.cons_append, List.nil_append, List.isEmpty_nil, List.isEmpty_cons, Bool.not_true, Bool.not_false, wUn, dNot, dII0, dII, dEqS, dNeS, dIsN, dNotN, dNeg, ends, DL.gLt, DL.gLe, DL.gGt, DL.gGe, DL.gAdd, DL.gSub, DL.gMul, DL.gMod, DL.gDiv, DL.gPow]
  refine ⟨Nat.zero_le _, ?_⟩
  refine for_in (enuN ns) ⟨[some (.d a), some (.o 0), none, none, none], [.lst []]⟩
    (fun i ρ' => ∃ (u l z : Option DV) (g : List OB), ρ' = ⟨[some (.d a), some (.o 0), u, l, z], .lst ((((enuN ns).take i).flatMap spF).map .d) :: g⟩) (fun C h => ?_) ⟨_, _, _, [], rfl⟩ ?_ ?_
  · rcases ha with rfl | rfl
    · exact h
    · exact h
  · rintro i x ρ' hx ⟨u, l, z, g, rfl⟩
    obtain ⟨n, len, rfl, e⟩ := enu_mem (List.mem_of_getElem? hx)
    have hz : (((enuN ns).take i).flatMap spF).length + (spF (.tuple [.int n, .int len])).length ≤ sizeLine := by
      have h1 : (((enuN ns).take (i + 1)).flatMap spF).length ≤ (spots ns).length := flat_len
      rw [spots_take hx, List.length_append] at h1
      exact Nat.le_trans (Nat.le_trans h1 hs.2.1) (by decide)
    try dsimp only [wRet, wAnd, wOr, wUn, wOp, wCa, wCons, wNil, wVar, wC, wSeq, wNext, wPass, wAsg, wExp, wIf, wB, wIfE, wAndT, wOrT, wNotT, wTup, wLst, wSl, dSl, wNoP, wPart, wCall, wCallK, wCallO, wCallP, wDisp, wFrz, wGet1, wGet2, wPut, wNewT, wPar, wgName, wgTup, wgCons, wgNil, wgLst, wiT, wiL, wiR1, wiZip, wiEnu, wiEnuA, wChain, wYes, wBM, wBM0, slot, allD, wipeS, List.map_cons, List.map_nil, List.set_cons_zero, List.set_cons_succ, List.cons_append, List.nil_append, List.isEmpty_nil, List.isEmpty_cons, Bool.not_true, Bool.not_false, wUn, dNot, dII0, dII, dEqS, dNeS, dIsN, dNotN, dNeg, ends, DL.gLt, DL.gLe, DL.gGt, DL.gGe, DL.gAdd, DL.gSub, DL.gMul, DL.gMod, DL.gDiv, DL.gPow]
    refine ⟨rfl, ?_⟩
    refine ⟨u_tyL rfl, ?_⟩
    refine lc_fun (rng 0 len.toNat) ⟨[some (.d a), some (.o 0), some (.d (.int n)), some (.d (.int len)), z], .lst ((((enuN ns).take i).flatMap spF).map .d) :: g⟩ (fun i => .tuple [.int n, i]) (fun C h => ⟨hs.rg e, h⟩) ?_ (fun x hx o E hE => ?_) ?_
    · have : (rng 0 len.toNat).length = (spF (.tuple [.int n, .int len])).length := by
        show _ = ((rng 0 len.toNat).map _).length
        rw [List.length_map]
      omega
    · try dsimp only [wRet, wAnd, wOr, wUn, wOp, wCa, wCons, wNil, wVar, wC, wSeq, wNext, wPass, wAsg, wExp, wIf, wB, wIfE, wAndT, wOrT, wNotT, wTup, wLst, wSl, dSl, wNoP, wPart, wCall, wCallK, wCallO, wCallP, wDisp, wFrz, wGet1, wGet2, wPut, wNewT, wPar, wgName, wgTup, wgCons, wgNil, wgLst, wiT, wiL, wiR1, wiZip, wiEnu, wiEnuA, wChain, wYes, wBM, wBM0, slot, allD, wipeS, List.map_cons, List.map_nil, List.set_cons_zero, List.set_cons_succ, List.cons_append, List.nil_append, List.isEmpty_nil, List.isEmpty_cons, Bool.not_true, Bool.not_false, wUn, dNot, dII0, dII, dEqS, dNeS, dIsN, dNotN, dNeg, ends, DL.gLt, DL.gLe, DL.gGt, DL.gGe, DL.gAdd, DL.gSub, DL.gMul, DL.gMod, DL.gDiv, DL.gPow]
      exact ⟨sz2, hE _ rfl⟩
    · try dsimp only [wRet, wAnd, wOr, wUn, wOp, wCa, wCons, wNil, wVar, wC, wSeq, wNext, wPass, wAsg, wExp, wIf, wB, wIfE, wAndT, wOrT, wNotT, wTup, wLst, wSl, dSl, wNoP, wPart, wCall, wCallK, wCallO, wCallP, wDisp, wFrz, wGet1, wGet2, wPut, wNewT, wPar, wgName, wgTup, wgCons, wgNil, wgLst, wiT, wiL, wiR1, wiZip, wiEnu, wiEnuA, wChain, wYes, wBM, wBM0, slot, allD, wipeS, List.map_cons, List.map_nil, List.set_cons_zero, List.set_cons_succ, List.cons_append, List.nil_append, List.isEmpty_nil, List.isEmpty_cons, Bool.not_true, Bool.not_false, wUn, dNot, dII0, dII, dEqS, dNeS, dIsN, dNotN, dNeg, ends, DL.gLt, DL.gLe, DL.gGt, DL.gGe, DL.gAdd, DL.gSub, DL.gMul, DL.gMod, DL.gDiv, DL.gPow]
      refine u_ext (l := ((enuN ns).take i).flatMap spF) (l2 := spF (.tuple [.int n, .int len])) rfl (obK_last (ob := .lst ((((enuN ns).take i).flatMap spF).map .d) :: g)) hz ?_
      try dsimp only [wRet, wAnd, wOr, wUn, wOp, wCa, wCons, wNil, wVar, wC, wSeq, wNext, wPass, wAsg, wExp, wIf, wB, wIfE, wAndT, wOrT, wNotT, wTup, wLst, wSl, dSl, wNoP, wPart, wCall, wCallK, wCallO, wCallP, wDisp, wFrz, wGet1, wGet2, wPut, wNewT, wPar, wgName, wgTup, wgCons, wgNil, wgLst, wiT, wiL, wiR1, wiZip, wiEnu, wiEnuA, wChain, wYes, wBM, wBM0, slot, allD, wipeS, List.map_cons, List.map_nil, List.set_cons_zero, List.set_cons_succ, List.cons_append, List.nil_append, List.isEmpty_nil, List.isEmpty_cons, Bool.not_true, Bool.not_false, wUn, dNot, dII0, dII, dEqS, dNeS, dIsN, dNotN, dNeg, ends, DL.gLt, DL.gLe, DL.gGt, DL.gGe, DL.gAdd, DL.gSub, DL.gMul, DL.gMod, DL.gDiv, DL.gPow]
      exact ⟨_, _, _, _, by rw [spots_take hx]⟩
  · rintro ρ' ⟨u, l, z, g, rfl⟩
    rw [List.take_length]
    try dsimp only [wRet, wAnd, wOr, wUn, wOp, wCa, wCons, wNil, wVar, wC, wSeq, wNext, wPass, wAsg, wExp, wIf, wB, wIfE, wAndT, wOrT, wNotT, wTup, wLst, wSl, dSl, wNoP, wPart, wCall, wCallK, wCallO, wCallP, wDisp, wFrz, wGet1, wGet2, wPut, wNewT, wPar, wgName, wgTup, wgCons, wgNil, wgLst, wiT, wiL, wiR1, wiZip, wiEnu, wiEnuA, wChain, wYes, wBM, wBM0, slot, allD, wipeS, List.map_cons, List.map_nil, List.set_cons_zero, List.set_cons_succ, List.cons_append, List.nil_append, List.isEmpty_nil, List.isEmpty_cons, Bool.not_true, Bool.not_false, wUn, dNot, dII0, dII, dEqS, dNeS, dIsN, dNotN, dNeg, ends, DL.gLt, DL.gLe, DL.gGt, DL.gGe, DL.gAdd, DL.gSub, DL.gMul, DL.gMod, DL.gDiv, DL.gPow]
    rw [frz_of (spots ns) rfl]
    try dsimp only [wRet, wAnd, wOr, wUn, wOp, wCa, wCons, wNil, wVar, wC, wSeq, wNext, wPass, wAsg, wExp, wIf, wB, wIfE, wAndT, wOrT, wNotT, wTup, wLst, wSl, dSl, wNoP, wPart, wCall, wCallK, wCallO, wCallP, wDisp, wFrz, wGet1, wGet2, wPut, wNewT, wPar, wgName, wgTup, wgCons, wgNil, wgLst, wiT, wiL, wiR1, wiZip, wiEnu, wiEnuA, wChain, wYes, wBM, wBM0, slot, allD, wipeS, List.map_cons, List.map_nil, List.set_cons_zero, List.set_cons_succ, List.cons_append, List.nil_append, List.isEmpty_nil, List.isEmpty_cons, Bool.not_true, Bool.not_false, wUn, dNot, dII0, dII, dEqS, dNeS, dIsN, dNotN, dNeg, ends, DL.gLt, DL.gLe, DL.gGt, DL.gGe, DL.gAdd, DL.gSub, DL.gMul, DL.gMod, DL.gDiv, DL.gPow]
    exact hR _
def sp_law_behind : DSp := pur 3 fun ds y => ∃ ns tl u i k, ds = [flD ns tl, plD u i, .int k] ∧ isPl ns (plD u i) = true ∧ y = plD u ((i + k) % ns.getD u.toNat 0)
theorem ok_law_behind {P : Program} {w0 : World} {K : PySem.W.Frag} {mg : Str → Option Value} {base : Heap} (b : BI mg) (h : Hd K mg "_law_behind" s_law_behind nP_law_behind) : DefG P w0 K mg base 1 "_law_behind" s_law_behind nP_law_behind sp_law_behind := by
  refine mk_def h sc_law_behind pur_len (pdss_one (pds_ret (pd_tup (pda_cons (pd_ix (pd_var 1) pd_int) (pda_cons (pd_mod (pd_intC rfl b.int_ (pda_cons (pd_add (pd_ix (pd_var 1) pd_int) (pd_var 2)) pda_nil)) (pd_ix (pd_ix (pd_var 0) pd_int) (pd_ix (pd_var 1) pd_int))) pda_nil))))) ?_
  rintro dvs ob R X ⟨ds, y, rfl, hl, ⟨ns, tl, u, i, k, rfl, hp, rfl⟩, hR⟩ sl e1
  have e1 : [some (.d (flD ns tl)), some (.d (plD u i)), some (.d (.int k))] = sl := e1
  subst e1
  unfold plD
  try dsimp only [wRet, wAnd, wOr, wUn, wOp, wCa, wCons, wNil, wVar, wC, wSeq, wNext, wPass, wAsg, wExp, wIf, wB, wIfE, wAndT, wOrT, wNotT, wTup, wLst, wSl, dSl, wNoP, wPart, wCall, wCallK, wCallO, wCallP, wDisp, wFrz, wGet1, wGet2, wPut, wNewT, wPar, wgName, wgTup, wgCons, wgNil, wgLst, wiT, wiL, wiR1, wiZip, wiEnu, wiEnuA, wChain, wYes, wBM, wBM0, slot, allD, wipeS, List.map_cons, List.map_nil, List.set_cons_zero, List.set_cons_succ, List.cons_append, List.nil_append, List.isEmpty_nil, List.isEmpty_cons, Bool.not_true, Bool.not_false, wUn, dNot, dII0, dII, dEqS, dNeS, dIsN, dNotN, dNeg, ends, DL.gLt, DL.gLe, DL.gGt, DL.gGe, DL.gAdd, DL.gSub, DL.gMul, DL.gMod, DL.gDiv, DL.gPow]
  refine u_ix (z := .int u) rfl ?_
  refine u_ix (z := .int i) rfl ?_
  try unfold dInt
  try dsimp only [wRet, wAnd, wOr, wUn, wOp, wCa, wCons, wNil, wVar, wC, wSeq, wNext, wPass, wAsg, wExp, wIf, wB, wIfE, wAndT, wOrT, wNotT, wTup, wLst, wSl, dSl, wNoP, wPart, wCall, wCallK, wCallO, wCallP, wDisp, wFrz, wGet1, wGet2, wPut, wNewT, wPar, wgName, wgTup, wgCons, wgNil, wgLst, wiT, wiL, wiR1, wiZip, wiEnu, wiEnuA, wChain, wYes, wBM, wBM0, slot, allD, wipeS, List.map_cons, List.map_nil, List.set_cons_zero, List.set_cons_succ, List.cons_append, List.nil_append, List.isEmpty_nil, List.isEmpty_cons, Bool.not_true, Bool.not_false, wUn, dNot, dII0, dII, dEqS, dNeS, dIsN, dNotN, dNeg, ends, DL.gLt, DL.gLe, DL.gGt, DL.gGe, DL.gAdd, DL.gSub, DL.gMul, DL.gMod, DL.gDiv, DL.gPow]
  obtain ⟨n, hn, rfl, h0, h1⟩ := pl_in hp
  refine u_ix (z := .tuple (ns.map .int)) rfl ?_
  try dsimp only [wRet, wAnd, wOr, wUn, wOp, wCa, wCons, wNil, wVar, wC, wSeq, wNext, wPass, wAsg, wExp, wIf, wB, wIfE, wAndT, wOrT, wNotT, wTup, wLst, wSl, dSl, wNoP, wPart, wCall, wCallK, wCallO, wCallP, wDisp, wFrz, wGet1, wGet2, wPut, wNewT, wPar, wgName, wgTup, wgCons, wgNil, wgLst, wiT, wiL, wiR1, wiZip, wiEnu, wiEnuA, wChain, wYes, wBM, wBM0, slot, allD, wipeS, List.map_cons, List.map_nil, List.set_cons_zero, List.set_cons_succ, List.cons_append, List.nil_append, List.isEmpty_nil, List.isEmpty_cons, Bool.not_true, Bool.not_false, wUn, dNot, dII0, dII, dEqS, dNeS, dIsN, dNotN, dNeg, ends, DL.gLt, DL.gLe, DL.gGt, DL.gGe, DL.gAdd, DL.gSub, DL.gMul, DL.gMod, DL.gDiv, DL.gPow]
  refine u_ix (z := .int (n : Nat)) rfl ?_
  refine u_ix (atI_map (f := PyData.int) hn) ?_
  try dsimp only [wRet, wAnd, wOr, wUn, wOp, wCa, wCons, wNil, wVar, wC, wSeq, wNext, wPass, wAsg, wExp, wIf, wB, wIfE, wAndT, wOrT, wNotT, wTup, wLst, wSl, dSl, wNoP, wPart, wCall, wCallK, wCallO, wCallP, wDisp, wFrz, wGet1, wGet2, wPut, wNewT, wPar, wgName, wgTup, wgCons, wgNil, wgLst, wiT, wiL, wiR1, wiZip, wiEnu, wiEnuA, wChain, wYes, wBM, wBM0, slot, allD, wipeS, List.map_cons, List.map_nil, List.set_cons_zero, List.set_cons_succ, List.cons_append, List.nil_append, List.isEmpty_nil, List.isEmpty_cons, Bool.not_true, Bool.not_false, wUn, dNot, dII0, dII, dEqS, dNeS, dIsN, dNotN, dNeg, ends, DL.gLt, DL.gLe, DL.gGt, DL.gGe, DL.gAdd, DL.gSub, DL.gMul, DL.gMod, DL.gDiv, DL.gPow]
  have eg : ns.getD ((n : Nat) : Int).toNat 0 = ns[n] := by
    rw [Int.toNat_natCast, List.getD_eq_getElem?_getD, List.getElem?_eq_getElem hn]
    rfl
  rw [eg] at hR
  exact ⟨by omega, sz2, hR ob⟩
def sp_law_partners : DSp := pur 1 fun ds y => ∃ ns tl, ds = [flD ns tl] ∧ tl.length ≤ 31 ∧ y = dtD (parP tl)
theorem ok_law_partners {P : Program} {w0 : World} {K : PySem.W.Frag} {mg : Str → Option Value} {base : Heap} (h : Hd K mg "_law_partners" s_law_partners nP_law_partners) : DefG P w0 K mg base 1 "_law_partners" s_law_partners nP_law_partners sp_law_partners := by
  refine mk_def h sc_law_partners pur_len (pdss_cons (pds_set 1 pd_newT)
  (pdss_cons (pds_for (pdi_tup (pd_ix (pd_var 0) pd_int)) (pdg_tup (n := 2) (pdgs_cons (pdg_name 2) (pdgs_cons (pdg_name 3) pdgs_nil))) (pdss_cons (pds_put (pd_var 1) (pd_var 2) (pd_var 3))
  (pdss_one (pds_put (pd_var 1) (pd_var 3) (pd_var 2)))))
  (pdss_one (pds_ret (pd_frz (pd_var 1)))))) ?_
  rintro dvs ob R X ⟨ds, y, rfl, hl, ⟨ns, tl, rfl, hf, rfl⟩, hR⟩ sl e1
  have e1 : [some (.d (flD ns tl)), none, none, none] = sl := e1
  subst e1
  try dsimp only [wRet, wAnd, wOr, wUn, wOp, wCa, wCons, wNil, wVar, wC, wSeq, wNext, wPass, wAsg, wExp, wIf, wB, wIfE, wAndT, wOrT, wNotT, wTup, wLst, wSl, dSl, wNoP, wPart, wCall, wCallK, wCallO, wCallP, wDisp, wFrz, wGet1, wGet2, wPut, wNewT, wPar, wgName, wgTup, wgCons, wgNil, wgLst, wiT, wiL, wiR1, wiZip, wiEnu, wiEnuA, wChain, wYes, wBM, wBM0, slot, allD, wipeS, List.map_cons, List.map_nil, List.set_cons_zero, List.set_cons_succ, List.cons_append, List.nil_append, List.isEmpty_nil, List.isEmpty_cons, Bool.not_true, Bool.not_false, wUn, dNot, dII0, dII, dEqS, dNeS, dIsN, dNotN, dNeg, ends, DL.gLt, DL.gLe, DL.gGt, DL.gGe, DL.gAdd, DL.gSub, DL.gMul, DL.gMod, DL.gDiv, DL.gPow]
  refine for_in (tl.map tD) ⟨[some (.d (flD ns tl)), some (.o ob.length), none, none], ob ++ [.dt (mapV (parP (tl.take 0)))]⟩ (fun i ρ' => ∃ a b, ρ' = ⟨[some (.d (flD ns tl)), some (.o ob.length), a, b], ob ++ [.dt (mapV (parP (tl.take i)))]⟩) (fun C h => ?_) ⟨_, _, rfl⟩ ?_ ?_
  · try dsimp only [wRet, wAnd, wOr, wUn, wOp, wCa, wCons, wNil, wVar, wC, wSeq, wNext, wPass, wAsg, wExp, wIf, wB, wIfE, wAndT, wOrT, wNotT, wTup, wLst, wSl, dSl, wNoP, wPart, wCall, wCallK, wCallO, wCallP, wDisp, wFrz, wGet1, wGet2, wPut, wNewT, wPar, wgName, wgTup, wgCons, wgNil, wgLst, wiT, wiL, wiR1, wiZip, wiEnu, wiEnuA, wChain, wYes, wBM, wBM0, slot, allD, wipeS, List.map_cons, List.map_nil, List.set_cons_zero, List.set_cons_succ, List.cons_append, List.nil_append, List.isEmpty_nil, List.isEmpty_cons, Bool.not_true, Bool.not_false, wUn, dNot, dII0, dII, dEqS, dNeS, dIsN, dNotN, dNeg, ends, DL.gLt, DL.gLe, DL.gGt, DL.gGe, DL.gAdd, DL.gSub, DL.gMul, DL.gMod, DL.gDiv, DL.gPow]
    exact u_ix (z := .tuple (tl.map tD)) rfl h
  · rintro i x ρ' hx ⟨a, b, rfl⟩
    rw [List.getElem?_map] at hx
    cases ht : tl[i]? with
    | none => rw [ht] at hx; cases hx
    | some t =>
      rw [ht] at hx
      obtain rfl := Option.some.inj hx
      have hl1 : (parP (tl.take i)).length ≤ 62 := Nat.le_trans (parP_len _) (by rw [List.length_take]; omega)
      have hl2 := putD_len (parP (tl.take i)) (plK t.1 t.2.1) (plD t.2.2.1 t.2.2.2)
      unfold tD
      try dsimp only [wRet, wAnd, wOr, wUn, wOp, wCa, wCons, wNil, wVar, wC, wSeq, wNext, wPass, wAsg, wExp, wIf, wB, wIfE, wAndT, wOrT, wNotT, wTup, wLst, wSl, dSl, wNoP, wPart, wCall, wCallK, wCallO, wCallP, wDisp, wFrz, wGet1, wGet2, wPut, wNewT, wPar, wgName, wgTup, wgCons, wgNil, wgLst, wiT, wiL, wiR1, wiZip, wiEnu, wiEnuA, wChain, wYes, wBM, wBM0, slot, allD, wipeS, List.map_cons, List.map_nil, List.set_cons_zero, List.set_cons_succ, List.cons_append, List.nil_append, List.isEmpty_nil, List.isEmpty_cons, Bool.not_true, Bool.not_false, wUn, dNot, dII0, dII, dEqS, dNeS, dIsN, dNotN, dNeg, ends, DL.gLt, DL.gLe, DL.gGt, DL.gGe, DL.gAdd, DL.gSub, DL.gMul, DL.gMod, DL.gDiv, DL.gPow]
      refine ⟨rfl, ?_⟩
      refine ⟨few_last (by omega), ?_⟩
      rw [put_last]
      try dsimp only [wRet, wAnd, wOr, wUn, wOp, wCa, wCons, wNil, wVar, wC, wSeq, wNext, wPass, wAsg, wExp, wIf, wB, wIfE, wAndT, wOrT, wNotT, wTup, wLst, wSl, dSl, wNoP, wPart, wCall, wCallK, wCallO, wCallP, wDisp, wFrz, wGet1, wGet2, wPut, wNewT, wPar, wgName, wgTup, wgCons, wgNil, wgLst, wiT, wiL, wiR1, wiZip, wiEnu, wiEnuA, wChain, wYes, wBM, wBM0, slot, allD, wipeS, List.map_cons, List.map_nil, List.set_cons_zero, List.set_cons_succ, List.cons_append, List.nil_append, List.isEmpty_nil, List.isEmpty_cons, Bool.not_true, Bool.not_false, wUn, dNot, dII0, dII, dEqS, dNeS, dIsN, dNotN, dNeg, ends, DL.gLt, DL.gLe, DL.gGt, DL.gGe, DL.gAdd, DL.gSub, DL.gMul, DL.gMod, DL.gDiv, DL.gPow]
      refine ⟨few_last (by omega), ?_⟩
      rw [put_last]
      try dsimp only [wRet, wAnd, wOr, wUn, wOp, wCa, wCons, wNil, wVar, wC, wSeq, wNext, wPass, wAsg, wExp, wIf, wB, wIfE, wAndT, wOrT, wNotT, wTup, wLst, wSl, dSl, wNoP, wPart, wCall, wCallK, wCallO, wCallP, wDisp, wFrz, wGet1, wGet2, wPut, wNewT, wPar, wgName, wgTup, wgCons, wgNil, wgLst, wiT, wiL, wiR1, wiZip, wiEnu, wiEnuA, wChain, wYes, wBM, wBM0, slot, allD, wipeS, List.map_cons, List.map_nil, List.set_cons_zero, List.set_cons_succ, List.cons_append, List.nil_append, List.isEmpty_nil, List.isEmpty_cons, Bool.not_true, Bool.not_false, wUn, dNot, dII0, dII, dEqS, dNeS, dIsN, dNotN, dNeg, ends, DL.gLt, DL.gLe, DL.gGt, DL.gGe, DL.gAdd, DL.gSub, DL.gMul, DL.gMod, DL.gDiv, DL.gPow]
      exact ⟨_, _, by rw [parP_take ht]; rfl⟩
  · rintro ρ' ⟨a, b, rfl⟩
    rw [List.length_map, List.take_length]
    try dsimp only [wRet, wAnd, wOr, wUn, wOp, wCa, wCons, wNil, wVar, wC, wSeq, wNext, wPass, wAsg, wExp, wIf, wB, wIfE, wAndT, wOrT, wNotT, wTup, wLst, wSl, dSl, wNoP, wPart, wCall, wCallK, wCallO, wCallP, wDisp, wFrz, wGet1, wGet2, wPut, wNewT, wPar, wgName, wgTup, wgCons, wgNil, wgLst, wiT, wiL, wiR1, wiZip, wiEnu, wiEnuA, wChain, wYes, wBM, wBM0, slot, allD, wipeS, List.map_cons, List.map_nil, List.set_cons_zero, List.set_cons_succ, List.cons_append, List.nil_append, List.isEmpty_nil, List.isEmpty_cons, Bool.not_true, Bool.not_false, wUn, dNot, dII0, dII, dEqS, dNeS, dIsN, dNotN, dNeg, ends, DL.gLt, DL.gLe, DL.gGt, DL.gGe, DL.gAdd, DL.gSub, DL.gMul, DL.gMod, DL.gDiv, DL.gPow]
    obtain ⟨ρ2, e⟩ := frz_last (sl := [some (.d (flD ns tl)), some (.o ob.length), a, b]) (ob := ob) (l := parP tl)
    rw [e]
    exact hR _
end K02
end

section
set_option Elab.async false
set_option linter.all false
set_option maxRecDepth 100000
set_option maxHeartbeats 1000000
set_option autoImplicit false
namespace K02
open PySem PySem.Spec PyProof.Rows L2 DL
/-! ### the places in their order -/
def spI : Int → List Int → List (Int × Int)
  | _, [] => []
  | k, l :: r => ((List.range l.toNat).map fun i : Nat => (k, (i : Int))) ++ spI (k + 1) r
def plP (p : Int × Int) : PyData := plD p.1 p.2
theorem rng_cons (lo : Int) (n : Nat) : rng lo (n + 1) = .int lo :: rng (lo + 1) n := by
  unfold rng
  rw [List.range_succ_eq_map, List.map_cons, List.map_map]
  congr 1
  · simp
  · refine List.map_congr_left fun i _ => ?_
    show PyData.int (lo + ((i + 1 : Nat) : Int)) = PyData.int (lo + 1 + (i : Int))
    congr 1
    omega
theorem spots_spI : ∀ (ns : List Int) (k : Int), (zipP (rng k ns.length) (ns.map .int)).flatMap spF = (spI k ns).map plP
  | [], _ => rfl
  | l :: r, k => by
    rw [List.length_cons, rng_cons]
    show spF (.tuple [.int k, .int l]) ++ (zipP (rng (k + 1) r.length) (r.map .int)).flatMap spF = _
    rw [spots_spI r (k + 1)]
    show _ = (((List.range l.toNat).map fun i : Nat => (k, (i : Int))) ++ spI (k + 1) r).map plP
    rw [List.map_append, List.map_map]
    congr 1
    show (rng 0 l.toNat).map _ = _
    unfold rng
    rw [List.map_map]
    refine List.map_congr_left fun i _ => ?_
    show PyData.tuple [.int k, .int (0 + (i : Int))] = plD k i
    rw [Int.zero_add]
    rfl
theorem spots_eq (ns : List Int) : spots ns = (spI 0 ns).map plP := by
  unfold spots enuN
  rw [List.length_map]
  exact spots_spI ns 0
theorem mem_spI : ∀ {ns : List Int} {k : Int} {p : Int × Int}, p ∈ spI k ns ↔ ∃ n : Nat, p.1 = k + n ∧ 0 ≤ p.2 ∧ ∃ l, ns[n]? = some l ∧ p.2 < l
  | [], k, p => by simp [spI]
  | l :: r, k, p => by
    unfold spI
    rw [List.mem_append, mem_spI (ns := r) (k := k + 1), List.mem_map]
    constructor
    · rintro (⟨i, hi, rfl⟩ | ⟨n, h1, h2, z, h3, h4⟩)
      · rw [List.mem_range] at hi
        exact ⟨0, by simp, by simp, l, rfl, by show (i : Int) < l; omega⟩
      · exact ⟨n + 1, by omega, h2, z, h3, h4⟩
    · rintro ⟨n, h1, h2, z, h3, h4⟩
      cases n with
      | zero =>
        obtain rfl : l = z := Option.some.inj h3
        refine .inl ⟨p.2.toNat, by rw [List.mem_range]; omega, ?_⟩
        rw [Int.toNat_of_nonneg h2]
        exact Prod.ext (by rw [h1]; simp) rfl
      | succ n => exact .inr ⟨n, by omega, h2, z, h3, h4⟩
def ltI (p q : Int × Int) : Prop := p.1 < q.1 ∨ (p.1 = q.1 ∧ p.2 < q.2)
theorem asc_spI : ∀ (ns : List Int) (k : Int), (spI k ns).Pairwise ltI
  | [], _ => .nil
  | l :: r, k => by
    unfold spI
    rw [List.pairwise_append]
    refine ⟨?_, asc_spI r (k + 1), ?_⟩
    · rw [List.pairwise_map]
      exact (List.pairwise_lt_range (n := l.toNat)).imp fun {a b} h => Or.inr ⟨rfl, by show ((a : Nat) : Int) < ((b : Nat) : Int); omega⟩
    · intro p hp q hq
      obtain ⟨i, _, rfl⟩ := List.mem_map.mp hp
      obtain ⟨n, h1, _⟩ := mem_spI.mp hq
      exact .inl (by show k < q.1; omega)
theorem len_spI : ∀ (ns : List Int) (k : Int), (∀ l ∈ ns, 1 ≤ l) → ((spI k ns).length : Int) = ns.sum
  | [], _, _ => rfl
  | l :: r, k, h => by
    unfold spI
    rw [List.length_append, List.length_map, List.length_range, List.sum_cons]
    have h1 := len_spI r (k + 1) fun x hx => h x (List.mem_cons_of_mem _ hx)
    have h2 := h l List.mem_cons_self
    omega
theorem at_spI : ∀ (ns : List Int) (k : Int) (n : Nat) (i l : Int), (∀ l ∈ ns, 1 ≤ l) → ns[n]? = some l → 0 ≤ i → i < l → (spI k ns)[((ns.take n).sum + i).toNat]? = some (k + n, i) ∧ 0 ≤ (ns.take n).sum
  | [], _, _, _, _, _, h, _, _ => by simp at h
  | a :: r, k, 0, i, l, hp, h, h0, h1 => by
    obtain rfl : a = l := Option.some.inj h
    refine ⟨?_, Int.le_refl _⟩
    show (((List.range a.toNat).map fun i : Nat => (k, (i : Int))) ++ spI (k + 1) r)[(0 + i).toNat]? = _
    rw [Int.zero_add, List.getElem?_append_left (by rw [List.length_map, List.length_range]; omega), List.getElem?_map, List.getElem?_range (by omega)]
    show some (k, ((i.toNat : Nat) : Int)) = some (k + ((0 : Nat) : Int), i)
    rw [Int.toNat_of_nonneg h0]
    simp
  | a :: r, k, n + 1, i, l, hp, h, h0, h1 => by
    obtain ⟨e1, e2⟩ := at_spI r (k + 1) n i l (fun x hx => hp x (List.mem_cons_of_mem _ hx)) h h0 h1
    have ha := hp a List.mem_cons_self
    refine ⟨?_, by rw [List.take_succ_cons, List.sum_cons]; omega⟩
    rw [List.take_succ_cons, List.sum_cons]
    show (((List.range a.toNat).map fun i : Nat => (k, (i : Int))) ++ spI (k + 1) r)[(a + (r.take n).sum + i).toNat]? = _
    rw [List.getElem?_append_right (by rw [List.length_map, List.length_range]; omega), List.length_map, List.length_range, show (a + (r.take n).sum + i).toNat - a.toNat = ((r.take n).sum + i).toNat by omega, e1]
    congr 2
    omega
theorem ltI_ne {p q : Int × Int} (h : ltI p q) : p ≠ q := by
  rintro rfl
  unfold ltI at h
  omega
theorem nd_spI (ns : List Int) (k : Int) : (spI k ns).Nodup := (asc_spI ns k).imp ltI_ne
/-! ### right rings -/
structure RG (ns : List Int) : Prop where
  ne : ns ≠ []
  pos : ∀ l ∈ ns, 1 ≤ l
  sum : ns.sum ≤ 40
theorem sum_ge : ∀ {ns : List Int}, (∀ l ∈ ns, 1 ≤ l) → (ns.length : Int) ≤ ns.sum ∧ ∀ l ∈ ns, l ≤ ns.sum
  | [], _ => ⟨Int.le_refl _, fun _ h => nomatch h⟩
  | a :: r, h => by
    obtain ⟨h1, h2⟩ := sum_ge (ns := r) fun x hx => h x (List.mem_cons_of_mem _ hx)
    have ha := h a List.mem_cons_self
    rw [List.sum_cons, List.length_cons]
    refine ⟨by omega, fun l hl => ?_⟩
    rcases List.mem_cons.mp hl with rfl | hl
    · omega
    · have := h2 l hl
      omega
theorem RG.small {ns : List Int} (h : RG ns) : Small ns := by
  obtain ⟨h1, h2⟩ := sum_ge h.pos
  refine ⟨fun l hl => ?_, ?_, h.pos⟩
  · have := h2 l hl
    have := h.sum
    omega
  · rw [spots_eq, List.length_map]
    have := len_spI ns 0 h.pos
    have := h.sum
    omega
theorem RG.spl {ns : List Int} (h : RG ns) : ((spots ns).length : Int) = ns.sum := by
  rw [spots_eq, List.length_map]
  exact len_spI ns 0 h.pos
theorem RG.rg {ns : List Int} (h : RG ns) : areRg (.tuple (ns.map .int)) = true := by
  obtain ⟨h1, h2⟩ := sum_ge h.pos
  have h3 := h.sum
  have h4 : 0 < ns.length := List.length_pos_iff.mpr h.ne
  show (decide (1 ≤ (ns.map PyData.int).length ∧ (ns.map PyData.int).length ≤ 40) && (ns.map PyData.int).all isLen) = true
  rw [List.length_map, decide_eq_true (by omega), Bool.true_and, List.all_map, List.all_eq_true]
  exact fun l hl => decide_eq_true (h.pos l hl)
theorem pl_iff {ns : List Int} {u i : Int} : isPl ns (plD u i) = true ↔ (u, i) ∈ spI 0 ns := by
  rw [mem_spI]
  constructor
  · intro h
    obtain ⟨n, hn, rfl, h0, h1⟩ := pl_in h
    exact ⟨n, by simp, h0, ns[n], List.getElem?_eq_getElem hn, h1⟩
  · rintro ⟨n, h1, h2, l, h3, h4⟩
    have hn : n < ns.length := (List.getElem?_eq_some_iff.mp h3).1
    have e : u = (n : Int) := by simpa using h1
    subst e
    show (decide (0 ≤ (n : Int) ∧ (n : Int) < ns.length) && decide (0 ≤ i ∧ i < ns.getD (n : Int).toNat 0)) = true
    rw [Int.toNat_natCast, List.getD_eq_getElem?_getD, h3]
    rw [Bool.and_eq_true, decide_eq_true_eq, decide_eq_true_eq]
    exact ⟨by omega, h2, h4⟩
theorem pick_small {xs : List PyData} {b : Int} {y : PyData} (h : ∃ zs : List PyData, ([PyData.tuple xs] = [.tuple zs] ∨ [PyData.tuple xs] = [.list zs]) ∧ y ∈ zs) (hb : xs.all (fun x => match x with | .int j => decide (1 ≤ j ∧ j ≤ b) | _ => false) = true) : ∃ j : Int, y = .int j ∧ 1 ≤ j ∧ j ≤ b := by
  obtain ⟨zs, hz, hy⟩ := h
  rcases hz with e | e
  · injection e with e
    injection e with e
    subst e
    have := List.all_eq_true.mp hb y hy
    cases y with
    | int j => exact ⟨j, rfl, of_decide_eq_true this⟩
    | _ => cases this
  · injection e with e
    cases e
def sp_law_rings : DSp := dkS 1 (fun ds => ∃ n : Int, ds = [.int n] ∧ 1 ≤ n ∧ n ≤ 40) (fun ds y => ∃ ns : List Int, y = .tuple (ns.map .int) ∧ RG ns)
theorem ok_law_rings {P : Program} {w0 : World} {K : PySem.W.Frag} {mg : Str → Option Value} {base : Heap} (b : BI mg) (h : Hd K mg "_law_rings" s_law_rings nP_law_rings) (c_law_pick : DefG P w0 K mg base 2 "_law_pick" s_law_pick nP_law_pick sp_law_pick) : DefG P w0 K mg base 3 "_law_rings" s_law_rings nP_law_rings sp_law_rings := by
  refine mk_def h sc_law_rings dkS_len (pdss_cons (pds_par 2 3 (pda_cons (pd_lst pda_nil) (pda_cons (pd_var 1) pda_nil)) (hw := (fun env e => by cases env; cases e; rfl)))
  (pdss_cons (pds_for (pdi_range1 (pda_cons (pd_call 2 (c_law_pick.to) rfl (pda_cons (pd_var 0) (pda_cons (pd_tup (pda_cons pd_int (pda_cons pd_int (pda_cons pd_int (pda_cons pd_int (pda_cons pd_int (pda_cons pd_int (pda_cons pd_int (pda_cons pd_int pda_nil))))))))) pda_nil))) pda_nil) rfl b.range) (pdg_name 4) (pdss_cons (pds_set 5 (pd_call 2 (c_law_pick.to) rfl (pda_cons (pd_var 0) (pda_cons (pd_tup (pda_cons pd_int (pda_cons pd_int (pda_cons pd_int (pda_cons pd_int (pda_cons pd_int (pda_cons pd_int (pda_cons pd_int (pda_cons pd_int pda_nil))))))))) pda_nil))))
  (pdss_one (pds_if (pdt_cmpD cd_le (pd_var 5) (pd_var 3)) (pdss_cons (pds_expr (pd_append (pd_var 2) (pda_cons (pd_var 5) pda_nil)))
  (pdss_one (pds_set 3 (pd_sub (pd_var 3) (pd_var 5))))) pdss_nil))))
  (pdss_one (pds_ret (pd_ifE (pdt_cmpD cd_neD (pd_var 2) (pd_lst pda_nil)) (pd_tuple rfl b.tuple_ (pda_cons (pd_var 2) pda_nil)) (pd_tup (pda_cons pd_int pda_nil))))))) ?_
  rintro dvs ob R X ⟨ds, c, m, d, rfl, hl, ⟨n, rfl, h1, h2⟩, hc, rfl, hR⟩ sl e1
  have e1 : [some (.o 0), some (.d (.int n)), none, none, none, none] = sl := e1
  subst e1
  try dsimp only [wRet, wAnd, wOr, wUn, wOp, wCa, wCons, wNil, wVar, wC, wSeq, wNext, wPass, wAsg, wExp, wIf, wB, wIfE, wAndT, wOrT, wNotT, wTup, wLst, wSl, dSl, wNoP, wPart, wCall, wCallK, wCallO, wCallP, wDisp, wFrz, wGet1, wGet2, wPut, wNewT, wPar, wgName, wgTup, wgCons, wgNil, wgLst, wiT, wiL, wiR1, wiZip, wiEnu, wiEnuA, wChain, wYes, wBM, wBM0, slot, allD, wipeS, List.map_cons, List.map_nil, List.set_cons_zero, List.set_cons_succ, List.cons_append, List.nil_append, List.isEmpty_nil, List.isEmpty_cons, Bool.not_true, Bool.not_false, wUn, dNot, dII0, dII, dEqS, dNeS, dIsN, dNotN, dNeg, ends, DL.gLt, DL.gLe, DL.gGt, DL.gGe, DL.gAdd, DL.gSub, DL.gMul, DL.gMod, DL.gDiv, DL.gPow]
  refine ⟨Nat.zero_le _, ?_⟩
  refine for_in' (fun xs ρ1 => xs.length ≤ 5 ∧ ∃ (c' : List Int) (m' d' : Int), c'.length ≤ 63 ∧ ρ1 = ⟨[some (.o 0), some (.d (.int n)), some (.o 2), some (.d (.int n)), none, none], [deckO m' d', cellsO c', .lst []]⟩)
    (fun i ρ' => ∃ (c' : List Int) (m' d' : Int) (f : List Int) (a b : Option DV), c'.length ≤ 63 ∧ ρ' = ⟨[some (.o 0), some (.d (.int n)), some (.o 2), some (.d (.int (n - f.sum))), a, b], [deckO m' d', cellsO c', .lst ((f.map PyData.int).map .d)]⟩ ∧ (∀ l ∈ f, 1 ≤ l) ∧ 0 ≤ n - f.sum ∧ f.length ≤ i) (fun C h => ?_) ?_ ?_ ?_
  · try dsimp only [wRet, wAnd, wOr, wUn, wOp, wCa, wCons, wNil, wVar, wC, wSeq, wNext, wPass, wAsg, wExp, wIf, wB, wIfE, wAndT, wOrT, wNotT, wTup, wLst, wSl, dSl, wNoP, wPart, wCall, wCallK, wCallO, wCallP, wDisp, wFrz, wGet1, wGet2, wPut, wNewT, wPar, wgName, wgTup, wgCons, wgNil, wgLst, wiT, wiL, wiR1, wiZip, wiEnu, wiEnuA, wChain, wYes, wBM, wBM0, slot, allD, wipeS, List.map_cons, List.map_nil, List.set_cons_zero, List.set_cons_succ, List.cons_append, List.nil_append, List.isEmpty_nil, List.isEmpty_cons, Bool.not_true, Bool.not_false, wUn, dNot, dII0, dII, dEqS, dNeS, dIsN, dNotN, dNeg, ends, DL.gLt, DL.gLe, DL.gGt, DL.gGe, DL.gAdd, DL.gSub, DL.gMul, DL.gMod, DL.gDiv, DL.gPow]
    refine ⟨by decide, ?_⟩
    refine call_dk [_] rfl ⟨_, .inl rfl, by decide, by decide⟩ hc fun y c' m' d' hv hc' => ?_
    obtain ⟨j, rfl, hj1, hj2⟩ := pick_small (b := 5) hv (by decide)
    try dsimp only [wRet, wAnd, wOr, wUn, wOp, wCa, wCons, wNil, wVar, wC, wSeq, wNext, wPass, wAsg, wExp, wIf, wB, wIfE, wAndT, wOrT, wNotT, wTup, wLst, wSl, dSl, wNoP, wPart, wCall, wCallK, wCallO, wCallP, wDisp, wFrz, wGet1, wGet2, wPut, wNewT, wPar, wgName, wgTup, wgCons, wgNil, wgLst, wiT, wiL, wiR1, wiZip, wiEnu, wiEnuA, wChain, wYes, wBM, wBM0, slot, allD, wipeS, List.map_cons, List.map_nil, List.set_cons_zero, List.set_cons_succ, List.cons_append, List.nil_append, List.isEmpty_nil, List.isEmpty_cons, Bool.not_true, Bool.not_false, wUn, dNot, dII0, dII, dEqS, dNeS, dIsN, dNotN, dNeg, ends, DL.gLt, DL.gLe, DL.gGt, DL.gGe, DL.gAdd, DL.gSub, DL.gMul, DL.gMod, DL.gDiv, DL.gPow]
    exact ⟨by unfold RgB; omega, h _ _ ⟨by rw [rng_len]; omega, c', m', d', hc', rfl⟩⟩
  · rintro xs ρ1 ⟨_, c', m', d', hc', rfl⟩
    exact ⟨c', m', d', [], none, none, hc', by rw [List.sum_nil, Int.sub_zero]; rfl, (fun _ h => nomatch h), by rw [List.sum_nil]; omega, Nat.zero_le _⟩
  · rintro xs ρ1 ⟨hx5, _⟩ i x ρ' hx ⟨c', m', d', f, a, b', hc', rfl, hp, h0, hf⟩
    have hi : i < 5 := Nat.lt_of_lt_of_le (List.getElem?_eq_some_iff.mp hx).1 hx5
    try dsimp only [wRet, wAnd, wOr, wUn, wOp, wCa, wCons, wNil, wVar, wC, wSeq, wNext, wPass, wAsg, wExp, wIf, wB, wIfE, wAndT, wOrT, wNotT, wTup, wLst, wSl, dSl, wNoP, wPart, wCall, wCallK, wCallO, wCallP, wDisp, wFrz, wGet1, wGet2, wPut, wNewT, wPar, wgName, wgTup, wgCons, wgNil, wgLst, wiT, wiL, wiR1, wiZip, wiEnu, wiEnuA, wChain, wYes, wBM, wBM0, slot, allD, wipeS, List.map_cons, List.map_nil, List.set_cons_zero, List.set_cons_succ, List.cons_append, List.nil_append, List.isEmpty_nil, List.isEmpty_cons, Bool.not_true, Bool.not_false, wUn, dNot, dII0, dII, dEqS, dNeS, dIsN, dNotN, dNeg, ends, DL.gLt, DL.gLe, DL.gGt, DL.gGe, DL.gAdd, DL.gSub, DL.gMul, DL.gMod, DL.gDiv, DL.gPow]
    refine ⟨by decide, ?_⟩
    refine call_dk [_] rfl ⟨_, .inl rfl, by decide, by decide⟩ hc' fun y c2 m2 d2 hv hc2 => ?_
    obtain ⟨j, rfl, hj1, hj2⟩ := pick_small (b := 6) hv (by decide)
    try dsimp only [wRet, wAnd, wOr, wUn, wOp, wCa, wCons, wNil, wVar, wC, wSeq, wNext, wPass, wAsg, wExp, wIf, wB, wIfE, wAndT, wOrT, wNotT, wTup, wLst, wSl, dSl, wNoP, wPart, wCall, wCallK, wCallO, wCallP, wDisp, wFrz, wGet1, wGet2, wPut, wNewT, wPar, wgName, wgTup, wgCons, wgNil, wgLst, wiT, wiL, wiR1, wiZip, wiEnu, wiEnuA, wChain, wYes, wBM, wBM0, slot, allD, wipeS, List.map_cons, List.map_nil, List.set_cons_zero, List.set_cons_succ, List.cons_append, List.nil_append, List.isEmpty_nil, List.isEmpty_cons, Bool.not_true, Bool.not_false, wUn, dNot, dII0, dII, dEqS, dNeS, dIsN, dNotN, dNeg, ends, DL.gLt, DL.gLe, DL.gGt, DL.gGe, DL.gAdd, DL.gSub, DL.gMul, DL.gMod, DL.gDiv, DL.gPow]
    by_cases hj : j ≤ n - f.sum
    · rw [decide_eq_true hj]
      try dsimp only [wRet, wAnd, wOr, wUn, wOp, wCa, wCons, wNil, wVar, wC, wSeq, wNext, wPass, wAsg, wExp, wIf, wB, wIfE, wAndT, wOrT, wNotT, wTup, wLst, wSl, dSl, wNoP, wPart, wCall, wCallK, wCallO, wCallP, wDisp, wFrz, wGet1, wGet2, wPut, wNewT, wPar, wgName, wgTup, wgCons, wgNil, wgLst, wiT, wiL, wiR1, wiZip, wiEnu, wiEnuA, wChain, wYes, wBM, wBM0, slot, allD, wipeS, List.map_cons, List.map_nil, List.set_cons_zero, List.set_cons_succ, List.cons_append, List.nil_append, List.isEmpty_nil, List.isEmpty_cons, Bool.not_true, Bool.not_false, wUn, dNot, dII0, dII, dEqS, dNeS, dIsN, dNotN, dNeg, ends, DL.gLt, DL.gLe, DL.gGt, DL.gGe, DL.gAdd, DL.gSub, DL.gMul, DL.gMod, DL.gDiv, DL.gPow]
      refine ⟨u_tyL rfl, ?_⟩
      refine u_app (l := f.map .int) rfl (by rw [List.length_map]; exact small1000 (by omega)) ?_
      try dsimp only [wRet, wAnd, wOr, wUn, wOp, wCa, wCons, wNil, wVar, wC, wSeq, wNext, wPass, wAsg, wExp, wIf, wB, wIfE, wAndT, wOrT, wNotT, wTup, wLst, wSl, dSl, wNoP, wPart, wCall, wCallK, wCallO, wCallP, wDisp, wFrz, wGet1, wGet2, wPut, wNewT, wPar, wgName, wgTup, wgCons, wgNil, wgLst, wiT, wiL, wiR1, wiZip, wiEnu, wiEnuA, wChain, wYes, wBM, wBM0, slot, allD, wipeS, List.map_cons, List.map_nil, List.set_cons_zero, List.set_cons_succ, List.cons_append, List.nil_append, List.isEmpty_nil, List.isEmpty_cons, Bool.not_true, Bool.not_false, wUn, dNot, dII0, dII, dEqS, dNeS, dIsN, dNotN, dNeg, ends, DL.gLt, DL.gLe, DL.gGt, DL.gGe, DL.gAdd, DL.gSub, DL.gMul, DL.gMod, DL.gDiv, DL.gPow]
      refine ⟨c2, m2, d2, f ++ [j], some (.d x), some (.d (.int j)), hc2, ?_, ?_, ?_, ?_⟩
      · rw [List.sum_append, show (f ++ [j]).map PyData.int = f.map PyData.int ++ [PyData.int j] from List.map_append]
        simp only [List.sum_cons, List.sum_nil, Int.add_zero, Int.sub_sub]
      · intro l hl
        rcases List.mem_append.mp hl with hl | hl
        · exact hp l hl
        · rw [List.mem_singleton.mp hl]
          exact hj1
      · rw [List.sum_append]
        simp only [List.sum_cons, List.sum_nil, Int.add_zero]
        omega
      · rw [List.length_append]
        exact Nat.succ_le_succ hf
    · rw [decide_eq_false hj]
      exact ⟨c2, m2, d2, f, _, _, hc2, rfl, hp, h0, Nat.le_succ_of_le hf⟩
  · rintro xs ρ1 ⟨hx5, _⟩ ρ' ⟨c', m', d', f, a, b', hc', rfl, hp, h0, hf⟩
    try dsimp only [wRet, wAnd, wOr, wUn, wOp, wCa, wCons, wNil, wVar, wC, wSeq, wNext, wPass, wAsg, wExp, wIf, wB, wIfE, wAndT, wOrT, wNotT, wTup, wLst, wSl, dSl, wNoP, wPart, wCall, wCallK, wCallO, wCallP, wDisp, wFrz, wGet1, wGet2, wPut, wNewT, wPar, wgName, wgTup, wgCons, wgNil, wgLst, wiT, wiL, wiR1, wiZip, wiEnu, wiEnuA, wChain, wYes, wBM, wBM0, slot, allD, wipeS, List.map_cons, List.map_nil, List.set_cons_zero, List.set_cons_succ, List.cons_append, List.nil_append, List.isEmpty_nil, List.isEmpty_cons, Bool.not_true, Bool.not_false, wUn, dNot, dII0, dII, dEqS, dNeS, dIsN, dNotN, dNeg, ends, DL.gLt, DL.gLe, DL.gGt, DL.gGe, DL.gAdd, DL.gSub, DL.gMul, DL.gMod, DL.gDiv, DL.gPow]
    refine ⟨Nat.zero_le _, ?_⟩
    refine u_neNil (l := f.map .int) rfl rfl (eqs_ints f) ?_
    cases f with
    | nil =>
      try dsimp only [wRet, wAnd, wOr, wUn, wOp, wCa, wCons, wNil, wVar, wC, wSeq, wNext, wPass, wAsg, wExp, wIf, wB, wIfE, wAndT, wOrT, wNotT, wTup, wLst, wSl, dSl, wNoP, wPart, wCall, wCallK, wCallO, wCallP, wDisp, wFrz, wGet1, wGet2, wPut, wNewT, wPar, wgName, wgTup, wgCons, wgNil, wgLst, wiT, wiL, wiR1, wiZip, wiEnu, wiEnuA, wChain, wYes, wBM, wBM0, slot, allD, wipeS, List.map_cons, List.map_nil, List.set_cons_zero, List.set_cons_succ, List.cons_append, List.nil_append, List.isEmpty_nil, List.isEmpty_cons, Bool.not_true, Bool.not_false, wUn, dNot, dII0, dII, dEqS, dNeS, dIsN, dNotN, dNeg, ends, DL.gLt, DL.gLe, DL.gGt, DL.gGe, DL.gAdd, DL.gSub, DL.gMul, DL.gMod, DL.gDiv, DL.gPow]
      exact ⟨by decide, hR _ c' m' d' _ ⟨[1], rfl, by decide, by decide, by decide⟩ hc'⟩
    | cons l r =>
      try dsimp only [wRet, wAnd, wOr, wUn, wOp, wCa, wCons, wNil, wVar, wC, wSeq, wNext, wPass, wAsg, wExp, wIf, wB, wIfE, wAndT, wOrT, wNotT, wTup, wLst, wSl, dSl, wNoP, wPart, wCall, wCallK, wCallO, wCallP, wDisp, wFrz, wGet1, wGet2, wPut, wNewT, wPar, wgName, wgTup, wgCons, wgNil, wgLst, wiT, wiL, wiR1, wiZip, wiEnu, wiEnuA, wChain, wYes, wBM, wBM0, slot, allD, wipeS, List.map_cons, List.map_nil, List.set_cons_zero, List.set_cons_succ, List.cons_append, List.nil_append, List.isEmpty_nil, List.isEmpty_cons, Bool.not_true, Bool.not_false, wUn, dNot, dII0, dII, dEqS, dNeS, dIsN, dNotN, dNeg, ends, DL.gLt, DL.gLe, DL.gGt, DL.gGe, DL.gAdd, DL.gSub, DL.gMul, DL.gMod, DL.gDiv, DL.gPow]
      refine u_tupL (l := (l :: r).map .int) rfl (hR _ c' m' d' _ ⟨l :: r, rfl, fun z => (nomatch z), hp, by omega⟩ hc')
end K02
end

section
set_option Elab.async false
set_option linter.all false
set_option maxRecDepth 100000
set_option maxHeartbeats 1000000
set_option autoImplicit false
namespace K02
open PySem PySem.Spec PyProof.Rows L2 DL
/-! ### touches -/
def p1 (t : Tc) : Int × Int := (t.1, t.2.1)
def p2 (t : Tc) : Int × Int := (t.2.2.1, t.2.2.2)
def sd (t : Tc) : List (Int × Int) := [p1 t, p2 t]
theorem le_trans' {β : Type} (k : β → PyData) : ∀ a b c : β, PySem.W.dataLe false k a b = true → PySem.W.dataLe false k b c = true → PySem.W.dataLe false k a c = true := (PySem.W.sortLe_total _ _ _).trans
theorem le_total' {β : Type} (k : β → PyData) : ∀ a b : β, (PySem.W.dataLe false k a b || PySem.W.dataLe false k b a) = true := fun a b => by
  rw [Bool.or_eq_true]
  exact (PySem.W.sortLe_total _ _ _).total a b
instance {p q : Int × Int} : Decidable (ltI p q) := by unfold ltI; exact inferInstance
theorem lt_pl (p q : Int × Int) : PySem.W.dataLt (plP p) (plP q) = decide (ltI p q) := PySem.W.dataLt_ii p.1 p.2 q.1 q.2
theorem le_pl (p q : Int × Int) : PySem.W.dataLe false id (plP p) (plP q) = decide (¬ ltI q p) := by
  show (!PySem.W.dataLt (plP q) (plP p)) = _
  rw [lt_pl]
  by_cases h : ltI q p <;> simp [h]
theorem ltI_tri {p q : Int × Int} (h : p ≠ q) : ltI p q ∨ ltI q p := by
  unfold ltI
  rcases Int.lt_trichotomy p.1 q.1 with a | a | a
  · exact .inl (.inl a)
  · rcases Int.lt_trichotomy p.2 q.2 with b | b | b
    · exact .inl (.inr ⟨a, b⟩)
    · exact absurd (Prod.ext a b) h
    · exact .inr (.inr ⟨a.symm, b⟩)
  · exact .inr (.inl a)
/-- two places sorted -/
theorem srt_two {p q : Int × Int} (h : p ≠ q) : ∃ t : Tc, srt [plP p, plP q] = [plP (p1 t), plP (p2 t)] ∧ ltI (p1 t) (p2 t) ∧ (sd t).Perm [p, q] := by
  have e : srt [plP p, plP q] = if PySem.W.dataLe false id (plP p) (plP q) = true then [plP p, plP q] else [plP q, plP p] := by
    simp [srt, List.mergeSort, List.MergeSort.Internal.splitInTwo, List.merge]
  rw [le_pl] at e
  by_cases hq : ltI q p
  · rw [if_neg (by simp [hq])] at e
    exact ⟨(q.1, q.2, p.1, p.2), e, hq, List.Perm.swap p q []⟩
  · rw [if_pos (by simp [hq])] at e
    exact ⟨(p.1, p.2, q.1, q.2), e, (ltI_tri h).resolve_right hq, .refl _⟩
theorem tD_eq (t : Tc) : tD t = .tuple [plP (p1 t), plP (p2 t)] := rfl
theorem eqv_pl (p q : Int × Int) : PyData.eqv (plP p) (plP q) = decide (p = q) := by
  show PyData.eqv (.tuple [.int p.1, .int p.2]) (.tuple [.int q.1, .int q.2]) = _
  simp only [PyData.eqv, PyData.eqvAll, Bool.and_true]
  rw [Bool.eq_iff_iff]
  simp [Prod.ext_iff]
theorem alike_pl (p q : Int × Int) : PySem.W.alike (plP p) (plP q) = true := by simp [plP, plD, PySem.W.alike, PySem.W.alikeAll]
theorem lt_tc {s t : Tc} (h : p1 s ≠ p1 t) : PySem.W.dataLt (tD s) (tD t) = decide (ltI (p1 s) (p1 t)) := by
  rw [tD_eq, tD_eq, PySem.W.dataLt_pair (alike_pl _ _) (alike_pl _ _), eqv_pl, if_neg (by simp [h]), lt_pl]
/-- what a right floor is, in numbers -/
structure VF (ns : List Int) (tl : List Tc) : Prop where
  rg : RG ns
  lt : ∀ t ∈ tl, ltI (p1 t) (p2 t)
  mem : ∀ p ∈ tl.flatMap sd, p ∈ spI 0 ns
  nd : (tl.flatMap sd).Nodup
  asc : tl.Pairwise fun s t => ltI (p1 s) (p1 t)
  few : tl.length ≤ 20
theorem tch_tD {ns : List Int} {t : Tc} (h : ltI (p1 t) (p2 t)) (h1 : p1 t ∈ spI 0 ns) (h2 : p2 t ∈ spI 0 ns) : isTch ns (tD t) = true := by
  show (isPl ns (plP (p1 t)) && isPl ns (plP (p2 t)) && PySem.W.dataLt (plP (p1 t)) (plP (p2 t))) = true
  rw [show isPl ns (plP (p1 t)) = true from pl_iff.mpr h1, show isPl ns (plP (p2 t)) = true from pl_iff.mpr h2, lt_pl, decide_eq_true h]
  rfl
theorem asc_tl : ∀ {tl : List Tc}, (tl.Pairwise fun s t => ltI (p1 s) (p1 t)) → asc (tl.map tD) = true
  | [], _ => rfl
  | [_], _ => rfl
  | s :: t :: r, h => by
    have h1 : ltI (p1 s) (p1 t) := (List.pairwise_cons.mp h).1 t List.mem_cons_self
    show (PySem.W.dataLt (tD s) (tD t) && asc ((t :: r).map tD)) = true
    rw [lt_tc (ltI_ne h1), decide_eq_true h1, asc_tl (List.pairwise_cons.mp h).2]
    rfl
def rowP (p : Int × Int) : List Int := [p.1, p.2]
theorem rows_pl : ∀ l : List (Int × Int), rowsI (l.map plP) = some (l.map rowP)
  | [] => rfl
  | p :: r => by
    show (match rowI (plP p), rowsI (r.map plP) with | some x, some l => some (x :: l) | _, _ => none) = _
    rw [rows_pl r]
    rfl
theorem sides_tl : ∀ tl : List Tc, (tl.map tD).flatMap sides = (tl.flatMap sd).map plP
  | [] => rfl
  | t :: r => by
    rw [List.map_cons, List.flatMap_cons, List.flatMap_cons, List.map_append, sides_tl r]
    rfl
theorem dcn_nd : ∀ {l : List (List Int)}, l.Nodup → dcn l = l.length
  | [], _ => rfl
  | x :: r, h => by
    rw [List.nodup_cons] at h
    unfold dcn
    rw [if_neg h.1, dcn_nd h.2, List.length_cons]
theorem rowP_inj {p q : Int × Int} (h : rowP p = rowP q) : p = q := by
  injection h with h1 h2
  injection h2 with h2 _
  exact Prod.ext h1 h2
theorem dist_tl {tl : List Tc} (h : (tl.flatMap sd).Nodup) : dist ((tl.map tD).flatMap sides) = true := by
  unfold dist
  rw [sides_tl, rows_pl]
  refine decide_eq_true (dcn_nd ?_)
  exact List.pairwise_map.mpr (h.imp fun hne he => hne (rowP_inj he))
theorem VF.fl {ns : List Int} {tl : List Tc} (h : VF ns tl) : FlOk ns tl := by
  refine ⟨?_, Nat.le_trans h.few (by decide)⟩
  rw [show flD ns tl = .tuple [.tuple (ns.map .int), .tuple (tl.map tD)] from rfl, isFl_eq h.rg.rg]
  have ht : (tl.map tD).all (isTch ns) = true := by
    rw [List.all_map, List.all_eq_true]
    intro t htm
    exact tch_tD (h.lt t htm) (h.mem _ (List.mem_flatMap.mpr ⟨t, htm, List.mem_cons_self⟩)) (h.mem _ (List.mem_flatMap.mpr ⟨t, htm, List.mem_cons_of_mem _ List.mem_cons_self⟩))
  unfold isFlT
  rw [ht, asc_tl h.asc, dist_tl h.nd]
  rfl
theorem ne_of_nd : ∀ {tl : List Tc}, (tl.flatMap sd).Nodup → tl.Pairwise fun s t => p1 s ≠ p1 t
  | [], _ => .nil
  | t :: r, h => by
    rw [List.flatMap_cons, List.nodup_append] at h
    refine .cons (fun s hs => ?_) (ne_of_nd h.2.1)
    exact h.2.2 _ List.mem_cons_self _ (List.mem_flatMap.mpr ⟨s, hs, List.mem_cons_self⟩)
/-- touches that are found, sorted -/
theorem srt_tl {tl : List Tc} (hlt : ∀ t ∈ tl, ltI (p1 t) (p2 t)) (nd : (tl.flatMap sd).Nodup) : ∃ tl' : List Tc, srt (tl.map tD) = tl'.map tD ∧ tl'.Perm tl ∧ tl'.Pairwise (fun s t => ltI (p1 s) (p1 t)) := by
  have e : (tl.mergeSort (PySem.W.dataLe false tD)).map tD = srt (tl.map tD) := List.map_mergeSort fun a _ b _ => rfl
  have pm := List.mergeSort_perm tl (PySem.W.dataLe false tD)
  refine ⟨_, e.symm, pm, ?_⟩
  have pw := List.pairwise_mergeSort (le_trans' tD) (le_total' tD) tl
  have ne : (tl.mergeSort (PySem.W.dataLe false tD)).Pairwise fun s t => p1 s ≠ p1 t := ne_of_nd ((pm.flatMap_right sd).nodup_iff.mpr nd)
  refine (pw.and ne).imp fun {s t} ⟨h1, h2⟩ => ?_
  have h1 : (!PySem.W.dataLt (tD t) (tD s)) = true := h1
  rw [lt_tc (Ne.symm h2)] at h1
  refine (ltI_tri h2).resolve_right fun z => ?_
  rw [decide_eq_true z] at h1
  cases h1
end K02
end

section
set_option Elab.async false
set_option linter.all false
set_option maxRecDepth 100000
set_option maxHeartbeats 1000000
set_option autoImplicit false
namespace K02
open PySem PySem.Spec PyProof.Rows L2 DL
theorem sorts_of {l : List PyData} (h1 : PyData.hasDictAll l = false) (h2 : PySem.W.AllAlike l) (h3 : ∀ d ∈ l, (∃ x r, d = .tuple (x :: r)) ∧ d.depth ≤ 60) : Sorts l := ⟨h1, h2, .inl fun d hd => (h3 d hd).1, fun d hd => (h3 d hd).2⟩
theorem noDict_map {α : Type} {f : α → PyData} (h : ∀ a, (f a).hasDict = false) : ∀ l : List α, PyData.hasDictAll (l.map f) = false
  | [] => rfl
  | x :: r => by simp [PyData.hasDictAll, h x, noDict_map h r]
theorem dict_pl (p : Int × Int) : (plP p).hasDict = false := by simp [plP, plD, PyData.hasDict, PyData.hasDictAll]
theorem dict_tc (t : Tc) : (tD t).hasDict = false := by simp [tD, plD, PyData.hasDict, PyData.hasDictAll]
theorem depth_pl (p : Int × Int) : (plP p).depth ≤ 60 := by simp [plP, plD, PyData.depth, PyData.depthAll]
theorem depth_tc (t : Tc) : (tD t).depth ≤ 60 := by simp [tD, plD, PyData.depth, PyData.depthAll]
theorem alike_tc (s t : Tc) : PySem.W.alike (tD s) (tD t) = true := by simp [tD, plD, PySem.W.alike, PySem.W.alikeAll]
theorem sorts_pl (l : List (Int × Int)) : Sorts (l.map plP) := sorts_of (noDict_map dict_pl l) (PySem.W.AllAlike.of fun a b => alike_pl a b) fun d hd => by
  obtain ⟨p, _, rfl⟩ := List.mem_map.mp hd
  exact ⟨⟨_, _, rfl⟩, depth_pl p⟩
theorem sorts_tc (l : List Tc) : Sorts (l.map tD) := sorts_of (noDict_map dict_tc l) (PySem.W.AllAlike.of fun a b => alike_tc a b) fun d hd => by
  obtain ⟨p, _, rfl⟩ := List.mem_map.mp hd
  exact ⟨⟨_, _, rfl⟩, depth_tc p⟩
theorem wg_lst {n : Nat} {wr : WGs} {ρ : S} {k : Nat} {l : List PyData} {Q : S → Prop} (h : obK ρ k = .lst (l.map .d)) (hl : l.length = n) (q : wr l ρ Q) : wgLst n wr (.o k) ρ Q := by
  show (match obK ρ k with | .lst xs => (match allD xs with | some ds => ds.length = n ∧ wr ds ρ Q | none => False) | _ => False)
  rw [h]
  show (match allD (l.map .d) with | some ds => ds.length = n ∧ wr ds ρ Q | none => False)
  rw [allD_map]
  exact ⟨hl, q⟩
/-- a drawn order of the places -/
theorem order_idx {p : List PyData} {N : Nat} (h : p.Perm (rng 0 N)) : ∃ idx : List Nat, p = idx.map (fun k : Nat => .int (k : Int)) ∧ idx.Perm (List.range N) := by
  have hr : rng 0 N = (List.range N).map fun k : Nat => PyData.int (k : Int) := by
    unfold rng
    exact List.map_congr_left fun k _ => by rw [Int.zero_add]
  rw [hr] at h
  let g : PyData → Nat := fun x => match x with | .int i => i.toNat | _ => 0
  refine ⟨p.map g, ?_, ?_⟩
  · rw [List.map_map]
    conv => lhs; rw [← List.map_id p]
    refine List.map_congr_left fun x hx => ?_
    obtain ⟨k, _, rfl⟩ := List.mem_map.mp (h.mem_iff.mp hx)
    rfl
  · have := h.map g
    rw [List.map_map] at this
    have e : (List.range N).map (g ∘ fun k : Nat => PyData.int (k : Int)) = List.range N := by
      conv => rhs; rw [← List.map_id (List.range N)]
      exact List.map_congr_left fun k _ => rfl
    rwa [e] at this
/-- the places in a drawn order -/
structure Ord (ns : List Int) (p : List PyData) (sp : List (Int × Int)) : Prop where
  at_ : ∀ (m : Nat) (h : m < sp.length), ∃ k : Int, atI p (m : Int) = some (.int k) ∧ atI (spots ns) k = some (plP sp[m])
  pm : sp.Perm (spI 0 ns)
theorem ord_of {ns : List Int} {p : List PyData} (h : p.Perm (rng 0 (spots ns).length)) : ∃ sp, Ord ns p sp := by
  have hN : (spots ns).length = (spI 0 ns).length := by rw [spots_eq, List.length_map]
  rw [hN] at h
  obtain ⟨idx, rfl, hp⟩ := order_idx h
  refine ⟨idx.map fun k => (spI 0 ns).getD k (0, 0), fun m hm => ?_, ?_⟩
  · rw [List.length_map] at hm
    have hk : idx[m] < (spI 0 ns).length := List.mem_range.mp (hp.mem_iff.mp (List.getElem_mem hm))
    refine ⟨idx[m], atI_nat (by rw [List.getElem?_map, List.getElem?_eq_getElem hm]; rfl), atI_nat ?_⟩
    rw [spots_eq, List.getElem?_map, List.getElem?_eq_getElem hk, List.getElem_map, List.getD_eq_getElem?_getD, List.getElem?_eq_getElem hk]
    rfl
  · refine (hp.map _).trans ?_
    have : (List.range (spI 0 ns).length).map (fun k => (spI 0 ns).getD k (0, 0)) = spI 0 ns := by
      apply List.ext_getElem?
      intro k
      rw [List.getElem?_map]
      by_cases hk : k < (spI 0 ns).length
      · rw [List.getElem?_range hk, List.getElem?_eq_getElem hk]
        show some ((spI 0 ns).getD k (0, 0)) = _
        rw [List.getD_eq_getElem?_getD, List.getElem?_eq_getElem hk]
        rfl
      · rw [List.getElem?_eq_none (by rw [List.length_range]; omega), List.getElem?_eq_none (by omega)]
        rfl
    rw [this]
theorem Ord.len {ns : List Int} {p : List PyData} {sp : List (Int × Int)} (h : Ord ns p sp) : sp.length = (spots ns).length := by
  rw [h.pm.length_eq, spots_eq, List.length_map]
/-- the touches after some turns -/
structure TT (sp : List (Int × Int)) (i : Nat) (tl : List Tc) : Prop where
  lt : ∀ t ∈ tl, ltI (p1 t) (p2 t)
  pm : (tl.flatMap sd).Perm (sp.take (2 * i))
  len : tl.length = i
theorem tt_nil (sp : List (Int × Int)) : TT sp 0 [] := ⟨fun _ h => (nomatch h), by simp, rfl⟩
theorem take_two {α : Type} {l : List α} {n : Nat} (h : n + 1 < l.length) : l.take (n + 2) = l.take n ++ [l[n], l[n + 1]] := by
  rw [show n + 2 = (n + 1) + 1 from rfl, List.take_succ, List.take_succ, List.getElem?_eq_getElem h, List.getElem?_eq_getElem (Nat.lt_of_succ_lt h), List.append_assoc]
  rfl
theorem TT.step {sp : List (Int × Int)} {i : Nat} {tl : List Tc} {t : Tc} (h : TT sp i tl) (hi : 2 * i + 1 < sp.length) (h1 : ltI (p1 t) (p2 t)) (h2 : (sd t).Perm [sp[2 * i], sp[2 * i + 1]]) : TT sp (i + 1) (tl ++ [t]) := by
  refine ⟨fun s hs => ?_, ?_, by rw [List.length_append, h.len]; rfl⟩
  · rcases List.mem_append.mp hs with hs | hs
    · exact h.lt s hs
    · rw [List.mem_singleton.mp hs]
      exact h1
  · rw [List.flatMap_append, show 2 * (i + 1) = 2 * i + 2 by omega, take_two hi]
    exact h.pm.append (by simpa using h2)
theorem TT.vf {ns : List Int} {p : List PyData} {sp : List (Int × Int)} {i : Nat} {tl : List Tc} (h : TT sp i tl) (ho : Ord ns p sp) (hr : RG ns) (hi : i ≤ 20) : ∃ tl', srt (tl.map tD) = tl'.map tD ∧ VF ns tl' := by
  have nd0 : sp.Nodup := ho.pm.nodup_iff.mpr (nd_spI ns 0)
  have nd : (tl.flatMap sd).Nodup := h.pm.nodup_iff.mpr (nd0.sublist (List.take_sublist _ _))
  obtain ⟨tl', e, pm, ps⟩ := srt_tl h.lt nd
  have pf := pm.flatMap_right sd
  refine ⟨tl', e, hr, fun t ht => h.lt t (pm.mem_iff.mp ht), fun q hq => ?_, pf.nodup_iff.mpr nd, ps, by rw [pm.length_eq, h.len]; exact hi⟩
  exact ho.pm.mem_iff.mp (List.mem_of_mem_take (h.pm.mem_iff.mp (pf.mem_iff.mp hq)))
theorem nd_two {sp : List (Int × Int)} (h : sp.Nodup) {i : Nat} (hi : i + 1 < sp.length) : sp[i] ≠ sp[i + 1] := fun e => by
  have := (List.getElem_inj h).mp e
  omega
def sp_law_floor : DSp := dkS 1 (fun ds => ∃ n : Int, ds = [.int n] ∧ 1 ≤ n ∧ n ≤ 40) (fun ds y => ∃ ns tl, y = flD ns tl ∧ VF ns tl)
theorem ok_law_floor {P : Program} {w0 : World} {K : PySem.W.Frag} {mg : Str → Option Value} {base : Heap} (b : BI mg) (h : Hd K mg "_law_floor" s_law_floor nP_law_floor) (c_law_draw : DefG P w0 K mg base 1 "_law_draw" s_law_draw nP_law_draw sp_law_draw) (c_law_order : DefG P w0 K mg base 2 "_law_order" s_law_order nP_law_order sp_law_order) (c_law_rings : DefG P w0 K mg base 3 "_law_rings" s_law_rings nP_law_rings sp_law_rings) (c_law_spots : DefG P w0 K mg base 1 "_law_spots" s_law_spots nP_law_spots sp_law_spots) : DefG P w0 K mg base 4 "_law_floor" s_law_floor nP_law_floor sp_law_floor := by
  refine mk_def h sc_law_floor dkS_len (pdss_cons (pds_par 2 3 (pda_cons (pd_call 2 (c_law_rings.to) rfl (pda_cons (pd_var 0) (pda_cons (pd_var 1) pda_nil))) (pda_cons (pd_lst pda_nil) pda_nil)) (hw := (fun env e => by cases env; cases e; rfl)))
  (pdss_cons (pds_set 4 (pd_call 0 (c_law_spots.to) rfl (pda_cons (pd_var 2) pda_nil)))
  (pdss_cons (pds_par 5 6 (pda_cons (pd_call 2 (c_law_order.to) rfl (pda_cons (pd_var 0) (pda_cons (pd_len rfl b.len (pda_cons (pd_var 4) pda_nil)) pda_nil))) (pda_cons (pd_call 2 (c_law_draw.to) rfl (pda_cons (pd_var 0) (pda_cons pd_int pda_nil))) pda_nil)) (hw := (fun env e => by cases env; cases e; rfl)))
  (pdss_cons (pds_for (pdi_range1 (pda_cons (pd_ifE (pdt_cmpD cd_gt (pd_var 6) pd_int) (pd_call 2 (c_law_draw.to) rfl (pda_cons (pd_var 0) (pda_cons (pd_add (pd_min2 rfl b.min (pda_cons pd_int (pda_cons (pd_fdiv (pd_len rfl b.len (pda_cons (pd_var 4) pda_nil)) pd_int) pda_nil))) pd_int) pda_nil))) (pd_min2 rfl b.min (pda_cons pd_int (pda_cons (pd_fdiv (pd_len rfl b.len (pda_cons (pd_var 4) pda_nil)) pd_int) pda_nil)))) pda_nil) rfl b.range) (pdg_name 7) (pdss_cons (pds_asg (pd_sorted rfl b.sorted (pda_cons (pd_lst (pda_cons (pd_ix (pd_var 4) (pd_ix (pd_var 5) (pd_mul pd_int (pd_var 7)))) (pda_cons (pd_ix (pd_var 4) (pd_ix (pd_var 5) (pd_add (pd_mul pd_int (pd_var 7)) pd_int))) pda_nil))) pda_nil)) (pdg_lst (n := 2) (pdgs_cons (pdg_name 8) (pdgs_cons (pdg_name 9) pdgs_nil))))
  (pdss_one (pds_expr (pd_append (pd_var 3) (pda_cons (pd_tup (pda_cons (pd_var 8) (pda_cons (pd_var 9) pda_nil))) pda_nil))))))
  (pdss_one (pds_ret (pd_tup (pda_cons (pd_var 2) (pda_cons (pd_tuple rfl b.tuple_ (pda_cons (pd_sorted rfl b.sorted (pda_cons (pd_var 3) pda_nil)) pda_nil)) pda_nil))))))))) ?_
  rintro dvs ob R X ⟨ds, c, m, d, rfl, hl, ⟨n, rfl, h1, h2⟩, hc, rfl, hR⟩ sl e1
  have e1 : [some (.o 0), some (.d (.int n)), none, none, none, none, none, none, none, none] = sl := e1
  subst e1
  try dsimp only [wRet, wAnd, wOr, wUn, wOp, wCa, wCons, wNil, wVar, wC, wSeq, wNext, wPass, wAsg, wExp, wIf, wB, wIfE, wAndT, wOrT, wNotT, wTup, wLst, wSl, dSl, wNoP, wPart, wCall, wCallK, wCallO, wCallP, wDisp, wFrz, wGet1, wGet2, wPut, wNewT, wPar, wgName, wgTup, wgCons, wgNil, wiT, wiL, wiR1, wiZip, wiEnu, wiEnuA, wChain, wYes, wBM, wBM0, slot, allD, wipeS, List.map_cons, List.map_nil, List.set_cons_zero, List.set_cons_succ, List.cons_append, List.nil_append, List.isEmpty_nil, List.isEmpty_cons, Bool.not_true, Bool.not_false, wUn, dNot, dII0, dII, dEqS, dNeS, dIsN, dNotN, dNeg, ends, DL.gLt, DL.gLe, DL.gGt, DL.gGe, DL.gAdd, DL.gSub, DL.gMul, DL.gMod, DL.gDiv, DL.gPow]
  refine call_dk [_] rfl ⟨_, rfl, h1, h2⟩ hc fun y c1 m1 d1 hv hc1 => ?_
  obtain ⟨ns, rfl, hr⟩ := hv
  try dsimp only [wRet, wAnd, wOr, wUn, wOp, wCa, wCons, wNil, wVar, wC, wSeq, wNext, wPass, wAsg, wExp, wIf, wB, wIfE, wAndT, wOrT, wNotT, wTup, wLst, wSl, dSl, wNoP, wPart, wCall, wCallK, wCallO, wCallP, wDisp, wFrz, wGet1, wGet2, wPut, wNewT, wPar, wgName, wgTup, wgCons, wgNil, wiT, wiL, wiR1, wiZip, wiEnu, wiEnuA, wChain, wYes, wBM, wBM0, slot, allD, wipeS, List.map_cons, List.map_nil, List.set_cons_zero, List.set_cons_succ, List.cons_append, List.nil_append, List.isEmpty_nil, List.isEmpty_cons, Bool.not_true, Bool.not_false, wUn, dNot, dII0, dII, dEqS, dNeS, dIsN, dNotN, dNeg, ends, DL.gLt, DL.gLe, DL.gGt, DL.gGe, DL.gAdd, DL.gSub, DL.gMul, DL.gMod, DL.gDiv, DL.gPow]
  refine ⟨Nat.zero_le _, ?_⟩
  try dsimp only [wRet, wAnd, wOr, wUn, wOp, wCa, wCons, wNil, wVar, wC, wSeq, wNext, wPass, wAsg, wExp, wIf, wB, wIfE, wAndT, wOrT, wNotT, wTup, wLst, wSl, dSl, wNoP, wPart, wCall, wCallK, wCallO, wCallP, wDisp, wFrz, wGet1, wGet2, wPut, wNewT, wPar, wgName, wgTup, wgCons, wgNil, wiT, wiL, wiR1, wiZip, wiEnu, wiEnuA, wChain, wYes, wBM, wBM0, slot, allD, wipeS, List.map_cons, List.map_nil, List.set_cons_zero, List.set_cons_succ, List.cons_append, List.nil_append, List.isEmpty_nil, List.isEmpty_cons, Bool.not_true, Bool.not_false, wUn, dNot, dII0, dII, dEqS, dNeS, dIsN, dNotN, dNeg, ends, DL.gLt, DL.gLe, DL.gGt, DL.gGe, DL.gAdd, DL.gSub, DL.gMul, DL.gMod, DL.gDiv, DL.gPow]
  refine call_pur0 [.tuple (ns.map .int)] (.list (spots ns)) rfl ⟨ns, .inl rfl, hr.small, rfl⟩ ?_
  try dsimp only [wRet, wAnd, wOr, wUn, wOp, wCa, wCons, wNil, wVar, wC, wSeq, wNext, wPass, wAsg, wExp, wIf, wB, wIfE, wAndT, wOrT, wNotT, wTup, wLst, wSl, dSl, wNoP, wPart, wCall, wCallK, wCallO, wCallP, wDisp, wFrz, wGet1, wGet2, wPut, wNewT, wPar, wgName, wgTup, wgCons, wgNil, wiT, wiL, wiR1, wiZip, wiEnu, wiEnuA, wChain, wYes, wBM, wBM0, slot, allD, wipeS, List.map_cons, List.map_nil, List.set_cons_zero, List.set_cons_succ, List.cons_append, List.nil_append, List.isEmpty_nil, List.isEmpty_cons, Bool.not_true, Bool.not_false, wUn, dNot, dII0, dII, dEqS, dNeS, dIsN, dNotN, dNeg, ends, DL.gLt, DL.gLe, DL.gGt, DL.gGe, DL.gAdd, DL.gSub, DL.gMul, DL.gMod, DL.gDiv, DL.gPow]
  refine u_lenL ?_
  have hN : (spots ns).length ≤ 1000 := hr.small.2.1
  refine call_dk [_] rfl ⟨_, rfl, by omega, by omega⟩ hc1 fun y c2 m2 d2 hv hc2 => ?_
  obtain ⟨k, p, e, rfl, hp⟩ := hv
  injection e with e
  injection e with e
  subst e
  rw [Int.toNat_natCast] at hp
  obtain ⟨sp, ho⟩ := ord_of hp
  try dsimp only [wRet, wAnd, wOr, wUn, wOp, wCa, wCons, wNil, wVar, wC, wSeq, wNext, wPass, wAsg, wExp, wIf, wB, wIfE, wAndT, wOrT, wNotT, wTup, wLst, wSl, dSl, wNoP, wPart, wCall, wCallK, wCallO, wCallP, wDisp, wFrz, wGet1, wGet2, wPut, wNewT, wPar, wgName, wgTup, wgCons, wgNil, wiT, wiL, wiR1, wiZip, wiEnu, wiEnuA, wChain, wYes, wBM, wBM0, slot, allD, wipeS, List.map_cons, List.map_nil, List.set_cons_zero, List.set_cons_succ, List.cons_append, List.nil_append, List.isEmpty_nil, List.isEmpty_cons, Bool.not_true, Bool.not_false, wUn, dNot, dII0, dII, dEqS, dNeS, dIsN, dNotN, dNeg, ends, DL.gLt, DL.gLe, DL.gGt, DL.gGe, DL.gAdd, DL.gSub, DL.gMul, DL.gMod, DL.gDiv, DL.gPow]
  refine call_dk [_] rfl ⟨_, rfl, by decide, by decide⟩ hc2 fun y c3 m3 d3 hv hc3 => ?_
  obtain ⟨_, w, _, rfl, _, _⟩ := hv
  try dsimp only [wRet, wAnd, wOr, wUn, wOp, wCa, wCons, wNil, wVar, wC, wSeq, wNext, wPass, wAsg, wExp, wIf, wB, wIfE, wAndT, wOrT, wNotT, wTup, wLst, wSl, dSl, wNoP, wPart, wCall, wCallK, wCallO, wCallP, wDisp, wFrz, wGet1, wGet2, wPut, wNewT, wPar, wgName, wgTup, wgCons, wgNil, wiT, wiL, wiR1, wiZip, wiEnu, wiEnuA, wChain, wYes, wBM, wBM0, slot, allD, wipeS, List.map_cons, List.map_nil, List.set_cons_zero, List.set_cons_succ, List.cons_append, List.nil_append, List.isEmpty_nil, List.isEmpty_cons, Bool.not_true, Bool.not_false, wUn, dNot, dII0, dII, dEqS, dNeS, dIsN, dNotN, dNeg, ends, DL.gLt, DL.gLe, DL.gGt, DL.gGe, DL.gAdd, DL.gSub, DL.gMul, DL.gMod, DL.gDiv, DL.gPow]
  have hnd : sp.Nodup := ho.pm.nodup_iff.mpr (nd_spI ns 0)
  have hsp := ho.len
  refine for_in' (fun xs ρ1 => xs.length ≤ 20 ∧ 2 * xs.length ≤ (spots ns).length ∧ (∀ (i : Nat) (x : PyData), xs[i]? = some x → x = .int (i : Nat)) ∧ ∃ (c' : List Int) (m' d' : Int), c'.length ≤ 63 ∧ ρ1 = ⟨[some (.o 0), some (.d (.int n)), some (.d (.tuple (ns.map .int))), some (.o 2), some (.d (.list (spots ns))), some (.d (.tuple p)), some (.d (.int w)), none, none, none], [deckO m' d', cellsO c', .lst []]⟩)
    (fun i ρ' => ∃ (c' : List Int) (m' d' : Int) (tl : List Tc) (g : List OB) (a b f : Option DV), c'.length ≤ 63 ∧ ρ' = ⟨[some (.o 0), some (.d (.int n)), some (.d (.tuple (ns.map .int))), some (.o 2), some (.d (.list (spots ns))), some (.d (.tuple p)), some (.d (.int w)), a, b, f], deckO m' d' :: cellsO c' :: .lst ((tl.map tD).map .d) :: g⟩ ∧ TT sp i tl) (fun C h => ?_) ?_ ?_ ?_
  · have fin : ∀ (j : Int) (c' : List Int) (m' d' : Int), c'.length ≤ 63 → 0 ≤ j → j ≤ 20 → 2 * j ≤ (spots ns).length → C (rng 0 j.toNat) ⟨[some (.o 0), some (.d (.int n)), some (.d (.tuple (ns.map .int))), some (.o 2), some (.d (.list (spots ns))), some (.d (.tuple p)), some (.d (.int w)), none, none, none], [deckO m' d', cellsO c', .lst []]⟩ := fun j c' m' d' hc' j0 j1 j2 =>
      h _ _ ⟨by rw [rng_len]; omega, by rw [rng_len]; omega, fun i x hx => by
        obtain ⟨_, rfl⟩ := rng_get hx
        rw [Int.zero_add], c', m', d', hc', rfl⟩
    try dsimp only [wRet, wAnd, wOr, wUn, wOp, wCa, wCons, wNil, wVar, wC, wSeq, wNext, wPass, wAsg, wExp, wIf, wB, wIfE, wAndT, wOrT, wNotT, wTup, wLst, wSl, dSl, wNoP, wPart, wCall, wCallK, wCallO, wCallP, wDisp, wFrz, wGet1, wGet2, wPut, wNewT, wPar, wgName, wgTup, wgCons, wgNil, wiT, wiL, wiR1, wiZip, wiEnu, wiEnuA, wChain, wYes, wBM, wBM0, slot, allD, wipeS, List.map_cons, List.map_nil, List.set_cons_zero, List.set_cons_succ, List.cons_append, List.nil_append, List.isEmpty_nil, List.isEmpty_cons, Bool.not_true, Bool.not_false, wUn, dNot, dII0, dII, dEqS, dNeS, dIsN, dNotN, dNeg, ends, DL.gLt, DL.gLe, DL.gGt, DL.gGe, DL.gAdd, DL.gSub, DL.gMul, DL.gMod, DL.gDiv, DL.gPow]
    by_cases hw : (0 : Int) < w
    · rw [decide_eq_true hw]
      try dsimp only [wRet, wAnd, wOr, wUn, wOp, wCa, wCons, wNil, wVar, wC, wSeq, wNext, wPass, wAsg, wExp, wIf, wB, wIfE, wAndT, wOrT, wNotT, wTup, wLst, wSl, dSl, wNoP, wPart, wCall, wCallK, wCallO, wCallP, wDisp, wFrz, wGet1, wGet2, wPut, wNewT, wPar, wgName, wgTup, wgCons, wgNil, wiT, wiL, wiR1, wiZip, wiEnu, wiEnuA, wChain, wYes, wBM, wBM0, slot, allD, wipeS, List.map_cons, List.map_nil, List.set_cons_zero, List.set_cons_succ, List.cons_append, List.nil_append, List.isEmpty_nil, List.isEmpty_cons, Bool.not_true, Bool.not_false, wUn, dNot, dII0, dII, dEqS, dNeS, dIsN, dNotN, dNeg, ends, DL.gLt, DL.gLe, DL.gGt, DL.gGe, DL.gAdd, DL.gSub, DL.gMul, DL.gMod, DL.gDiv, DL.gPow]
      refine u_lenL ?_
      try dsimp only [wRet, wAnd, wOr, wUn, wOp, wCa, wCons, wNil, wVar, wC, wSeq, wNext, wPass, wAsg, wExp, wIf, wB, wIfE, wAndT, wOrT, wNotT, wTup, wLst, wSl, dSl, wNoP, wPart, wCall, wCallK, wCallO, wCallP, wDisp, wFrz, wGet1, wGet2, wPut, wNewT, wPar, wgName, wgTup, wgCons, wgNil, wiT, wiL, wiR1, wiZip, wiEnu, wiEnuA, wChain, wYes, wBM, wBM0, slot, allD, wipeS, List.map_cons, List.map_nil, List.set_cons_zero, List.set_cons_succ, List.cons_append, List.nil_append, List.isEmpty_nil, List.isEmpty_cons, Bool.not_true, Bool.not_false, wUn, dNot, dII0, dII, dEqS, dNeS, dIsN, dNotN, dNeg, ends, DL.gLt, DL.gLe, DL.gGt, DL.gGe, DL.gAdd, DL.gSub, DL.gMul, DL.gMod, DL.gDiv, DL.gPow]
      refine ⟨⟨by decide, by decide⟩, ?_⟩
      unfold dMin
      try dsimp only [wRet, wAnd, wOr, wUn, wOp, wCa, wCons, wNil, wVar, wC, wSeq, wNext, wPass, wAsg, wExp, wIf, wB, wIfE, wAndT, wOrT, wNotT, wTup, wLst, wSl, dSl, wNoP, wPart, wCall, wCallK, wCallO, wCallP, wDisp, wFrz, wGet1, wGet2, wPut, wNewT, wPar, wgName, wgTup, wgCons, wgNil, wiT, wiL, wiR1, wiZip, wiEnu, wiEnuA, wChain, wYes, wBM, wBM0, slot, allD, wipeS, List.map_cons, List.map_nil, List.set_cons_zero, List.set_cons_succ, List.cons_append, List.nil_append, List.isEmpty_nil, List.isEmpty_cons, Bool.not_true, Bool.not_false, wUn, dNot, dII0, dII, dEqS, dNeS, dIsN, dNotN, dNeg, ends, DL.gLt, DL.gLe, DL.gGt, DL.gGe, DL.gAdd, DL.gSub, DL.gMul, DL.gMod, DL.gDiv, DL.gPow]
      refine call_dk [_] rfl ⟨_, rfl, ?_, ?_⟩ hc3 fun y c4 m4 d4 hv hc4 => ?_
      · split <;> omega
      · split <;> omega
      · obtain ⟨q, r, e, rfl, r0, r1⟩ := hv
        injection e with e
        injection e with e
        subst e
        try dsimp only [wRet, wAnd, wOr, wUn, wOp, wCa, wCons, wNil, wVar, wC, wSeq, wNext, wPass, wAsg, wExp, wIf, wB, wIfE, wAndT, wOrT, wNotT, wTup, wLst, wSl, dSl, wNoP, wPart, wCall, wCallK, wCallO, wCallP, wDisp, wFrz, wGet1, wGet2, wPut, wNewT, wPar, wgName, wgTup, wgCons, wgNil, wiT, wiL, wiR1, wiZip, wiEnu, wiEnuA, wChain, wYes, wBM, wBM0, slot, allD, wipeS, List.map_cons, List.map_nil, List.set_cons_zero, List.set_cons_succ, List.cons_append, List.nil_append, List.isEmpty_nil, List.isEmpty_cons, Bool.not_true, Bool.not_false, wUn, dNot, dII0, dII, dEqS, dNeS, dIsN, dNotN, dNeg, ends, DL.gLt, DL.gLe, DL.gGt, DL.gGe, DL.gAdd, DL.gSub, DL.gMul, DL.gMod, DL.gDiv, DL.gPow]
        refine ⟨?_, fin r _ _ _ hc4 r0 ?_ ?_⟩
        · unfold RgB
          split at r1 <;> omega
        · split at r1 <;> omega
        · split at r1 <;> omega
    · rw [decide_eq_false hw]
      try dsimp only [wRet, wAnd, wOr, wUn, wOp, wCa, wCons, wNil, wVar, wC, wSeq, wNext, wPass, wAsg, wExp, wIf, wB, wIfE, wAndT, wOrT, wNotT, wTup, wLst, wSl, dSl, wNoP, wPart, wCall, wCallK, wCallO, wCallP, wDisp, wFrz, wGet1, wGet2, wPut, wNewT, wPar, wgName, wgTup, wgCons, wgNil, wiT, wiL, wiR1, wiZip, wiEnu, wiEnuA, wChain, wYes, wBM, wBM0, slot, allD, wipeS, List.map_cons, List.map_nil, List.set_cons_zero, List.set_cons_succ, List.cons_append, List.nil_append, List.isEmpty_nil, List.isEmpty_cons, Bool.not_true, Bool.not_false, wUn, dNot, dII0, dII, dEqS, dNeS, dIsN, dNotN, dNeg, ends, DL.gLt, DL.gLe, DL.gGt, DL.gGe, DL.gAdd, DL.gSub, DL.gMul, DL.gMod, DL.gDiv, DL.gPow]
      refine u_lenL ?_
      try dsimp only [wRet, wAnd, wOr, wUn, wOp, wCa, wCons, wNil, wVar, wC, wSeq, wNext, wPass, wAsg, wExp, wIf, wB, wIfE, wAndT, wOrT, wNotT, wTup, wLst, wSl, dSl, wNoP, wPart, wCall, wCallK, wCallO, wCallP, wDisp, wFrz, wGet1, wGet2, wPut, wNewT, wPar, wgName, wgTup, wgCons, wgNil, wiT, wiL, wiR1, wiZip, wiEnu, wiEnuA, wChain, wYes, wBM, wBM0, slot, allD, wipeS, List.map_cons, List.map_nil, List.set_cons_zero, List.set_cons_succ, List.cons_append, List.nil_append, List.isEmpty_nil, List.isEmpty_cons, Bool.not_true, Bool.not_false, wUn, dNot, dII0, dII, dEqS, dNeS, dIsN, dNotN, dNeg, ends, DL.gLt, DL.gLe, DL.gGt, DL.gGe, DL.gAdd, DL.gSub, DL.gMul, DL.gMod, DL.gDiv, DL.gPow]
      refine ⟨⟨by decide, by decide⟩, ?_⟩
      unfold dMin
      try dsimp only [wRet, wAnd, wOr, wUn, wOp, wCa, wCons, wNil, wVar, wC, wSeq, wNext, wPass, wAsg, wExp, wIf, wB, wIfE, wAndT, wOrT, wNotT, wTup, wLst, wSl, dSl, wNoP, wPart, wCall, wCallK, wCallO, wCallP, wDisp, wFrz, wGet1, wGet2, wPut, wNewT, wPar, wgName, wgTup, wgCons, wgNil, wiT, wiL, wiR1, wiZip, wiEnu, wiEnuA, wChain, wYes, wBM, wBM0, slot, allD, wipeS, List.map_cons, List.map_nil, List.set_cons_zero, List.set_cons_succ, List.cons_append, List.nil_append, List.isEmpty_nil, List.isEmpty_cons, Bool.not_true, Bool.not_false, wUn, dNot, dII0, dII, dEqS, dNeS, dIsN, dNotN, dNeg, ends, DL.gLt, DL.gLe, DL.gGt, DL.gGe, DL.gAdd, DL.gSub, DL.gMul, DL.gMod, DL.gDiv, DL.gPow]
      refine ⟨?_, fin _ _ _ _ hc3 ?_ ?_ ?_⟩
      · unfold RgB
        split <;> omega
      · split <;> omega
      · split <;> omega
      · split <;> omega
  · rintro xs ρ1 ⟨_, _, _, c', m', d', hc', rfl⟩
    exact ⟨c', m', d', [], [], none, none, none, hc', rfl, tt_nil sp⟩
  · rintro xs ρ1 ⟨hx1, hx2, hx3, _⟩ i x ρ' hx ⟨c', m', d', tl, g, a, b', f, hc', rfl, ht⟩
    have hi : i < xs.length := (List.getElem?_eq_some_iff.mp hx).1
    obtain rfl := hx3 i x hx
    have hm1 : 2 * i < sp.length := by omega
    have hm2 : 2 * i + 1 < sp.length := by omega
    obtain ⟨k1, a1, a2⟩ := ho.at_ (2 * i) hm1
    obtain ⟨k2, b1, b2⟩ := ho.at_ (2 * i + 1) hm2
    rw [Int.natCast_mul] at a1
    rw [Int.natCast_add, Int.natCast_mul] at b1
    obtain ⟨t, es, et1, et2⟩ := srt_two (nd_two hnd hm2)
    try dsimp only [wRet, wAnd, wOr, wUn, wOp, wCa, wCons, wNil, wVar, wC, wSeq, wNext, wPass, wAsg, wExp, wIf, wB, wIfE, wAndT, wOrT, wNotT, wTup, wLst, wSl, dSl, wNoP, wPart, wCall, wCallK, wCallO, wCallP, wDisp, wFrz, wGet1, wGet2, wPut, wNewT, wPar, wgName, wgTup, wgCons, wgNil, wiT, wiL, wiR1, wiZip, wiEnu, wiEnuA, wChain, wYes, wBM, wBM0, slot, allD, wipeS, List.map_cons, List.map_nil, List.set_cons_zero, List.set_cons_succ, List.cons_append, List.nil_append, List.isEmpty_nil, List.isEmpty_cons, Bool.not_true, Bool.not_false, wUn, dNot, dII0, dII, dEqS, dNeS, dIsN, dNotN, dNeg, ends, DL.gLt, DL.gLe, DL.gGt, DL.gGe, DL.gAdd, DL.gSub, DL.gMul, DL.gMod, DL.gDiv, DL.gPow]
    refine ⟨.inl (by decide), ?_⟩
    refine u_ix a1 ?_
    refine u_ixL a2 ?_
    try dsimp only [wRet, wAnd, wOr, wUn, wOp, wCa, wCons, wNil, wVar, wC, wSeq, wNext, wPass, wAsg, wExp, wIf, wB, wIfE, wAndT, wOrT, wNotT, wTup, wLst, wSl, dSl, wNoP, wPart, wCall, wCallK, wCallO, wCallP, wDisp, wFrz, wGet1, wGet2, wPut, wNewT, wPar, wgName, wgTup, wgCons, wgNil, wiT, wiL, wiR1, wiZip, wiEnu, wiEnuA, wChain, wYes, wBM, wBM0, slot, allD, wipeS, List.map_cons, List.map_nil, List.set_cons_zero, List.set_cons_succ, List.cons_append, List.nil_append, List.isEmpty_nil, List.isEmpty_cons, Bool.not_true, Bool.not_false, wUn, dNot, dII0, dII, dEqS, dNeS, dIsN, dNotN, dNeg, ends, DL.gLt, DL.gLe, DL.gGt, DL.gGe, DL.gAdd, DL.gSub, DL.gMul, DL.gMod, DL.gDiv, DL.gPow]
    refine ⟨.inl (by decide), ?_⟩
    try dsimp only [wRet, wAnd, wOr, wUn, wOp, wCa, wCons, wNil, wVar, wC, wSeq, wNext, wPass, wAsg, wExp, wIf, wB, wIfE, wAndT, wOrT, wNotT, wTup, wLst, wSl, dSl, wNoP, wPart, wCall, wCallK, wCallO, wCallP, wDisp, wFrz, wGet1, wGet2, wPut, wNewT, wPar, wgName, wgTup, wgCons, wgNil, wiT, wiL, wiR1, wiZip, wiEnu, wiEnuA, wChain, wYes, wBM, wBM0, slot, allD, wipeS, List.map_cons, List.map_nil, List.set_cons_zero, List.set_cons_succ, List.cons_append, List.nil_append, List.isEmpty_nil, List.isEmpty_cons, Bool.not_true, Bool.not_false, wUn, dNot, dII0, dII, dEqS, dNeS, dIsN, dNotN, dNeg, ends, DL.gLt, DL.gLe, DL.gGt, DL.gGe, DL.gAdd, DL.gSub, DL.gMul, DL.gMod, DL.gDiv, DL.gPow]
    refine u_ix b1 ?_
    refine u_ixL b2 ?_
    try dsimp only [wRet, wAnd, wOr, wUn, wOp, wCa, wCons, wNil, wVar, wC, wSeq, wNext, wPass, wAsg, wExp, wIf, wB, wIfE, wAndT, wOrT, wNotT, wTup, wLst, wSl, dSl, wNoP, wPart, wCall, wCallK, wCallO, wCallP, wDisp, wFrz, wGet1, wGet2, wPut, wNewT, wPar, wgName, wgTup, wgCons, wgNil, wiT, wiL, wiR1, wiZip, wiEnu, wiEnuA, wChain, wYes, wBM, wBM0, slot, allD, wipeS, List.map_cons, List.map_nil, List.set_cons_zero, List.set_cons_succ, List.cons_append, List.nil_append, List.isEmpty_nil, List.isEmpty_cons, Bool.not_true, Bool.not_false, wUn, dNot, dII0, dII, dEqS, dNeS, dIsN, dNotN, dNeg, ends, DL.gLt, DL.gLe, DL.gGt, DL.gGe, DL.gAdd, DL.gSub, DL.gMul, DL.gMod, DL.gDiv, DL.gPow]
    refine ⟨sz2, ?_⟩
    refine ⟨[plP sp[2 * i], plP sp[2 * i + 1]], lst_last (l := [plP sp[2 * i], plP sp[2 * i + 1]]) (ob := deckO m' d' :: cellsO c' :: .lst ((tl.map tD).map .d) :: g), sorts_pl [sp[2 * i], sp[2 * i + 1]], ?_⟩
    rw [es]
    refine wg_lst (l := [plP (p1 t), plP (p2 t)]) (obK_last (ob := deckO m' d' :: cellsO c' :: .lst ((tl.map tD).map .d) :: (g ++ [.lst ([plP sp[2 * i], plP sp[2 * i + 1]].map .d)]))) rfl ?_
    try dsimp only [wRet, wAnd, wOr, wUn, wOp, wCa, wCons, wNil, wVar, wC, wSeq, wNext, wPass, wAsg, wExp, wIf, wB, wIfE, wAndT, wOrT, wNotT, wTup, wLst, wSl, dSl, wNoP, wPart, wCall, wCallK, wCallO, wCallP, wDisp, wFrz, wGet1, wGet2, wPut, wNewT, wPar, wgName, wgTup, wgCons, wgNil, wiT, wiL, wiR1, wiZip, wiEnu, wiEnuA, wChain, wYes, wBM, wBM0, slot, allD, wipeS, List.map_cons, List.map_nil, List.set_cons_zero, List.set_cons_succ, List.cons_append, List.nil_append, List.isEmpty_nil, List.isEmpty_cons, Bool.not_true, Bool.not_false, wUn, dNot, dII0, dII, dEqS, dNeS, dIsN, dNotN, dNeg, ends, DL.gLt, DL.gLe, DL.gGt, DL.gGe, DL.gAdd, DL.gSub, DL.gMul, DL.gMod, DL.gDiv, DL.gPow]
    refine ⟨u_tyL rfl, ?_⟩
    try dsimp only [wRet, wAnd, wOr, wUn, wOp, wCa, wCons, wNil, wVar, wC, wSeq, wNext, wPass, wAsg, wExp, wIf, wB, wIfE, wAndT, wOrT, wNotT, wTup, wLst, wSl, dSl, wNoP, wPart, wCall, wCallK, wCallO, wCallP, wDisp, wFrz, wGet1, wGet2, wPut, wNewT, wPar, wgName, wgTup, wgCons, wgNil, wiT, wiL, wiR1, wiZip, wiEnu, wiEnuA, wChain, wYes, wBM, wBM0, slot, allD, wipeS, List.map_cons, List.map_nil, List.set_cons_zero, List.set_cons_succ, List.cons_append, List.nil_append, List.isEmpty_nil, List.isEmpty_cons, Bool.not_true, Bool.not_false, wUn, dNot, dII0, dII, dEqS, dNeS, dIsN, dNotN, dNeg, ends, DL.gLt, DL.gLe, DL.gGt, DL.gGe, DL.gAdd, DL.gSub, DL.gMul, DL.gMod, DL.gDiv, DL.gPow]
    refine ⟨sz2, ?_⟩
    refine u_app (l := tl.map tD) rfl (by rw [List.length_map, ht.len]; exact small1000 (by omega)) ?_
    try dsimp only [wRet, wAnd, wOr, wUn, wOp, wCa, wCons, wNil, wVar, wC, wSeq, wNext, wPass, wAsg, wExp, wIf, wB, wIfE, wAndT, wOrT, wNotT, wTup, wLst, wSl, dSl, wNoP, wPart, wCall, wCallK, wCallO, wCallP, wDisp, wFrz, wGet1, wGet2, wPut, wNewT, wPar, wgName, wgTup, wgCons, wgNil, wiT, wiL, wiR1, wiZip, wiEnu, wiEnuA, wChain, wYes, wBM, wBM0, slot, allD, wipeS, List.map_cons, List.map_nil, List.set_cons_zero, List.set_cons_succ, List.cons_append, List.nil_append, List.isEmpty_nil, List.isEmpty_cons, Bool.not_true, Bool.not_false, wUn, dNot, dII0, dII, dEqS, dNeS, dIsN, dNotN, dNeg, ends, DL.gLt, DL.gLe, DL.gGt, DL.gGe, DL.gAdd, DL.gSub, DL.gMul, DL.gMod, DL.gDiv, DL.gPow]
    have em : (tl ++ [t]).map tD = tl.map tD ++ [tD t] := List.map_append
    exact ⟨c', m', d', tl ++ [t], _, _, _, _, hc', by rw [em]; rfl, ht.step hm2 et1 et2⟩
  · rintro xs ρ1 ⟨hx1, hx2, hx3, _⟩ ρ' ⟨c', m', d', tl, g, a, b', f, hc', rfl, ht⟩
    obtain ⟨tl', es, hv⟩ := ht.vf ho hr (by omega)
    try dsimp only [wRet, wAnd, wOr, wUn, wOp, wCa, wCons, wNil, wVar, wC, wSeq, wNext, wPass, wAsg, wExp, wIf, wB, wIfE, wAndT, wOrT, wNotT, wTup, wLst, wSl, dSl, wNoP, wPart, wCall, wCallK, wCallO, wCallP, wDisp, wFrz, wGet1, wGet2, wPut, wNewT, wPar, wgName, wgTup, wgCons, wgNil, wiT, wiL, wiR1, wiZip, wiEnu, wiEnuA, wChain, wYes, wBM, wBM0, slot, allD, wipeS, List.map_cons, List.map_nil, List.set_cons_zero, List.set_cons_succ, List.cons_append, List.nil_append, List.isEmpty_nil, List.isEmpty_cons, Bool.not_true, Bool.not_false, wUn, dNot, dII0, dII, dEqS, dNeS, dIsN, dNotN, dNeg, ends, DL.gLt, DL.gLe, DL.gGt, DL.gGe, DL.gAdd, DL.gSub, DL.gMul, DL.gMod, DL.gDiv, DL.gPow]
    refine ⟨tl.map tD, lst_of rfl, sorts_tc tl, ?_⟩
    rw [es]
    try dsimp only [wRet, wAnd, wOr, wUn, wOp, wCa, wCons, wNil, wVar, wC, wSeq, wNext, wPass, wAsg, wExp, wIf, wB, wIfE, wAndT, wOrT, wNotT, wTup, wLst, wSl, dSl, wNoP, wPart, wCall, wCallK, wCallO, wCallP, wDisp, wFrz, wGet1, wGet2, wPut, wNewT, wPar, wgName, wgTup, wgCons, wgNil, wiT, wiL, wiR1, wiZip, wiEnu, wiEnuA, wChain, wYes, wBM, wBM0, slot, allD, wipeS, List.map_cons, List.map_nil, List.set_cons_zero, List.set_cons_succ, List.cons_append, List.nil_append, List.isEmpty_nil, List.isEmpty_cons, Bool.not_true, Bool.not_false, wUn, dNot, dII0, dII, dEqS, dNeS, dIsN, dNotN, dNeg, ends, DL.gLt, DL.gLe, DL.gGt, DL.gGe, DL.gAdd, DL.gSub, DL.gMul, DL.gMod, DL.gDiv, DL.gPow]
    refine u_tupL (l := tl'.map tD) (obK_last (ob := deckO m' d' :: cellsO c' :: .lst ((tl.map tD).map .d) :: g)) ?_
    try dsimp only [wRet, wAnd, wOr, wUn, wOp, wCa, wCons, wNil, wVar, wC, wSeq, wNext, wPass, wAsg, wExp, wIf, wB, wIfE, wAndT, wOrT, wNotT, wTup, wLst, wSl, dSl, wNoP, wPart, wCall, wCallK, wCallO, wCallP, wDisp, wFrz, wGet1, wGet2, wPut, wNewT, wPar, wgName, wgTup, wgCons, wgNil, wiT, wiL, wiR1, wiZip, wiEnu, wiEnuA, wChain, wYes, wBM, wBM0, slot, allD, wipeS, List.map_cons, List.map_nil, List.set_cons_zero, List.set_cons_succ, List.cons_append, List.nil_append, List.isEmpty_nil, List.isEmpty_cons, Bool.not_true, Bool.not_false, wUn, dNot, dII0, dII, dEqS, dNeS, dIsN, dNotN, dNeg, ends, DL.gLt, DL.gLe, DL.gGt, DL.gGe, DL.gAdd, DL.gSub, DL.gMul, DL.gMod, DL.gDiv, DL.gPow]
    exact ⟨sz2, hR (flD ns tl') c' m' d' _ ⟨ns, tl', rfl, hv⟩ hc'⟩
end K02
end

section
set_option Elab.async false
set_option linter.all false
set_option maxRecDepth 100000
set_option maxHeartbeats 1000000
set_option autoImplicit false
namespace K02
open PySem PySem.Spec PyProof.Rows L2 DL
theorem ren8 {k : Nat} {X d : PyData} {a b : Option PyData} (h : k ≠ 0) : List.map (ren k X) [some (.o 0), some (.o k), some (.d d), a.map .d, b.map .d, none, none, none] = [some (.o 0), some (.d X), some (.d d), a.map .d, b.map .d, none, none, none] := by
  have h0 : ren k X (some (.o 0)) = some (.o 0) := by
    show (if 0 = k then some (DV.d X) else some (.o 0)) = _
    rw [if_neg (Ne.symm h)]
  have h1 : ren k X (some (.o k)) = some (.d X) := by
    show (if k = k then some (DV.d X) else some (.o k)) = _
    rw [if_pos rfl]
  have h2 : ∀ a : Option PyData, ren k X (a.map .d) = a.map .d := fun a => by cases a <;> rfl
  rw [List.map_cons, List.map_cons, List.map_cons, List.map_cons, List.map_cons, h0, h1, h2, h2]
  rfl
def sp_law_wide_floor : DSp := dkS 0 (fun ds => True) (fun ds y => ∃ ns tl, y = flD ns tl ∧ VF ns tl)
theorem ok_law_wide_floor {P : Program} {w0 : World} {K : PySem.W.Frag} {mg : Str → Option Value} {base : Heap} (b : BI mg) (h : Hd K mg "_law_wide_floor" s_law_wide_floor nP_law_wide_floor) (c_law_draw : DefG P w0 K mg base 1 "_law_draw" s_law_draw nP_law_draw sp_law_draw) (c_law_order : DefG P w0 K mg base 2 "_law_order" s_law_order nP_law_order sp_law_order) (c_law_pick : DefG P w0 K mg base 2 "_law_pick" s_law_pick nP_law_pick sp_law_pick) (c_law_spots : DefG P w0 K mg base 1 "_law_spots" s_law_spots nP_law_spots sp_law_spots) : DefG P w0 K mg base 3 "_law_wide_floor" s_law_wide_floor nP_law_wide_floor sp_law_wide_floor := by
  refine mk_def h sc_law_wide_floor dkS_len (pdss_cons (pds_par 1 2 (pda_cons (pd_lst pda_nil) (pda_cons pd_int pda_nil)) (hw := (fun env e => by cases env; cases e; rfl)))
  (pdss_cons (pds_for (pdi_range1 (pda_cons (pd_add pd_int (pd_call 2 (c_law_draw.to) rfl (pda_cons (pd_var 0) (pda_cons pd_int pda_nil)))) pda_nil) rfl b.range) (pdg_name 3) (pdss_cons (pds_set 4 (pd_add pd_int (pd_call 2 (c_law_draw.to) rfl (pda_cons (pd_var 0) (pda_cons (pd_call 2 (c_law_pick.to) rfl (pda_cons (pd_var 0) (pda_cons (pd_tup (pda_cons pd_int (pda_cons pd_int (pda_cons pd_int pda_nil)))) pda_nil))) pda_nil)))))
  (pdss_one (pds_if (pdt_cmpD cd_le (pd_var 4) (pd_var 2)) (pdss_cons (pds_expr (pd_append (pd_var 1) (pda_cons (pd_var 4) pda_nil)))
  (pdss_one (pds_set 2 (pd_sub (pd_var 2) (pd_var 4))))) pdss_nil))))
  (pdss_cons (pds_if (pdt_cmpD cd_eqD (pd_var 1) (pd_lst pda_nil)) (pdss_one (pds_set 1 (pd_lst (pda_cons pd_int pda_nil)))) pdss_nil)
  (pdss_cons (pds_set 5 (pd_call 0 (c_law_spots.to) rfl (pda_cons (pd_frz (pd_var 1)) pda_nil)))
  (pdss_cons (pds_par 6 7 (pda_cons (pd_call 2 (c_law_order.to) rfl (pda_cons (pd_var 0) (pda_cons (pd_len rfl b.len (pda_cons (pd_var 5) pda_nil)) pda_nil))) (pda_cons (pd_lst pda_nil) pda_nil)) (hw := (fun env e => by cases env; cases e; rfl)))
  (pdss_cons (pds_for (pdi_range1 (pda_cons (pd_call 2 (c_law_draw.to) rfl (pda_cons (pd_var 0) (pda_cons (pd_add (pd_min2 rfl b.min (pda_cons pd_int (pda_cons (pd_fdiv (pd_len rfl b.len (pda_cons (pd_var 5) pda_nil)) pd_int) pda_nil))) pd_int) pda_nil))) pda_nil) rfl b.range) (pdg_name 3) (pdss_one (pds_expr (pd_append (pd_var 7) (pda_cons (pd_tuple rfl b.tuple_ (pda_cons (pd_sorted rfl b.sorted (pda_cons (pd_lst (pda_cons (pd_ix (pd_var 5) (pd_ix (pd_var 6) (pd_mul pd_int (pd_var 3)))) (pda_cons (pd_ix (pd_var 5) (pd_ix (pd_var 6) (pd_add (pd_mul pd_int (pd_var 3)) pd_int))) pda_nil))) pda_nil)) pda_nil)) pda_nil)))))
  (pdss_one (pds_ret (pd_tup (pda_cons (pd_tuple rfl b.tuple_ (pda_cons (pd_var 1) pda_nil)) (pda_cons (pd_tuple rfl b.tuple_ (pda_cons (pd_sorted rfl b.sorted (pda_cons (pd_var 7) pda_nil)) pda_nil)) pda_nil))))))))))) ?_
  rintro dvs ob R X ⟨ds, c, m, d, rfl, hl, _, hc, rfl, hR⟩ sl e1
  obtain rfl := List.length_eq_zero_iff.mp hl
  have e1 : [some (.o 0), none, none, none, none, none, none, none] = sl := e1
  subst e1
  try dsimp only [wRet, wAnd, wOr, wUn, wOp, wCa, wCons, wNil, wVar, wC, wSeq, wNext, wPass, wAsg, wExp, wIf, wB, wIfE, wAndT, wOrT, wNotT, wTup, wLst, wSl, dSl, wNoP, wPart, wCall, wCallK, wCallO, wCallP, wDisp, wFrz, wGet1, wGet2, wPut, wNewT, wPar, wgName, wgTup, wgCons, wgNil, wiT, wiL, wiR1, wiZip, wiEnu, wiEnuA, wChain, wYes, wBM, wBM0, slot, allD, wipeS, List.map_cons, List.map_nil, List.set_cons_zero, List.set_cons_succ, List.cons_append, List.nil_append, List.isEmpty_nil, List.isEmpty_cons, Bool.not_true, Bool.not_false, wUn, dNot, dII0, dII, dEqS, dNeS, dIsN, dNotN, dNeg, ends, DL.gLt, DL.gLe, DL.gGt, DL.gGe, DL.gAdd, DL.gSub, DL.gMul, DL.gMod, DL.gDiv, DL.gPow]
  refine ⟨Nat.zero_le _, ?_⟩
  try dsimp only [wRet, wAnd, wOr, wUn, wOp, wCa, wCons, wNil, wVar, wC, wSeq, wNext, wPass, wAsg, wExp, wIf, wB, wIfE, wAndT, wOrT, wNotT, wTup, wLst, wSl, dSl, wNoP, wPart, wCall, wCallK, wCallO, wCallP, wDisp, wFrz, wGet1, wGet2, wPut, wNewT, wPar, wgName, wgTup, wgCons, wgNil, wiT, wiL, wiR1, wiZip, wiEnu, wiEnuA, wChain, wYes, wBM, wBM0, slot, allD, wipeS, List.map_cons, List.map_nil, List.set_cons_zero, List.set_cons_succ, List.cons_append, List.nil_append, List.isEmpty_nil, List.isEmpty_cons, Bool.not_true, Bool.not_false, wUn, dNot, dII0, dII, dEqS, dNeS, dIsN, dNotN, dNeg, ends, DL.gLt, DL.gLe, DL.gGt, DL.gGe, DL.gAdd, DL.gSub, DL.gMul, DL.gMod, DL.gDiv, DL.gPow]
  refine for_in' (fun xs ρ1 => xs.length ≤ 12 ∧ ∃ (c' : List Int) (m' d' : Int), c'.length ≤ 63 ∧ ρ1 = ⟨[some (.o 0), some (.o 2), some (.d (.int 40)), none, none, none, none, none], [deckO m' d', cellsO c', .lst []]⟩)
    (fun i ρ' => ∃ (c' : List Int) (m' d' : Int) (f : List Int) (a b : Option PyData), c'.length ≤ 63 ∧ ρ' = ⟨[some (.o 0), some (.o 2), some (.d (.int (40 - f.sum))), a.map .d, b.map .d, none, none, none], [deckO m' d', cellsO c', .lst ((f.map PyData.int).map .d)]⟩ ∧ (∀ l ∈ f, 1 ≤ l) ∧ 0 ≤ 40 - f.sum ∧ f.length ≤ i) (fun C h => ?_) ?_ ?_ ?_
  · try dsimp only [wRet, wAnd, wOr, wUn, wOp, wCa, wCons, wNil, wVar, wC, wSeq, wNext, wPass, wAsg, wExp, wIf, wB, wIfE, wAndT, wOrT, wNotT, wTup, wLst, wSl, dSl, wNoP, wPart, wCall, wCallK, wCallO, wCallP, wDisp, wFrz, wGet1, wGet2, wPut, wNewT, wPar, wgName, wgTup, wgCons, wgNil, wiT, wiL, wiR1, wiZip, wiEnu, wiEnuA, wChain, wYes, wBM, wBM0, slot, allD, wipeS, List.map_cons, List.map_nil, List.set_cons_zero, List.set_cons_succ, List.cons_append, List.nil_append, List.isEmpty_nil, List.isEmpty_cons, Bool.not_true, Bool.not_false, wUn, dNot, dII0, dII, dEqS, dNeS, dIsN, dNotN, dNeg, ends, DL.gLt, DL.gLe, DL.gGt, DL.gGe, DL.gAdd, DL.gSub, DL.gMul, DL.gMod, DL.gDiv, DL.gPow]
    refine call_dk [_] rfl ⟨_, rfl, by decide, by decide⟩ hc fun y c' m' d' hv hc' => ?_
    obtain ⟨q, r, e, rfl, r0, r1⟩ := hv
    injection e with e
    injection e with e
    subst e
    try dsimp only [wRet, wAnd, wOr, wUn, wOp, wCa, wCons, wNil, wVar, wC, wSeq, wNext, wPass, wAsg, wExp, wIf, wB, wIfE, wAndT, wOrT, wNotT, wTup, wLst, wSl, dSl, wNoP, wPart, wCall, wCallK, wCallO, wCallP, wDisp, wFrz, wGet1, wGet2, wPut, wNewT, wPar, wgName, wgTup, wgCons, wgNil, wiT, wiL, wiR1, wiZip, wiEnu, wiEnuA, wChain, wYes, wBM, wBM0, slot, allD, wipeS, List.map_cons, List.map_nil, List.set_cons_zero, List.set_cons_succ, List.cons_append, List.nil_append, List.isEmpty_nil, List.isEmpty_cons, Bool.not_true, Bool.not_false, wUn, dNot, dII0, dII, dEqS, dNeS, dIsN, dNotN, dNeg, ends, DL.gLt, DL.gLe, DL.gGt, DL.gGe, DL.gAdd, DL.gSub, DL.gMul, DL.gMod, DL.gDiv, DL.gPow]
    exact ⟨by unfold RgB; omega, h _ _ ⟨by rw [rng_len]; omega, c', m', d', hc', rfl⟩⟩
  · rintro xs ρ1 ⟨_, c', m', d', hc', rfl⟩
    exact ⟨c', m', d', [], none, none, hc', rfl, (fun _ h => nomatch h), by rw [List.sum_nil]; omega, Nat.zero_le _⟩
  · rintro xs ρ1 ⟨hx5, _⟩ i x ρ' hx ⟨c', m', d', f, a, b', hc', rfl, hp, h0, hf⟩
    have hi : i < 12 := Nat.lt_of_lt_of_le (List.getElem?_eq_some_iff.mp hx).1 hx5
    try dsimp only [wRet, wAnd, wOr, wUn, wOp, wCa, wCons, wNil, wVar, wC, wSeq, wNext, wPass, wAsg, wExp, wIf, wB, wIfE, wAndT, wOrT, wNotT, wTup, wLst, wSl, dSl, wNoP, wPart, wCall, wCallK, wCallO, wCallP, wDisp, wFrz, wGet1, wGet2, wPut, wNewT, wPar, wgName, wgTup, wgCons, wgNil, wiT, wiL, wiR1, wiZip, wiEnu, wiEnuA, wChain, wYes, wBM, wBM0, slot, allD, wipeS, List.map_cons, List.map_nil, List.set_cons_zero, List.set_cons_succ, List.cons_append, List.nil_append, List.isEmpty_nil, List.isEmpty_cons, Bool.not_true, Bool.not_false, wUn, dNot, dII0, dII, dEqS, dNeS, dIsN, dNotN, dNeg, ends, DL.gLt, DL.gLe, DL.gGt, DL.gGe, DL.gAdd, DL.gSub, DL.gMul, DL.gMod, DL.gDiv, DL.gPow]
    refine ⟨by decide, ?_⟩
    refine call_dk [_] rfl ⟨_, .inl rfl, by decide, by decide⟩ hc' fun y c2 m2 d2 hv hc2 => ?_
    obtain ⟨q, rfl, hq1, hq2⟩ := pick_small (b := 20) hv (by decide)
    try dsimp only [wRet, wAnd, wOr, wUn, wOp, wCa, wCons, wNil, wVar, wC, wSeq, wNext, wPass, wAsg, wExp, wIf, wB, wIfE, wAndT, wOrT, wNotT, wTup, wLst, wSl, dSl, wNoP, wPart, wCall, wCallK, wCallO, wCallP, wDisp, wFrz, wGet1, wGet2, wPut, wNewT, wPar, wgName, wgTup, wgCons, wgNil, wiT, wiL, wiR1, wiZip, wiEnu, wiEnuA, wChain, wYes, wBM, wBM0, slot, allD, wipeS, List.map_cons, List.map_nil, List.set_cons_zero, List.set_cons_succ, List.cons_append, List.nil_append, List.isEmpty_nil, List.isEmpty_cons, Bool.not_true, Bool.not_false, wUn, dNot, dII0, dII, dEqS, dNeS, dIsN, dNotN, dNeg, ends, DL.gLt, DL.gLe, DL.gGt, DL.gGe, DL.gAdd, DL.gSub, DL.gMul, DL.gMod, DL.gDiv, DL.gPow]
    refine call_dk [_] rfl ⟨_, rfl, by omega, by omega⟩ hc2 fun y c3 m3 d3 hv hc3 => ?_
    obtain ⟨q', r, e, rfl, r0, r1⟩ := hv
    injection e with e
    injection e with e
    subst e
    try dsimp only [wRet, wAnd, wOr, wUn, wOp, wCa, wCons, wNil, wVar, wC, wSeq, wNext, wPass, wAsg, wExp, wIf, wB, wIfE, wAndT, wOrT, wNotT, wTup, wLst, wSl, dSl, wNoP, wPart, wCall, wCallK, wCallO, wCallP, wDisp, wFrz, wGet1, wGet2, wPut, wNewT, wPar, wgName, wgTup, wgCons, wgNil, wiT, wiL, wiR1, wiZip, wiEnu, wiEnuA, wChain, wYes, wBM, wBM0, slot, allD, wipeS, List.map_cons, List.map_nil, List.set_cons_zero, List.set_cons_succ, List.cons_append, List.nil_append, List.isEmpty_nil, List.isEmpty_cons, Bool.not_true, Bool.not_false, wUn, dNot, dII0, dII, dEqS, dNeS, dIsN, dNotN, dNeg, ends, DL.gLt, DL.gLe, DL.gGt, DL.gGe, DL.gAdd, DL.gSub, DL.gMul, DL.gMod, DL.gDiv, DL.gPow]
    by_cases hj : 1 + r ≤ 40 - f.sum
    · rw [decide_eq_true hj]
      try dsimp only [wRet, wAnd, wOr, wUn, wOp, wCa, wCons, wNil, wVar, wC, wSeq, wNext, wPass, wAsg, wExp, wIf, wB, wIfE, wAndT, wOrT, wNotT, wTup, wLst, wSl, dSl, wNoP, wPart, wCall, wCallK, wCallO, wCallP, wDisp, wFrz, wGet1, wGet2, wPut, wNewT, wPar, wgName, wgTup, wgCons, wgNil, wiT, wiL, wiR1, wiZip, wiEnu, wiEnuA, wChain, wYes, wBM, wBM0, slot, allD, wipeS, List.map_cons, List.map_nil, List.set_cons_zero, List.set_cons_succ, List.cons_append, List.nil_append, List.isEmpty_nil, List.isEmpty_cons, Bool.not_true, Bool.not_false, wUn, dNot, dII0, dII, dEqS, dNeS, dIsN, dNotN, dNeg, ends, DL.gLt, DL.gLe, DL.gGt, DL.gGe, DL.gAdd, DL.gSub, DL.gMul, DL.gMod, DL.gDiv, DL.gPow]
      refine ⟨u_tyL rfl, ?_⟩
      refine u_app (l := f.map .int) rfl (by rw [List.length_map]; exact small1000 (by omega)) ?_
      try dsimp only [wRet, wAnd, wOr, wUn, wOp, wCa, wCons, wNil, wVar, wC, wSeq, wNext, wPass, wAsg, wExp, wIf, wB, wIfE, wAndT, wOrT, wNotT, wTup, wLst, wSl, dSl, wNoP, wPart, wCall, wCallK, wCallO, wCallP, wDisp, wFrz, wGet1, wGet2, wPut, wNewT, wPar, wgName, wgTup, wgCons, wgNil, wiT, wiL, wiR1, wiZip, wiEnu, wiEnuA, wChain, wYes, wBM, wBM0, slot, allD, wipeS, List.map_cons, List.map_nil, List.set_cons_zero, List.set_cons_succ, List.cons_append, List.nil_append, List.isEmpty_nil, List.isEmpty_cons, Bool.not_true, Bool.not_false, wUn, dNot, dII0, dII, dEqS, dNeS, dIsN, dNotN, dNeg, ends, DL.gLt, DL.gLe, DL.gGt, DL.gGe, DL.gAdd, DL.gSub, DL.gMul, DL.gMod, DL.gDiv, DL.gPow]
      refine ⟨c3, m3, d3, f ++ [1 + r], some x, some (.int (1 + r)), hc3, ?_, ?_, ?_, ?_⟩
      · rw [List.sum_append, show (f ++ [1 + r]).map PyData.int = f.map PyData.int ++ [PyData.int (1 + r)] from List.map_append]
        simp only [List.sum_cons, List.sum_nil, Int.add_zero, Int.sub_sub]
        rfl
      · intro l hl
        rcases List.mem_append.mp hl with hl | hl
        · exact hp l hl
        · rw [List.mem_singleton.mp hl]
          omega
      · rw [List.sum_append]
        simp only [List.sum_cons, List.sum_nil, Int.add_zero]
        omega
      · rw [List.length_append]
        exact Nat.succ_le_succ hf
    · rw [decide_eq_false hj]
      exact ⟨c3, m3, d3, f, some x, some (.int (1 + r)), hc3, rfl, hp, h0, Nat.le_succ_of_le hf⟩
  · rintro xs ρ1 ⟨hx5, _⟩ ρ' ⟨c1, m1, d1, f, t1, l1, hc1, rfl, hp, h0, hf⟩
    try dsimp only [wRet, wAnd, wOr, wUn, wOp, wCa, wCons, wNil, wVar, wC, wSeq, wNext, wPass, wAsg, wExp, wIf, wB, wIfE, wAndT, wOrT, wNotT, wTup, wLst, wSl, dSl, wNoP, wPart, wCall, wCallK, wCallO, wCallP, wDisp, wFrz, wGet1, wGet2, wPut, wNewT, wPar, wgName, wgTup, wgCons, wgNil, wiT, wiL, wiR1, wiZip, wiEnu, wiEnuA, wChain, wYes, wBM, wBM0, slot, allD, wipeS, List.map_cons, List.map_nil, List.set_cons_zero, List.set_cons_succ, List.cons_append, List.nil_append, List.isEmpty_nil, List.isEmpty_cons, Bool.not_true, Bool.not_false, wUn, dNot, dII0, dII, dEqS, dNeS, dIsN, dNotN, dNeg, ends, DL.gLt, DL.gLe, DL.gGt, DL.gGe, DL.gAdd, DL.gSub, DL.gMul, DL.gMod, DL.gDiv, DL.gPow]
    refine ⟨Nat.zero_le _, ?_⟩
    refine u_eqNil (l := f.map .int) rfl rfl (eqs_ints f) ?_
    by_cases hfn : f = []
    · subst hfn
      try dsimp only [wRet, wAnd, wOr, wUn, wOp, wCa, wCons, wNil, wVar, wC, wSeq, wNext, wPass, wAsg, wExp, wIf, wB, wIfE, wAndT, wOrT, wNotT, wTup, wLst, wSl, dSl, wNoP, wPart, wCall, wCallK, wCallO, wCallP, wDisp, wFrz, wGet1, wGet2, wPut, wNewT, wPar, wgName, wgTup, wgCons, wgNil, wiT, wiL, wiR1, wiZip, wiEnu, wiEnuA, wChain, wYes, wBM, wBM0, slot, allD, wipeS, List.map_cons, List.map_nil, List.set_cons_zero, List.set_cons_succ, List.cons_append, List.nil_append, List.isEmpty_nil, List.isEmpty_cons, Bool.not_true, Bool.not_false, wUn, dNot, dII0, dII, dEqS, dNeS, dIsN, dNotN, dNeg, ends, DL.gLt, DL.gLe, DL.gGt, DL.gGe, DL.gAdd, DL.gSub, DL.gMul, DL.gMod, DL.gDiv, DL.gPow]
      refine ⟨by decide, ?_⟩
      try dsimp only [wRet, wAnd, wOr, wUn, wOp, wCa, wCons, wNil, wVar, wC, wSeq, wNext, wPass, wAsg, wExp, wIf, wB, wIfE, wAndT, wOrT, wNotT, wTup, wLst, wSl, dSl, wNoP, wPart, wCall, wCallK, wCallO, wCallP, wDisp, wFrz, wGet1, wGet2, wPut, wNewT, wPar, wgName, wgTup, wgCons, wgNil, wiT, wiL, wiR1, wiZip, wiEnu, wiEnuA, wChain, wYes, wBM, wBM0, slot, allD, wipeS, List.map_cons, List.map_nil, List.set_cons_zero, List.set_cons_succ, List.cons_append, List.nil_append, List.isEmpty_nil, List.isEmpty_cons, Bool.not_true, Bool.not_false, wUn, dNot, dII0, dII, dEqS, dNeS, dIsN, dNotN, dNeg, ends, DL.gLt, DL.gLe, DL.gGt, DL.gGe, DL.gAdd, DL.gSub, DL.gMul, DL.gMod, DL.gDiv, DL.gPow]
      have hr : RG [7] := ⟨by decide, by decide, by decide⟩
      have hsm : Small ([7]) := hr.small
      have hN : (spots ([7])).length ≤ 1000 := hsm.2.1
      try simp only [List.length_cons, List.length_nil, Nat.zero_add, Nat.reduceAdd]
      rw [frz_of (([7]).map .int) rfl]
      dsimp only
      rw [ren8 (by decide)]
      try dsimp only [wRet, wAnd, wOr, wUn, wOp, wCa, wCons, wNil, wVar, wC, wSeq, wNext, wPass, wAsg, wExp, wIf, wB, wIfE, wAndT, wOrT, wNotT, wTup, wLst, wSl, dSl, wNoP, wPart, wCall, wCallK, wCallO, wCallP, wDisp, wFrz, wGet1, wGet2, wPut, wNewT, wPar, wgName, wgTup, wgCons, wgNil, wiT, wiL, wiR1, wiZip, wiEnu, wiEnuA, wChain, wYes, wBM, wBM0, slot, allD, wipeS, List.map_cons, List.map_nil, List.set_cons_zero, List.set_cons_succ, List.cons_append, List.nil_append, List.isEmpty_nil, List.isEmpty_cons, Bool.not_true, Bool.not_false, wUn, dNot, dII0, dII, dEqS, dNeS, dIsN, dNotN, dNeg, ends, DL.gLt, DL.gLe, DL.gGt, DL.gGe, DL.gAdd, DL.gSub, DL.gMul, DL.gMod, DL.gDiv, DL.gPow]
      refine call_pur0 [.list (([7]).map .int)] (.list (spots ([7]))) rfl ⟨[7], .inr rfl, hsm, rfl⟩ ?_
      try dsimp only [wRet, wAnd, wOr, wUn, wOp, wCa, wCons, wNil, wVar, wC, wSeq, wNext, wPass, wAsg, wExp, wIf, wB, wIfE, wAndT, wOrT, wNotT, wTup, wLst, wSl, dSl, wNoP, wPart, wCall, wCallK, wCallO, wCallP, wDisp, wFrz, wGet1, wGet2, wPut, wNewT, wPar, wgName, wgTup, wgCons, wgNil, wiT, wiL, wiR1, wiZip, wiEnu, wiEnuA, wChain, wYes, wBM, wBM0, slot, allD, wipeS, List.map_cons, List.map_nil, List.set_cons_zero, List.set_cons_succ, List.cons_append, List.nil_append, List.isEmpty_nil, List.isEmpty_cons, Bool.not_true, Bool.not_false, wUn, dNot, dII0, dII, dEqS, dNeS, dIsN, dNotN, dNeg, ends, DL.gLt, DL.gLe, DL.gGt, DL.gGe, DL.gAdd, DL.gSub, DL.gMul, DL.gMod, DL.gDiv, DL.gPow]
      refine u_lenL ?_
      refine call_dk [_] rfl ⟨_, rfl, by omega, by omega⟩ hc1 fun y c2 m2 d2 hv hc2 => ?_
      obtain ⟨k, p, e, rfl, hp⟩ := hv
      injection e with e
      injection e with e
      subst e
      rw [Int.toNat_natCast] at hp
      obtain ⟨sp, ho⟩ := ord_of hp
      try dsimp only [wRet, wAnd, wOr, wUn, wOp, wCa, wCons, wNil, wVar, wC, wSeq, wNext, wPass, wAsg, wExp, wIf, wB, wIfE, wAndT, wOrT, wNotT, wTup, wLst, wSl, dSl, wNoP, wPart, wCall, wCallK, wCallO, wCallP, wDisp, wFrz, wGet1, wGet2, wPut, wNewT, wPar, wgName, wgTup, wgCons, wgNil, wiT, wiL, wiR1, wiZip, wiEnu, wiEnuA, wChain, wYes, wBM, wBM0, slot, allD, wipeS, List.map_cons, List.map_nil, List.set_cons_zero, List.set_cons_succ, List.cons_append, List.nil_append, List.isEmpty_nil, List.isEmpty_cons, Bool.not_true, Bool.not_false, wUn, dNot, dII0, dII, dEqS, dNeS, dIsN, dNotN, dNeg, ends, DL.gLt, DL.gLe, DL.gGt, DL.gGe, DL.gAdd, DL.gSub, DL.gMul, DL.gMod, DL.gDiv, DL.gPow]
      refine ⟨Nat.zero_le _, ?_⟩
      try dsimp only [wRet, wAnd, wOr, wUn, wOp, wCa, wCons, wNil, wVar, wC, wSeq, wNext, wPass, wAsg, wExp, wIf, wB, wIfE, wAndT, wOrT, wNotT, wTup, wLst, wSl, dSl, wNoP, wPart, wCall, wCallK, wCallO, wCallP, wDisp, wFrz, wGet1, wGet2, wPut, wNewT, wPar, wgName, wgTup, wgCons, wgNil, wiT, wiL, wiR1, wiZip, wiEnu, wiEnuA, wChain, wYes, wBM, wBM0, slot, allD, wipeS, List.map_cons, List.map_nil, List.set_cons_zero, List.set_cons_succ, List.cons_append, List.nil_append, List.isEmpty_nil, List.isEmpty_cons, Bool.not_true, Bool.not_false, wUn, dNot, dII0, dII, dEqS, dNeS, dIsN, dNotN, dNeg, ends, DL.gLt, DL.gLe, DL.gGt, DL.gGe, DL.gAdd, DL.gSub, DL.gMul, DL.gMod, DL.gDiv, DL.gPow]
      have hnd : sp.Nodup := ho.pm.nodup_iff.mpr (nd_spI ([7]) 0)
      have hsp := ho.len
      refine for_in' (fun xs ρ1 => xs.length ≤ 20 ∧ 2 * xs.length ≤ (spots ([7])).length ∧ (∀ (i : Nat) (x : PyData), xs[i]? = some x → x = .int (i : Nat)) ∧ ∃ (c' : List Int) (m' d' : Int), c'.length ≤ 63 ∧ ρ1 = ⟨[some (.o 0), some (.d (.list (([7]).map .int))), some (.d (.int (40 - ([] : List Int).sum))), t1.map .d, l1.map .d, some (.d (.list (spots ([7])))), some (.d (.tuple p)), some (.o 5)], deckO m' d' :: cellsO c' :: OB.lst [] :: OB.lst [] :: OB.gone :: [OB.lst []]⟩)
        (fun i ρ' => ∃ (c' : List Int) (m' d' : Int) (tl : List Tc) (g : List OB) (a : Option DV), c'.length ≤ 63 ∧ ρ' = ⟨[some (.o 0), some (.d (.list (([7]).map .int))), some (.d (.int (40 - ([] : List Int).sum))), a, l1.map .d, some (.d (.list (spots ([7])))), some (.d (.tuple p)), some (.o 5)], deckO m' d' :: cellsO c' :: OB.lst [] :: OB.lst [] :: OB.gone :: OB.lst ((tl.map tD).map .d) :: g⟩ ∧ TT sp i tl) (fun C h => ?_) ?_ ?_ ?_
      · have fin : ∀ (j : Int) (c' : List Int) (m' d' : Int), c'.length ≤ 63 → 0 ≤ j → j ≤ 20 → 2 * j ≤ (spots ([7])).length → C (rng 0 j.toNat) ⟨[some (.o 0), some (.d (.list (([7]).map .int))), some (.d (.int (40 - ([] : List Int).sum))), t1.map .d, l1.map .d, some (.d (.list (spots ([7])))), some (.d (.tuple p)), some (.o 5)], deckO m' d' :: cellsO c' :: OB.lst [] :: OB.lst [] :: OB.gone :: [OB.lst []]⟩ := fun j c' m' d' hc' j0 j1 j2 =>
          h _ _ ⟨by rw [rng_len]; omega, by rw [rng_len]; omega, fun i x hx => by
            obtain ⟨_, rfl⟩ := rng_get hx
            rw [Int.zero_add], c', m', d', hc', rfl⟩
        try dsimp only [wRet, wAnd, wOr, wUn, wOp, wCa, wCons, wNil, wVar, wC, wSeq, wNext, wPass, wAsg, wExp, wIf, wB, wIfE, wAndT, wOrT, wNotT, wTup, wLst, wSl, dSl, wNoP, wPart, wCall, wCallK, wCallO, wCallP, wDisp, wFrz, wGet1, wGet2, wPut, wNewT, wPar, wgName, wgTup, wgCons, wgNil, wiT, wiL, wiR1, wiZip, wiEnu, wiEnuA, wChain, wYes, wBM, wBM0, slot, allD, wipeS, List.map_cons, List.map_nil, List.set_cons_zero, List.set_cons_succ, List.cons_append, List.nil_append, List.isEmpty_nil, List.isEmpty_cons, Bool.not_true, Bool.not_false, wUn, dNot, dII0, dII, dEqS, dNeS, dIsN, dNotN, dNeg, ends, DL.gLt, DL.gLe, DL.gGt, DL.gGe, DL.gAdd, DL.gSub, DL.gMul, DL.gMod, DL.gDiv, DL.gPow]
        refine u_lenL ?_
        try dsimp only [wRet, wAnd, wOr, wUn, wOp, wCa, wCons, wNil, wVar, wC, wSeq, wNext, wPass, wAsg, wExp, wIf, wB, wIfE, wAndT, wOrT, wNotT, wTup, wLst, wSl, dSl, wNoP, wPart, wCall, wCallK, wCallO, wCallP, wDisp, wFrz, wGet1, wGet2, wPut, wNewT, wPar, wgName, wgTup, wgCons, wgNil, wiT, wiL, wiR1, wiZip, wiEnu, wiEnuA, wChain, wYes, wBM, wBM0, slot, allD, wipeS, List.map_cons, List.map_nil, List.set_cons_zero, List.set_cons_succ, List.cons_append, List.nil_append, List.isEmpty_nil, List.isEmpty_cons, Bool.not_true, Bool.not_false, wUn, dNot, dII0, dII, dEqS, dNeS, dIsN, dNotN, dNeg, ends, DL.gLt, DL.gLe, DL.gGt, DL.gGe, DL.gAdd, DL.gSub, DL.gMul, DL.gMod, DL.gDiv, DL.gPow]
        refine ⟨⟨by decide, by decide⟩, ?_⟩
        unfold dMin
        try dsimp only [wRet, wAnd, wOr, wUn, wOp, wCa, wCons, wNil, wVar, wC, wSeq, wNext, wPass, wAsg, wExp, wIf, wB, wIfE, wAndT, wOrT, wNotT, wTup, wLst, wSl, dSl, wNoP, wPart, wCall, wCallK, wCallO, wCallP, wDisp, wFrz, wGet1, wGet2, wPut, wNewT, wPar, wgName, wgTup, wgCons, wgNil, wiT, wiL, wiR1, wiZip, wiEnu, wiEnuA, wChain, wYes, wBM, wBM0, slot, allD, wipeS, List.map_cons, List.map_nil, List.set_cons_zero, List.set_cons_succ, List.cons_append, List.nil_append, List.isEmpty_nil, List.isEmpty_cons, Bool.not_true, Bool.not_false, wUn, dNot, dII0, dII, dEqS, dNeS, dIsN, dNotN, dNeg, ends, DL.gLt, DL.gLe, DL.gGt, DL.gGe, DL.gAdd, DL.gSub, DL.gMul, DL.gMod, DL.gDiv, DL.gPow]
        refine call_dk [_] rfl ⟨_, rfl, ?_, ?_⟩ hc2 fun y c4 m4 d4 hv hc4 => ?_
        · split <;> omega
        · split <;> omega
        · obtain ⟨q, r, e, rfl, r0, r1⟩ := hv
          injection e with e
          injection e with e
          subst e
          try dsimp only [wRet, wAnd, wOr, wUn, wOp, wCa, wCons, wNil, wVar, wC, wSeq, wNext, wPass, wAsg, wExp, wIf, wB, wIfE, wAndT, wOrT, wNotT, wTup, wLst, wSl, dSl, wNoP, wPart, wCall, wCallK, wCallO, wCallP, wDisp, wFrz, wGet1, wGet2, wPut, wNewT, wPar, wgName, wgTup, wgCons, wgNil, wiT, wiL, wiR1, wiZip, wiEnu, wiEnuA, wChain, wYes, wBM, wBM0, slot, allD, wipeS, List.map_cons, List.map_nil, List.set_cons_zero, List.set_cons_succ, List.cons_append, List.nil_append, List.isEmpty_nil, List.isEmpty_cons, Bool.not_true, Bool.not_false, wUn, dNot, dII0, dII, dEqS, dNeS, dIsN, dNotN, dNeg, ends, DL.gLt, DL.gLe, DL.gGt, DL.gGe, DL.gAdd, DL.gSub, DL.gMul, DL.gMod, DL.gDiv, DL.gPow]
          refine ⟨?_, fin r _ _ _ hc4 r0 ?_ ?_⟩
          · unfold RgB
            split at r1 <;> omega
          · split at r1 <;> omega
          · split at r1 <;> omega
      · rintro xs ρ1 ⟨_, _, _, c', m', d', hc', rfl⟩
        exact ⟨c', m', d', [], [], t1.map .d, hc', rfl, tt_nil sp⟩
      · rintro xs ρ1 ⟨hx1, hx2, hx3, _⟩ i x ρ' hx ⟨c', m', d', tl, g, a, hc', rfl, ht⟩
        have hi : i < xs.length := (List.getElem?_eq_some_iff.mp hx).1
        obtain rfl := hx3 i x hx
        have hm1 : 2 * i < sp.length := by omega
        have hm2 : 2 * i + 1 < sp.length := by omega
        obtain ⟨k1, a1, a2⟩ := ho.at_ (2 * i) hm1
        obtain ⟨k2, b1, b2⟩ := ho.at_ (2 * i + 1) hm2
        rw [Int.natCast_mul] at a1
        rw [Int.natCast_add, Int.natCast_mul] at b1
        obtain ⟨t, es, et1, et2⟩ := srt_two (nd_two hnd hm2)
        try dsimp only [wRet, wAnd, wOr, wUn, wOp, wCa, wCons, wNil, wVar, wC, wSeq, wNext, wPass, wAsg, wExp, wIf, wB, wIfE, wAndT, wOrT, wNotT, wTup, wLst, wSl, dSl, wNoP, wPart, wCall, wCallK, wCallO, wCallP, wDisp, wFrz, wGet1, wGet2, wPut, wNewT, wPar, wgName, wgTup, wgCons, wgNil, wiT, wiL, wiR1, wiZip, wiEnu, wiEnuA, wChain, wYes, wBM, wBM0, slot, allD, wipeS, List.map_cons, List.map_nil, List.set_cons_zero, List.set_cons_succ, List.cons_append, List.nil_append, List.isEmpty_nil, List.isEmpty_cons, Bool.not_true, Bool.not_false, wUn, dNot, dII0, dII, dEqS, dNeS, dIsN, dNotN, dNeg, ends, DL.gLt, DL.gLe, DL.gGt, DL.gGe, DL.gAdd, DL.gSub, DL.gMul, DL.gMod, DL.gDiv, DL.gPow]
        refine ⟨u_tyL rfl, ?_⟩
        refine ⟨.inl (by decide), ?_⟩
        refine u_ix a1 ?_
        refine u_ixL a2 ?_
        try dsimp only [wRet, wAnd, wOr, wUn, wOp, wCa, wCons, wNil, wVar, wC, wSeq, wNext, wPass, wAsg, wExp, wIf, wB, wIfE, wAndT, wOrT, wNotT, wTup, wLst, wSl, dSl, wNoP, wPart, wCall, wCallK, wCallO, wCallP, wDisp, wFrz, wGet1, wGet2, wPut, wNewT, wPar, wgName, wgTup, wgCons, wgNil, wiT, wiL, wiR1, wiZip, wiEnu, wiEnuA, wChain, wYes, wBM, wBM0, slot, allD, wipeS, List.map_cons, List.map_nil, List.set_cons_zero, List.set_cons_succ, List.cons_append, List.nil_append, List.isEmpty_nil, List.isEmpty_cons, Bool.not_true, Bool.not_false, wUn, dNot, dII0, dII, dEqS, dNeS, dIsN, dNotN, dNeg, ends, DL.gLt, DL.gLe, DL.gGt, DL.gGe, DL.gAdd, DL.gSub, DL.gMul, DL.gMod, DL.gDiv, DL.gPow]
        refine ⟨.inl (by decide), ?_⟩
        try dsimp only [wRet, wAnd, wOr, wUn, wOp, wCa, wCons, wNil, wVar, wC, wSeq, wNext, wPass, wAsg, wExp, wIf, wB, wIfE, wAndT, wOrT, wNotT, wTup, wLst, wSl, dSl, wNoP, wPart, wCall, wCallK, wCallO, wCallP, wDisp, wFrz, wGet1, wGet2, wPut, wNewT, wPar, wgName, wgTup, wgCons, wgNil, wiT, wiL, wiR1, wiZip, wiEnu, wiEnuA, wChain, wYes, wBM, wBM0, slot, allD, wipeS, List.map_cons, List.map_nil, List.set_cons_zero, List.set_cons_succ, List.cons_append, List.nil_append, List.isEmpty_nil, List.isEmpty_cons, Bool.not_true, Bool.not_false, wUn, dNot, dII0, dII, dEqS, dNeS, dIsN, dNotN, dNeg, ends, DL.gLt, DL.gLe, DL.gGt, DL.gGe, DL.gAdd, DL.gSub, DL.gMul, DL.gMod, DL.gDiv, DL.gPow]
        refine u_ix b1 ?_
        refine u_ixL b2 ?_
        try dsimp only [wRet, wAnd, wOr, wUn, wOp, wCa, wCons, wNil, wVar, wC, wSeq, wNext, wPass, wAsg, wExp, wIf, wB, wIfE, wAndT, wOrT, wNotT, wTup, wLst, wSl, dSl, wNoP, wPart, wCall, wCallK, wCallO, wCallP, wDisp, wFrz, wGet1, wGet2, wPut, wNewT, wPar, wgName, wgTup, wgCons, wgNil, wiT, wiL, wiR1, wiZip, wiEnu, wiEnuA, wChain, wYes, wBM, wBM0, slot, allD, wipeS, List.map_cons, List.map_nil, List.set_cons_zero, List.set_cons_succ, List.cons_append, List.nil_append, List.isEmpty_nil, List.isEmpty_cons, Bool.not_true, Bool.not_false, wUn, dNot, dII0, dII, dEqS, dNeS, dIsN, dNotN, dNeg, ends, DL.gLt, DL.gLe, DL.gGt, DL.gGe, DL.gAdd, DL.gSub, DL.gMul, DL.gMod, DL.gDiv, DL.gPow]
        refine ⟨sz2, ?_⟩
        refine ⟨[plP sp[2 * i], plP sp[2 * i + 1]], lst_last (l := [plP sp[2 * i], plP sp[2 * i + 1]]) (ob := deckO m' d' :: cellsO c' :: OB.lst [] :: OB.lst [] :: OB.gone :: OB.lst ((tl.map tD).map .d) :: g), sorts_pl [sp[2 * i], sp[2 * i + 1]], ?_⟩
        rw [es]
        refine u_tupL (l := [plP (p1 t), plP (p2 t)]) (obK_last (ob := deckO m' d' :: cellsO c' :: OB.lst [] :: OB.lst [] :: OB.gone :: OB.lst ((tl.map tD).map .d) :: (g ++ [.lst ([plP sp[2 * i], plP sp[2 * i + 1]].map .d)]))) ?_
        try dsimp only [wRet, wAnd, wOr, wUn, wOp, wCa, wCons, wNil, wVar, wC, wSeq, wNext, wPass, wAsg, wExp, wIf, wB, wIfE, wAndT, wOrT, wNotT, wTup, wLst, wSl, dSl, wNoP, wPart, wCall, wCallK, wCallO, wCallP, wDisp, wFrz, wGet1, wGet2, wPut, wNewT, wPar, wgName, wgTup, wgCons, wgNil, wiT, wiL, wiR1, wiZip, wiEnu, wiEnuA, wChain, wYes, wBM, wBM0, slot, allD, wipeS, List.map_cons, List.map_nil, List.set_cons_zero, List.set_cons_succ, List.cons_append, List.nil_append, List.isEmpty_nil, List.isEmpty_cons, Bool.not_true, Bool.not_false, wUn, dNot, dII0, dII, dEqS, dNeS, dIsN, dNotN, dNeg, ends, DL.gLt, DL.gLe, DL.gGt, DL.gGe, DL.gAdd, DL.gSub, DL.gMul, DL.gMod, DL.gDiv, DL.gPow]
        refine u_app (l := tl.map tD) rfl (by rw [List.length_map, ht.len]; exact small1000 (by omega)) ?_
        try dsimp only [wRet, wAnd, wOr, wUn, wOp, wCa, wCons, wNil, wVar, wC, wSeq, wNext, wPass, wAsg, wExp, wIf, wB, wIfE, wAndT, wOrT, wNotT, wTup, wLst, wSl, dSl, wNoP, wPart, wCall, wCallK, wCallO, wCallP, wDisp, wFrz, wGet1, wGet2, wPut, wNewT, wPar, wgName, wgTup, wgCons, wgNil, wiT, wiL, wiR1, wiZip, wiEnu, wiEnuA, wChain, wYes, wBM, wBM0, slot, allD, wipeS, List.map_cons, List.map_nil, List.set_cons_zero, List.set_cons_succ, List.cons_append, List.nil_append, List.isEmpty_nil, List.isEmpty_cons, Bool.not_true, Bool.not_false, wUn, dNot, dII0, dII, dEqS, dNeS, dIsN, dNotN, dNeg, ends, DL.gLt, DL.gLe, DL.gGt, DL.gGe, DL.gAdd, DL.gSub, DL.gMul, DL.gMod, DL.gDiv, DL.gPow]
        have em : (tl ++ [t]).map tD = tl.map tD ++ [tD t] := List.map_append
        exact ⟨c', m', d', tl ++ [t], _, _, hc', by rw [em]; rfl, ht.step hm2 et1 et2⟩
      · rintro xs ρ1 ⟨hx1, hx2, hx3, _⟩ ρ' ⟨c', m', d', tl, g, a, hc', rfl, ht⟩
        obtain ⟨tl', es, hv⟩ := ht.vf ho hr (by omega)
        try dsimp only [wRet, wAnd, wOr, wUn, wOp, wCa, wCons, wNil, wVar, wC, wSeq, wNext, wPass, wAsg, wExp, wIf, wB, wIfE, wAndT, wOrT, wNotT, wTup, wLst, wSl, dSl, wNoP, wPart, wCall, wCallK, wCallO, wCallP, wDisp, wFrz, wGet1, wGet2, wPut, wNewT, wPar, wgName, wgTup, wgCons, wgNil, wiT, wiL, wiR1, wiZip, wiEnu, wiEnuA, wChain, wYes, wBM, wBM0, slot, allD, wipeS, List.map_cons, List.map_nil, List.set_cons_zero, List.set_cons_succ, List.cons_append, List.nil_append, List.isEmpty_nil, List.isEmpty_cons, Bool.not_true, Bool.not_false, wUn, dNot, dII0, dII, dEqS, dNeS, dIsN, dNotN, dNeg, ends, DL.gLt, DL.gLe, DL.gGt, DL.gGe, DL.gAdd, DL.gSub, DL.gMul, DL.gMod, DL.gDiv, DL.gPow]
        refine ⟨([7]).map .int, rfl, ?_⟩
        try dsimp only [wRet, wAnd, wOr, wUn, wOp, wCa, wCons, wNil, wVar, wC, wSeq, wNext, wPass, wAsg, wExp, wIf, wB, wIfE, wAndT, wOrT, wNotT, wTup, wLst, wSl, dSl, wNoP, wPart, wCall, wCallK, wCallO, wCallP, wDisp, wFrz, wGet1, wGet2, wPut, wNewT, wPar, wgName, wgTup, wgCons, wgNil, wiT, wiL, wiR1, wiZip, wiEnu, wiEnuA, wChain, wYes, wBM, wBM0, slot, allD, wipeS, List.map_cons, List.map_nil, List.set_cons_zero, List.set_cons_succ, List.cons_append, List.nil_append, List.isEmpty_nil, List.isEmpty_cons, Bool.not_true, Bool.not_false, wUn, dNot, dII0, dII, dEqS, dNeS, dIsN, dNotN, dNeg, ends, DL.gLt, DL.gLe, DL.gGt, DL.gGe, DL.gAdd, DL.gSub, DL.gMul, DL.gMod, DL.gDiv, DL.gPow]
        refine ⟨tl.map tD, lst_of rfl, sorts_tc tl, ?_⟩
        rw [es]
        try dsimp only [wRet, wAnd, wOr, wUn, wOp, wCa, wCons, wNil, wVar, wC, wSeq, wNext, wPass, wAsg, wExp, wIf, wB, wIfE, wAndT, wOrT, wNotT, wTup, wLst, wSl, dSl, wNoP, wPart, wCall, wCallK, wCallO, wCallP, wDisp, wFrz, wGet1, wGet2, wPut, wNewT, wPar, wgName, wgTup, wgCons, wgNil, wiT, wiL, wiR1, wiZip, wiEnu, wiEnuA, wChain, wYes, wBM, wBM0, slot, allD, wipeS, List.map_cons, List.map_nil, List.set_cons_zero, List.set_cons_succ, List.cons_append, List.nil_append, List.isEmpty_nil, List.isEmpty_cons, Bool.not_true, Bool.not_false, wUn, dNot, dII0, dII, dEqS, dNeS, dIsN, dNotN, dNeg, ends, DL.gLt, DL.gLe, DL.gGt, DL.gGe, DL.gAdd, DL.gSub, DL.gMul, DL.gMod, DL.gDiv, DL.gPow]
        refine u_tupL (l := tl'.map tD) (obK_last (ob := deckO m' d' :: cellsO c' :: OB.lst [] :: OB.lst [] :: OB.gone :: OB.lst ((tl.map tD).map .d) :: g)) ?_
        try dsimp only [wRet, wAnd, wOr, wUn, wOp, wCa, wCons, wNil, wVar, wC, wSeq, wNext, wPass, wAsg, wExp, wIf, wB, wIfE, wAndT, wOrT, wNotT, wTup, wLst, wSl, dSl, wNoP, wPart, wCall, wCallK, wCallO, wCallP, wDisp, wFrz, wGet1, wGet2, wPut, wNewT, wPar, wgName, wgTup, wgCons, wgNil, wiT, wiL, wiR1, wiZip, wiEnu, wiEnuA, wChain, wYes, wBM, wBM0, slot, allD, wipeS, List.map_cons, List.map_nil, List.set_cons_zero, List.set_cons_succ, List.cons_append, List.nil_append, List.isEmpty_nil, List.isEmpty_cons, Bool.not_true, Bool.not_false, wUn, dNot, dII0, dII, dEqS, dNeS, dIsN, dNotN, dNeg, ends, DL.gLt, DL.gLe, DL.gGt, DL.gGe, DL.gAdd, DL.gSub, DL.gMul, DL.gMod, DL.gDiv, DL.gPow]
        exact ⟨sz2, hR (flD ([7]) tl') c' m' d' _ ⟨[7], tl', rfl, hv⟩ hc'⟩
    · have hr : RG f := ⟨hfn, hp, by omega⟩
      rw [show (f.map PyData.int).isEmpty = false by cases f with | nil => exact absurd rfl hfn | cons _ _ => rfl]
      try dsimp only [wRet, wAnd, wOr, wUn, wOp, wCa, wCons, wNil, wVar, wC, wSeq, wNext, wPass, wAsg, wExp, wIf, wB, wIfE, wAndT, wOrT, wNotT, wTup, wLst, wSl, dSl, wNoP, wPart, wCall, wCallK, wCallO, wCallP, wDisp, wFrz, wGet1, wGet2, wPut, wNewT, wPar, wgName, wgTup, wgCons, wgNil, wiT, wiL, wiR1, wiZip, wiEnu, wiEnuA, wChain, wYes, wBM, wBM0, slot, allD, wipeS, List.map_cons, List.map_nil, List.set_cons_zero, List.set_cons_succ, List.cons_append, List.nil_append, List.isEmpty_nil, List.isEmpty_cons, Bool.not_true, Bool.not_false, wUn, dNot, dII0, dII, dEqS, dNeS, dIsN, dNotN, dNeg, ends, DL.gLt, DL.gLe, DL.gGt, DL.gGe, DL.gAdd, DL.gSub, DL.gMul, DL.gMod, DL.gDiv, DL.gPow]
      have hsm : Small f := hr.small
      have hN : (spots f).length ≤ 1000 := hsm.2.1
      try simp only [List.length_cons, List.length_nil, Nat.zero_add, Nat.reduceAdd]
      rw [frz_of (f.map .int) rfl]
      dsimp only
      rw [ren8 (by decide)]
      try dsimp only [wRet, wAnd, wOr, wUn, wOp, wCa, wCons, wNil, wVar, wC, wSeq, wNext, wPass, wAsg, wExp, wIf, wB, wIfE, wAndT, wOrT, wNotT, wTup, wLst, wSl, dSl, wNoP, wPart, wCall, wCallK, wCallO, wCallP, wDisp, wFrz, wGet1, wGet2, wPut, wNewT, wPar, wgName, wgTup, wgCons, wgNil, wiT, wiL, wiR1, wiZip, wiEnu, wiEnuA, wChain, wYes, wBM, wBM0, slot, allD, wipeS, List.map_cons, List.map_nil, List.set_cons_zero, List.set_cons_succ, List.cons_append, List.nil_append, List.isEmpty_nil, List.isEmpty_cons, Bool.not_true, Bool.not_false, wUn, dNot, dII0, dII, dEqS, dNeS, dIsN, dNotN, dNeg, ends, DL.gLt, DL.gLe, DL.gGt, DL.gGe, DL.gAdd, DL.gSub, DL.gMul, DL.gMod, DL.gDiv, DL.gPow]
      refine call_pur0 [.list (f.map .int)] (.list (spots f)) rfl ⟨f, .inr rfl, hsm, rfl⟩ ?_
      try dsimp only [wRet, wAnd, wOr, wUn, wOp, wCa, wCons, wNil, wVar, wC, wSeq, wNext, wPass, wAsg, wExp, wIf, wB, wIfE, wAndT, wOrT, wNotT, wTup, wLst, wSl, dSl, wNoP, wPart, wCall, wCallK, wCallO, wCallP, wDisp, wFrz, wGet1, wGet2, wPut, wNewT, wPar, wgName, wgTup, wgCons, wgNil, wiT, wiL, wiR1, wiZip, wiEnu, wiEnuA, wChain, wYes, wBM, wBM0, slot, allD, wipeS, List.map_cons, List.map_nil, List.set_cons_zero, List.set_cons_succ, List.cons_append, List.nil_append, List.isEmpty_nil, List.isEmpty_cons, Bool.not_true, Bool.not_false, wUn, dNot, dII0, dII, dEqS, dNeS, dIsN, dNotN, dNeg, ends, DL.gLt, DL.gLe, DL.gGt, DL.gGe, DL.gAdd, DL.gSub, DL.gMul, DL.gMod, DL.gDiv, DL.gPow]
      refine u_lenL ?_
      refine call_dk [_] rfl ⟨_, rfl, by omega, by omega⟩ hc1 fun y c2 m2 d2 hv hc2 => ?_
      obtain ⟨k, p, e, rfl, hp⟩ := hv
      injection e with e
      injection e with e
      subst e
      rw [Int.toNat_natCast] at hp
      obtain ⟨sp, ho⟩ := ord_of hp
      try dsimp only [wRet, wAnd, wOr, wUn, wOp, wCa, wCons, wNil, wVar, wC, wSeq, wNext, wPass, wAsg, wExp, wIf, wB, wIfE, wAndT, wOrT, wNotT, wTup, wLst, wSl, dSl, wNoP, wPart, wCall, wCallK, wCallO, wCallP, wDisp, wFrz, wGet1, wGet2, wPut, wNewT, wPar, wgName, wgTup, wgCons, wgNil, wiT, wiL, wiR1, wiZip, wiEnu, wiEnuA, wChain, wYes, wBM, wBM0, slot, allD, wipeS, List.map_cons, List.map_nil, List.set_cons_zero, List.set_cons_succ, List.cons_append, List.nil_append, List.isEmpty_nil, List.isEmpty_cons, Bool.not_true, Bool.not_false, wUn, dNot, dII0, dII, dEqS, dNeS, dIsN, dNotN, dNeg, ends, DL.gLt, DL.gLe, DL.gGt, DL.gGe, DL.gAdd, DL.gSub, DL.gMul, DL.gMod, DL.gDiv, DL.gPow]
      refine ⟨Nat.zero_le _, ?_⟩
      try dsimp only [wRet, wAnd, wOr, wUn, wOp, wCa, wCons, wNil, wVar, wC, wSeq, wNext, wPass, wAsg, wExp, wIf, wB, wIfE, wAndT, wOrT, wNotT, wTup, wLst, wSl, dSl, wNoP, wPart, wCall, wCallK, wCallO, wCallP, wDisp, wFrz, wGet1, wGet2, wPut, wNewT, wPar, wgName, wgTup, wgCons, wgNil, wiT, wiL, wiR1, wiZip, wiEnu, wiEnuA, wChain, wYes, wBM, wBM0, slot, allD, wipeS, List.map_cons, List.map_nil, List.set_cons_zero, List.set_cons_succ, List.cons_append, List.nil_append, List.isEmpty_nil, List.isEmpty_cons, Bool.not_true, Bool.not_false, wUn, dNot, dII0, dII, dEqS, dNeS, dIsN, dNotN, dNeg, ends, DL.gLt, DL.gLe, DL.gGt, DL.gGe, DL.gAdd, DL.gSub, DL.gMul, DL.gMod, DL.gDiv, DL.gPow]
      have hnd : sp.Nodup := ho.pm.nodup_iff.mpr (nd_spI f 0)
      have hsp := ho.len
      refine for_in' (fun xs ρ1 => xs.length ≤ 20 ∧ 2 * xs.length ≤ (spots f).length ∧ (∀ (i : Nat) (x : PyData), xs[i]? = some x → x = .int (i : Nat)) ∧ ∃ (c' : List Int) (m' d' : Int), c'.length ≤ 63 ∧ ρ1 = ⟨[some (.o 0), some (.d (.list (f.map .int))), some (.d (.int (40 - f.sum))), t1.map .d, l1.map .d, some (.d (.list (spots f))), some (.d (.tuple p)), some (.o 4)], deckO m' d' :: cellsO c' :: OB.gone :: OB.lst [] :: [OB.lst []]⟩)
        (fun i ρ' => ∃ (c' : List Int) (m' d' : Int) (tl : List Tc) (g : List OB) (a : Option DV), c'.length ≤ 63 ∧ ρ' = ⟨[some (.o 0), some (.d (.list (f.map .int))), some (.d (.int (40 - f.sum))), a, l1.map .d, some (.d (.list (spots f))), some (.d (.tuple p)), some (.o 4)], deckO m' d' :: cellsO c' :: OB.gone :: OB.lst [] :: OB.lst ((tl.map tD).map .d) :: g⟩ ∧ TT sp i tl) (fun C h => ?_) ?_ ?_ ?_
      · have fin : ∀ (j : Int) (c' : List Int) (m' d' : Int), c'.length ≤ 63 → 0 ≤ j → j ≤ 20 → 2 * j ≤ (spots f).length → C (rng 0 j.toNat) ⟨[some (.o 0), some (.d (.list (f.map .int))), some (.d (.int (40 - f.sum))), t1.map .d, l1.map .d, some (.d (.list (spots f))), some (.d (.tuple p)), some (.o 4)], deckO m' d' :: cellsO c' :: OB.gone :: OB.lst [] :: [OB.lst []]⟩ := fun j c' m' d' hc' j0 j1 j2 =>
          h _ _ ⟨by rw [rng_len]; omega, by rw [rng_len]; omega, fun i x hx => by
            obtain ⟨_, rfl⟩ := rng_get hx
            rw [Int.zero_add], c', m', d', hc', rfl⟩
        try dsimp only [wRet, wAnd, wOr, wUn, wOp, wCa, wCons, wNil, wVar, wC, wSeq, wNext, wPass, wAsg, wExp, wIf, wB, wIfE, wAndT, wOrT, wNotT, wTup, wLst, wSl, dSl, wNoP, wPart, wCall, wCallK, wCallO, wCallP, wDisp, wFrz, wGet1, wGet2, wPut, wNewT, wPar, wgName, wgTup, wgCons, wgNil, wiT, wiL, wiR1, wiZip, wiEnu, wiEnuA, wChain, wYes, wBM, wBM0, slot, allD, wipeS, List.map_cons, List.map_nil, List.set_cons_zero, List.set_cons_succ, List.cons_append, List.nil_append, List.isEmpty_nil, List.isEmpty_cons, Bool.not_true, Bool.not_false, wUn, dNot, dII0, dII, dEqS, dNeS, dIsN, dNotN, dNeg, ends, DL.gLt, DL.gLe, DL.gGt, DL.gGe, DL.gAdd, DL.gSub, DL.gMul, DL.gMod, DL.gDiv, DL.gPow]
        refine u_lenL ?_
        try dsimp only [wRet, wAnd, wOr, wUn, wOp, wCa, wCons, wNil, wVar, wC, wSeq, wNext, wPass, wAsg, wExp, wIf, wB, wIfE, wAndT, wOrT, wNotT, wTup, wLst, wSl, dSl, wNoP, wPart, wCall, wCallK, wCallO, wCallP, wDisp, wFrz, wGet1, wGet2, wPut, wNewT, wPar, wgName, wgTup, wgCons, wgNil, wiT, wiL, wiR1, wiZip, wiEnu, wiEnuA, wChain, wYes, wBM, wBM0, slot, allD, wipeS, List.map_cons, List.map_nil, List.set_cons_zero, List.set_cons_succ, List.cons_append, List.nil_append, List.isEmpty_nil, List.isEmpty_cons, Bool.not_true, Bool.not_false, wUn, dNot, dII0, dII, dEqS, dNeS, dIsN, dNotN, dNeg, ends, DL.gLt, DL.gLe, DL.gGt, DL.gGe, DL.gAdd, DL.gSub, DL.gMul, DL.gMod, DL.gDiv, DL.gPow]
        refine ⟨⟨by decide, by decide⟩, ?_⟩
        unfold dMin
        try dsimp only [wRet, wAnd, wOr, wUn, wOp, wCa, wCons, wNil, wVar, wC, wSeq, wNext, wPass, wAsg, wExp, wIf, wB, wIfE, wAndT, wOrT, wNotT, wTup, wLst, wSl, dSl, wNoP, wPart, wCall, wCallK, wCallO, wCallP, wDisp, wFrz, wGet1, wGet2, wPut, wNewT, wPar, wgName, wgTup, wgCons, wgNil, wiT, wiL, wiR1, wiZip, wiEnu, wiEnuA, wChain, wYes, wBM, wBM0, slot, allD, wipeS, List.map_cons, List.map_nil, List.set_cons_zero, List.set_cons_succ, List.cons_append, List.nil_append, List.isEmpty_nil, List.isEmpty_cons, Bool.not_true, Bool.not_false, wUn, dNot, dII0, dII, dEqS, dNeS, dIsN, dNotN, dNeg, ends, DL.gLt, DL.gLe, DL.gGt, DL.gGe, DL.gAdd, DL.gSub, DL.gMul, DL.gMod, DL.gDiv, DL.gPow]
        refine call_dk [_] rfl ⟨_, rfl, ?_, ?_⟩ hc2 fun y c4 m4 d4 hv hc4 => ?_
        · split <;> omega
        · split <;> omega
        · obtain ⟨q, r, e, rfl, r0, r1⟩ := hv
          injection e with e
          injection e with e
          subst e
          try dsimp only [wRet, wAnd, wOr, wUn, wOp, wCa, wCons, wNil, wVar, wC, wSeq, wNext, wPass, wAsg, wExp, wIf, wB, wIfE, wAndT, wOrT, wNotT, wTup, wLst, wSl, dSl, wNoP, wPart, wCall, wCallK, wCallO, wCallP, wDisp, wFrz, wGet1, wGet2, wPut, wNewT, wPar, wgName, wgTup, wgCons, wgNil, wiT, wiL, wiR1, wiZip, wiEnu, wiEnuA, wChain, wYes, wBM, wBM0, slot, allD, wipeS, List.map_cons, List.map_nil, List.set_cons_zero, List.set_cons_succ, List.cons_append, List.nil_append, List.isEmpty_nil, List.isEmpty_cons, Bool.not_true, Bool.not_false, wUn, dNot, dII0, dII, dEqS, dNeS, dIsN, dNotN, dNeg, ends, DL.gLt, DL.gLe, DL.gGt, DL.gGe, DL.gAdd, DL.gSub, DL.gMul, DL.gMod, DL.gDiv, DL.gPow]
          refine ⟨?_, fin r _ _ _ hc4 r0 ?_ ?_⟩
          · unfold RgB
            split at r1 <;> omega
          · split at r1 <;> omega
          · split at r1 <;> omega
      · rintro xs ρ1 ⟨_, _, _, c', m', d', hc', rfl⟩
        exact ⟨c', m', d', [], [], t1.map .d, hc', rfl, tt_nil sp⟩
      · rintro xs ρ1 ⟨hx1, hx2, hx3, _⟩ i x ρ' hx ⟨c', m', d', tl, g, a, hc', rfl, ht⟩
        have hi : i < xs.length := (List.getElem?_eq_some_iff.mp hx).1
        obtain rfl := hx3 i x hx
        have hm1 : 2 * i < sp.length := by omega
        have hm2 : 2 * i + 1 < sp.length := by omega
        obtain ⟨k1, a1, a2⟩ := ho.at_ (2 * i) hm1
        obtain ⟨k2, b1, b2⟩ := ho.at_ (2 * i + 1) hm2
        rw [Int.natCast_mul] at a1
        rw [Int.natCast_add, Int.natCast_mul] at b1
        obtain ⟨t, es, et1, et2⟩ := srt_two (nd_two hnd hm2)
        try dsimp only [wRet, wAnd, wOr, wUn, wOp, wCa, wCons, wNil, wVar, wC, wSeq, wNext, wPass, wAsg, wExp, wIf, wB, wIfE, wAndT, wOrT, wNotT, wTup, wLst, wSl, dSl, wNoP, wPart, wCall, wCallK, wCallO, wCallP, wDisp, wFrz, wGet1, wGet2, wPut, wNewT, wPar, wgName, wgTup, wgCons, wgNil, wiT, wiL, wiR1, wiZip, wiEnu, wiEnuA, wChain, wYes, wBM, wBM0, slot, allD, wipeS, List.map_cons, List.map_nil, List.set_cons_zero, List.set_cons_succ, List.cons_append, List.nil_append, List.isEmpty_nil, List.isEmpty_cons, Bool.not_true, Bool.not_false, wUn, dNot, dII0, dII, dEqS, dNeS, dIsN, dNotN, dNeg, ends, DL.gLt, DL.gLe, DL.gGt, DL.gGe, DL.gAdd, DL.gSub, DL.gMul, DL.gMod, DL.gDiv, DL.gPow]
        refine ⟨u_tyL rfl, ?_⟩
        refine ⟨.inl (by decide), ?_⟩
        refine u_ix a1 ?_
        refine u_ixL a2 ?_
        try dsimp only [wRet, wAnd, wOr, wUn, wOp, wCa, wCons, wNil, wVar, wC, wSeq, wNext, wPass, wAsg, wExp, wIf, wB, wIfE, wAndT, wOrT, wNotT, wTup, wLst, wSl, dSl, wNoP, wPart, wCall, wCallK, wCallO, wCallP, wDisp, wFrz, wGet1, wGet2, wPut, wNewT, wPar, wgName, wgTup, wgCons, wgNil, wiT, wiL, wiR1, wiZip, wiEnu, wiEnuA, wChain, wYes, wBM, wBM0, slot, allD, wipeS, List.map_cons, List.map_nil, List.set_cons_zero, List.set_cons_succ, List.cons_append, List.nil_append, List.isEmpty_nil, List.isEmpty_cons, Bool.not_true, Bool.not_false, wUn, dNot, dII0, dII, dEqS, dNeS, dIsN, dNotN, dNeg, ends, DL.gLt, DL.gLe, DL.gGt, DL.gGe, DL.gAdd, DL.gSub, DL.gMul, DL.gMod, DL.gDiv, DL.gPow]
        refine ⟨.inl (by decide), ?_⟩
        try dsimp only [wRet, wAnd, wOr, wUn, wOp, wCa, wCons, wNil, wVar, wC, wSeq, wNext, wPass, wAsg, wExp, wIf, wB, wIfE, wAndT, wOrT, wNotT, wTup, wLst, wSl, dSl, wNoP, wPart, wCall, wCallK, wCallO, wCallP, wDisp, wFrz, wGet1, wGet2, wPut, wNewT, wPar, wgName, wgTup, wgCons, wgNil, wiT, wiL, wiR1, wiZip, wiEnu, wiEnuA, wChain, wYes, wBM, wBM0, slot, allD, wipeS, List.map_cons, List.map_nil, List.set_cons_zero, List.set_cons_succ, List.cons_append, List.nil_append, List.isEmpty_nil, List.isEmpty_cons, Bool.not_true, Bool.not_false, wUn, dNot, dII0, dII, dEqS, dNeS, dIsN, dNotN, dNeg, ends, DL.gLt, DL.gLe, DL.gGt, DL.gGe, DL.gAdd, DL.gSub, DL.gMul, DL.gMod, DL.gDiv, DL.gPow]
        refine u_ix b1 ?_
        refine u_ixL b2 ?_
        try dsimp only [wRet, wAnd, wOr, wUn, wOp, wCa, wCons, wNil, wVar, wC, wSeq, wNext, wPass, wAsg, wExp, wIf, wB, wIfE, wAndT, wOrT, wNotT, wTup, wLst, wSl, dSl, wNoP, wPart, wCall, wCallK, wCallO, wCallP, wDisp, wFrz, wGet1, wGet2, wPut, wNewT, wPar, wgName, wgTup, wgCons, wgNil, wiT, wiL, wiR1, wiZip, wiEnu, wiEnuA, wChain, wYes, wBM, wBM0, slot, allD, wipeS, List.map_cons, List.map_nil, List.set_cons_zero, List.set_cons_succ, List.cons_append, List.nil_append, List.isEmpty_nil, List.isEmpty_cons, Bool.not_true, Bool.not_false, wUn, dNot, dII0, dII, dEqS, dNeS, dIsN, dNotN, dNeg, ends, DL.gLt, DL.gLe, DL.gGt, DL.gGe, DL.gAdd, DL.gSub, DL.gMul, DL.gMod, DL.gDiv, DL.gPow]
        refine ⟨sz2, ?_⟩
        refine ⟨[plP sp[2 * i], plP sp[2 * i + 1]], lst_last (l := [plP sp[2 * i], plP sp[2 * i + 1]]) (ob := deckO m' d' :: cellsO c' :: OB.gone :: OB.lst [] :: OB.lst ((tl.map tD).map .d) :: g), sorts_pl [sp[2 * i], sp[2 * i + 1]], ?_⟩
        rw [es]
        refine u_tupL (l := [plP (p1 t), plP (p2 t)]) (obK_last (ob := deckO m' d' :: cellsO c' :: OB.gone :: OB.lst [] :: OB.lst ((tl.map tD).map .d) :: (g ++ [.lst ([plP sp[2 * i], plP sp[2 * i + 1]].map .d)]))) ?_
        try dsimp only [wRet, wAnd, wOr, wUn, wOp, wCa, wCons, wNil, wVar, wC, wSeq, wNext, wPass, wAsg, wExp, wIf, wB, wIfE, wAndT, wOrT, wNotT, wTup, wLst, wSl, dSl, wNoP, wPart, wCall, wCallK, wCallO, wCallP, wDisp, wFrz, wGet1, wGet2, wPut, wNewT, wPar, wgName, wgTup, wgCons, wgNil, wiT, wiL, wiR1, wiZip, wiEnu, wiEnuA, wChain, wYes, wBM, wBM0, slot, allD, wipeS, List.map_cons, List.map_nil, List.set_cons_zero, List.set_cons_succ, List.cons_append, List.nil_append, List.isEmpty_nil, List.isEmpty_cons, Bool.not_true, Bool.not_false, wUn, dNot, dII0, dII, dEqS, dNeS, dIsN, dNotN, dNeg, ends, DL.gLt, DL.gLe, DL.gGt, DL.gGe, DL.gAdd, DL.gSub, DL.gMul, DL.gMod, DL.gDiv, DL.gPow]
        refine u_app (l := tl.map tD) rfl (by rw [List.length_map, ht.len]; exact small1000 (by omega)) ?_
        try dsimp only [wRet, wAnd, wOr, wUn, wOp, wCa, wCons, wNil, wVar, wC, wSeq, wNext, wPass, wAsg, wExp, wIf, wB, wIfE, wAndT, wOrT, wNotT, wTup, wLst, wSl, dSl, wNoP, wPart, wCall, wCallK, wCallO, wCallP, wDisp, wFrz, wGet1, wGet2, wPut, wNewT, wPar, wgName, wgTup, wgCons, wgNil, wiT, wiL, wiR1, wiZip, wiEnu, wiEnuA, wChain, wYes, wBM, wBM0, slot, allD, wipeS, List.map_cons, List.map_nil, List.set_cons_zero, List.set_cons_succ, List.cons_append, List.nil_append, List.isEmpty_nil, List.isEmpty_cons, Bool.not_true, Bool.not_false, wUn, dNot, dII0, dII, dEqS, dNeS, dIsN, dNotN, dNeg, ends, DL.gLt, DL.gLe, DL.gGt, DL.gGe, DL.gAdd, DL.gSub, DL.gMul, DL.gMod, DL.gDiv, DL.gPow]
        have em : (tl ++ [t]).map tD = tl.map tD ++ [tD t] := List.map_append
        exact ⟨c', m', d', tl ++ [t], _, _, hc', by rw [em]; rfl, ht.step hm2 et1 et2⟩
      · rintro xs ρ1 ⟨hx1, hx2, hx3, _⟩ ρ' ⟨c', m', d', tl, g, a, hc', rfl, ht⟩
        obtain ⟨tl', es, hv⟩ := ht.vf ho hr (by omega)
        try dsimp only [wRet, wAnd, wOr, wUn, wOp, wCa, wCons, wNil, wVar, wC, wSeq, wNext, wPass, wAsg, wExp, wIf, wB, wIfE, wAndT, wOrT, wNotT, wTup, wLst, wSl, dSl, wNoP, wPart, wCall, wCallK, wCallO, wCallP, wDisp, wFrz, wGet1, wGet2, wPut, wNewT, wPar, wgName, wgTup, wgCons, wgNil, wiT, wiL, wiR1, wiZip, wiEnu, wiEnuA, wChain, wYes, wBM, wBM0, slot, allD, wipeS, List.map_cons, List.map_nil, List.set_cons_zero, List.set_cons_succ, List.cons_append, List.nil_append, List.isEmpty_nil, List.isEmpty_cons, Bool.not_true, Bool.not_false, wUn, dNot, dII0, dII, dEqS, dNeS, dIsN, dNotN, dNeg, ends, DL.gLt, DL.gLe, DL.gGt, DL.gGe, DL.gAdd, DL.gSub, DL.gMul, DL.gMod, DL.gDiv, DL.gPow]
        refine ⟨f.map .int, rfl, ?_⟩
        try dsimp only [wRet, wAnd, wOr, wUn, wOp, wCa, wCons, wNil, wVar, wC, wSeq, wNext, wPass, wAsg, wExp, wIf, wB, wIfE, wAndT, wOrT, wNotT, wTup, wLst, wSl, dSl, wNoP, wPart, wCall, wCallK, wCallO, wCallP, wDisp, wFrz, wGet1, wGet2, wPut, wNewT, wPar, wgName, wgTup, wgCons, wgNil, wiT, wiL, wiR1, wiZip, wiEnu, wiEnuA, wChain, wYes, wBM, wBM0, slot, allD, wipeS, List.map_cons, List.map_nil, List.set_cons_zero, List.set_cons_succ, List.cons_append, List.nil_append, List.isEmpty_nil, List.isEmpty_cons, Bool.not_true, Bool.not_false, wUn, dNot, dII0, dII, dEqS, dNeS, dIsN, dNotN, dNeg, ends, DL.gLt, DL.gLe, DL.gGt, DL.gGe, DL.gAdd, DL.gSub, DL.gMul, DL.gMod, DL.gDiv, DL.gPow]
        refine ⟨tl.map tD, lst_of rfl, sorts_tc tl, ?_⟩
        rw [es]
        try dsimp only [wRet, wAnd, wOr, wUn, wOp, wCa, wCons, wNil, wVar, wC, wSeq, wNext, wPass, wAsg, wExp, wIf, wB, wIfE, wAndT, wOrT, wNotT, wTup, wLst, wSl, dSl, wNoP, wPart, wCall, wCallK, wCallO, wCallP, wDisp, wFrz, wGet1, wGet2, wPut, wNewT, wPar, wgName, wgTup, wgCons, wgNil, wiT, wiL, wiR1, wiZip, wiEnu, wiEnuA, wChain, wYes, wBM, wBM0, slot, allD, wipeS, List.map_cons, List.map_nil, List.set_cons_zero, List.set_cons_succ, List.cons_append, List.nil_append, List.isEmpty_nil, List.isEmpty_cons, Bool.not_true, Bool.not_false, wUn, dNot, dII0, dII, dEqS, dNeS, dIsN, dNotN, dNeg, ends, DL.gLt, DL.gLe, DL.gGt, DL.gGe, DL.gAdd, DL.gSub, DL.gMul, DL.gMod, DL.gDiv, DL.gPow]
        refine u_tupL (l := tl'.map tD) (obK_last (ob := deckO m' d' :: cellsO c' :: OB.gone :: OB.lst [] :: OB.lst ((tl.map tD).map .d) :: g)) ?_
        try dsimp only [wRet, wAnd, wOr, wUn, wOp, wCa, wCons, wNil, wVar, wC, wSeq, wNext, wPass, wAsg, wExp, wIf, wB, wIfE, wAndT, wOrT, wNotT, wTup, wLst, wSl, dSl, wNoP, wPart, wCall, wCallK, wCallO, wCallP, wDisp, wFrz, wGet1, wGet2, wPut, wNewT, wPar, wgName, wgTup, wgCons, wgNil, wiT, wiL, wiR1, wiZip, wiEnu, wiEnuA, wChain, wYes, wBM, wBM0, slot, allD, wipeS, List.map_cons, List.map_nil, List.set_cons_zero, List.set_cons_succ, List.cons_append, List.nil_append, List.isEmpty_nil, List.isEmpty_cons, Bool.not_true, Bool.not_false, wUn, dNot, dII0, dII, dEqS, dNeS, dIsN, dNotN, dNeg, ends, DL.gLt, DL.gLe, DL.gGt, DL.gGe, DL.gAdd, DL.gSub, DL.gMul, DL.gMod, DL.gDiv, DL.gPow]
        exact ⟨sz2, hR (flD f tl') c' m' d' _ ⟨f, tl', rfl, hv⟩ hc'⟩
end K02
end

section
set_option Elab.async false
set_option linter.all false
set_option maxRecDepth 100000
set_option maxHeartbeats 1000000
set_option autoImplicit false
namespace K02
open PySem PySem.Spec PyProof.Rows L2 DL
/-! ### partners in numbers -/
def kK (p : Int × Int) : List Key := plK p.1 p.2
theorem kK_inj {p q : Int × Int} (h : kK p = kK q) : p = q := by
  injection h with h1 h2
  injection h2 with h2 _
  injection h1 with h1
  injection h2 with h2
  exact Prod.ext h1 h2
def tabE (t : Tc) : Tab := [(kK (p1 t), plP (p2 t)), (kK (p2 t), plP (p1 t))]
theorem putD_new {l : Tab} {k : List Key} {v : PyData} (h : k ∉ l.map (·.1)) : putD l k v = l ++ [(k, v)] := by
  unfold putD
  rw [if_neg]
  intro z
  obtain ⟨p, hp, e⟩ := List.any_eq_true.mp z
  exact h (List.mem_map.mpr ⟨p, hp, of_decide_eq_true e⟩)
theorem par_fold : ∀ (tl : List Tc) (l : Tab), (l.map (·.1) ++ (tl.flatMap sd).map kK).Nodup → tl.foldl par1 l = l ++ tl.flatMap tabE
  | [], l, _ => by simp
  | t :: r, l, h => by
    have e : (l.map (·.1) ++ ((t :: r).flatMap sd).map kK) = (l.map (·.1) ++ [kK (p1 t), kK (p2 t)]) ++ (r.flatMap sd).map kK := by
      rw [List.flatMap_cons, List.map_append, ← List.append_assoc]
      rfl
    rw [e] at h
    have h1 := (List.nodup_append.mp h).1
    have n1 : kK (p1 t) ∉ l.map (·.1) := fun z => (List.nodup_append.mp h1).2.2 _ z _ List.mem_cons_self rfl
    have n2 : kK (p2 t) ∉ (l ++ [(kK (p1 t), plP (p2 t))]).map (·.1) := fun z => by
      rw [List.map_append, List.mem_append] at z
      rcases z with z | z
      · exact (List.nodup_append.mp h1).2.2 _ z _ (List.mem_cons_of_mem _ List.mem_cons_self) rfl
      · have := (List.nodup_append.mp h1).2.1
        simp at z this
        exact this z.symm
    have ep : par1 l t = l ++ tabE t := by
      show putD (putD l (kK (p1 t)) (plP (p2 t))) (kK (p2 t)) (plP (p1 t)) = _
      rw [putD_new n1, putD_new n2, List.append_assoc]
      rfl
    rw [List.foldl_cons, ep, par_fold r (l ++ tabE t) (by rw [List.map_append]; exact h), List.flatMap_cons, List.append_assoc]
theorem par_eq {tl : List Tc} (h : (tl.flatMap sd).Nodup) : parP tl = tl.flatMap tabE := by
  unfold parP
  rw [par_fold tl [] (by
    rw [List.map_nil, List.nil_append]
    exact List.pairwise_map.mpr (h.imp fun hne he => hne (kK_inj he)))]
  rfl
theorem par_keys {tl : List Tc} (h : (tl.flatMap sd).Nodup) : (parP tl).map (·.1) = (tl.flatMap sd).map kK := by
  rw [par_eq h]
  clear h
  induction tl with
  | nil => rfl
  | cons t r ih =>
    rw [List.flatMap_cons, List.flatMap_cons, List.map_append, List.map_append, ih]
    rfl
def mateI : List Tc → Int × Int → Option (Int × Int)
  | [], _ => none
  | t :: r, p => if p1 t = p then some (p2 t) else if p2 t = p then some (p1 t) else mateI r p
theorem look_tab : ∀ (tl : List Tc) (p : Int × Int), lookD (tl.flatMap tabE) (kK p) = (mateI tl p).map plP
  | [], _ => rfl
  | t :: r, p => by
    show (if kK (p1 t) = kK p then some (plP (p2 t)) else if kK (p2 t) = kK p then some (plP (p1 t)) else lookD (r.flatMap tabE) (kK p)) = (if p1 t = p then some (p2 t) else if p2 t = p then some (p1 t) else mateI r p).map plP
    by_cases h1 : p1 t = p
    · rw [if_pos (by rw [h1]), if_pos h1]
      rfl
    · rw [if_neg (fun z => h1 (kK_inj z)), if_neg h1]
      by_cases h2 : p2 t = p
      · rw [if_pos (by rw [h2]), if_pos h2]
        rfl
      · rw [if_neg (fun z => h2 (kK_inj z)), if_neg h2, look_tab r p]
theorem par_of {tl : List Tc} (h : (tl.flatMap sd).Nodup) (u i : Int) : parOf tl u i = ((mateI tl (u, i)).map plP).getD .none := by
  unfold parOf
  rw [par_eq h, show plK u i = kK (u, i) from rfl, look_tab]
theorem mate_mem : ∀ {tl : List Tc} {p : Int × Int}, (mateI tl p).isSome = true ↔ p ∈ tl.flatMap sd
  | [], p => by simp [mateI]
  | t :: r, p => by
    rw [List.flatMap_cons, List.mem_append]
    unfold mateI
    by_cases h1 : p1 t = p
    · rw [if_pos h1]
      exact ⟨fun _ => .inl (by rw [← h1]; exact List.mem_cons_self), fun _ => rfl⟩
    · rw [if_neg h1]
      by_cases h2 : p2 t = p
      · rw [if_pos h2]
        exact ⟨fun _ => .inl (by rw [← h2]; exact List.mem_cons_of_mem _ List.mem_cons_self), fun _ => rfl⟩
      · rw [if_neg h2, mate_mem]
        refine ⟨.inr, fun z => z.resolve_left fun z => ?_⟩
        rcases List.mem_cons.mp z with z | z
        · exact h1 z.symm
        · exact h2 (List.mem_singleton.mp z).symm
theorem mate_back : ∀ {tl : List Tc} {p q : Int × Int}, (tl.flatMap sd).Nodup → mateI tl p = some q → q ∈ tl.flatMap sd ∧ mateI tl q = some p
  | [], _, _, _, h => nomatch h
  | t :: r, p, q, nd, h => by
    rw [List.flatMap_cons, List.nodup_append] at nd
    obtain ⟨n1, n2, n3⟩ := nd
    have n12 : p1 t ≠ p2 t := by
      have := (List.nodup_cons.mp n1).1
      intro z
      exact this (by rw [z]; exact List.mem_cons_self)
    rw [List.flatMap_cons, List.mem_append]
    unfold mateI at h ⊢
    by_cases h1 : p1 t = p
    · rw [if_pos h1] at h
      obtain rfl := Option.some.inj h
      exact ⟨.inl (List.mem_cons_of_mem _ List.mem_cons_self), by rw [if_neg n12, if_pos rfl, h1]⟩
    · rw [if_neg h1] at h
      by_cases h2 : p2 t = p
      · rw [if_pos h2] at h
        obtain rfl := Option.some.inj h
        exact ⟨.inl List.mem_cons_self, by rw [if_pos rfl, h2]⟩
      · rw [if_neg h2] at h
        obtain ⟨m, b⟩ := mate_back n2 h
        refine ⟨.inr m, ?_⟩
        rw [if_neg (fun z => n3 _ List.mem_cons_self _ m z), if_neg (fun z => n3 _ (List.mem_cons_of_mem _ List.mem_cons_self) _ m z)]
        exact b
end K02
end

section
set_option Elab.async false
set_option linter.all false
set_option maxRecDepth 100000
set_option maxHeartbeats 1000000
set_option autoImplicit false
namespace K02
open PySem PySem.Spec PyProof.Rows L2 DL
theorem sz3 : 3 ≤ sizeLine := by decide
theorem sz6 : 6 ≤ sizeLine := by decide
theorem sz4 : 4 ≤ sizeLine := by decide
/-- all that is known of a place of a floor -/
structure Pc (ns : List Int) (n : Nat) (i : Int) (L : Int) : Prop where
  at_ : ns[n]? = some L
  i0 : 0 ≤ i
  iL : i < L
  n40 : n < 40
  L40 : L ≤ 40
theorem pc_of {ns : List Int} (h : RG ns) {u i : Int} (hm : (u, i) ∈ spI 0 ns) : ∃ (n : Nat) (L : Int), u = n ∧ Pc ns n i L := by
  obtain ⟨n, h1, h2, l, h3, h4⟩ := mem_spI.mp hm
  have h1 : u = 0 + (n : Int) := h1
  have hn : n < ns.length := (List.getElem?_eq_some_iff.mp h3).1
  obtain ⟨s1, s2⟩ := sum_ge h.pos
  have s3 := h.sum
  have s4 := s2 l (List.mem_of_getElem? h3)
  exact ⟨n, l, by omega, h3, h2, h4, by omega, by omega⟩
theorem Pc.pl {ns : List Int} {n : Nat} {i L : Int} (h : Pc ns n i L) : isPl ns (plD n i) = true := pl_iff.mpr (mem_spI.mpr ⟨n, by simp, h.i0, L, h.at_, h.iL⟩)
theorem Pc.g {ns : List Int} {n : Nat} {i L : Int} (h : Pc ns n i L) : ns.getD ((n : Nat) : Int).toNat 0 = L := by
  rw [Int.toNat_natCast, List.getD_eq_getElem?_getD, h.at_]
  rfl
theorem Pc.mv {ns : List Int} {n : Nat} {i L : Int} (h : Pc ns n i L) (k : Int) : Pc ns n ((i + k) % L) L := by
  have hL : 0 < L := by have := h.i0; have := h.iL; omega
  exact ⟨h.at_, Int.emod_nonneg _ (by omega), Int.emod_lt_of_pos _ hL, h.n40, h.L40⟩
theorem sh_pl {n : Nat} {i : Int} (hn : n < 40) (h0 : 0 ≤ i) (h1 : i ≤ 64) : Sh 16 1 (plD n i) := by
  refine sh_tup (w := 7) (k := 0) (xs := [.int (n : Nat), .int i]) fun x hx => ?_
  rcases List.mem_cons.mp hx with rfl | hx
  · exact sh_int (by omega) (by omega)
  · rw [List.mem_singleton.mp hx]
    exact sh_int h0 h1
theorem Pc.sh {ns : List Int} {n : Nat} {i L : Int} (h : Pc ns n i L) : Sh 16 1 (plD n i) := sh_pl h.n40 h.i0 (by have := h.iL; have := h.L40; omega)
theorem shows_two {a b : PyData} (h1 : Sh 16 1 a) (h2 : Sh 16 1 b) : Shows (.tuple [a, b]) :=
  (sh_tup (xs := [a, b]) fun x hx => by
    rcases List.mem_cons.mp hx with rfl | hx
    · exact h1
    · rw [List.mem_singleton.mp hx]
      exact h2).shows (by show (16 + 1) * 2 ≤ 1000000; decide) (by decide)
/-- the place at a seat -/
theorem seat_at {ns : List Int} (h : RG ns) {n : Nat} {i L at' : Int} (pc : Pc ns n i L) (h0 : 0 ≤ at') (ha : (spI 0 ns)[at'.toNat]? = some ((n : Int), i)) : seatN ns n i = at' ∧ at' ≤ 40 := by
  obtain ⟨e1, e2⟩ := at_spI ns 0 n i L h.pos pc.at_ pc.i0 pc.iL
  rw [Int.zero_add] at e1
  obtain ⟨l1, g1⟩ := List.getElem?_eq_some_iff.mp ha
  obtain ⟨l2, g2⟩ := List.getElem?_eq_some_iff.mp e1
  have := (List.getElem_inj (nd_spI ns 0)).mp (g1.trans g2.symm)
  have hl := len_spI ns 0 h.pos
  have hs := h.sum
  have := pc.i0
  unfold seatN
  rw [Int.toNat_natCast]
  omega
theorem mul_big : CMulW (10 ^ Int.toNat 50) (10 ^ Int.toNat 49) := by
  unfold CMulW
  decide +kernel
theorem pick_int {xs : List PyData} {y : PyData} (h : ∃ zs : List PyData, ([PyData.list xs] = [.tuple zs] ∨ [PyData.list xs] = [.list zs]) ∧ y ∈ zs) (hx : xs.all isWh = true) : ∃ g : Int, y = .int g := by
  obtain ⟨zs, hz, hy⟩ := h
  rcases hz with e | e
  · injection e with e
    cases e
  · injection e with e
    injection e with e
    subst e
    have := List.all_eq_true.mp hx y hy
    cases y with
    | int g => exact ⟨g, rfl⟩
    | _ => cases this
def notO (k : Nat) : Option DV → Bool
  | some (.o j) => !decide (j = k)
  | _ => true
theorem ren_id {k : Nat} {X : PyData} : ∀ {sl : List (Option DV)}, sl.all (notO k) = true → sl.map (ren k X) = sl
  | [], _ => rfl
  | a :: r, h => by
    rw [List.all_cons, Bool.and_eq_true] at h
    rw [List.map_cons, ren_id h.2]
    congr 1
    match a, h.1 with
    | none, _ => rfl
    | some (.d _), _ => rfl
    | some (.o j), h1 =>
      show (if j = k then some (DV.d X) else some (.o j)) = _
      rw [if_neg]
      intro z
      rw [z] at h1
      simp [notO] at h1
def sp_law_is_place_right : DSp := dkS 4 (fun ds => ∃ ns tl u i at', ds = [flD ns tl, plD u i, .int at', dtD (parP tl)] ∧ VF ns tl ∧ 0 ≤ at' ∧ (spI 0 ns)[at'.toNat]? = some (u, i)) (fun ds y => y = .bool true)
theorem ok_law_is_place_right {P : Program} {w0 : World} {K : PySem.W.Frag} {mg : Str → Option Value} {base : Heap} (b : BI mg) (h : Hd K mg "_law_is_place_right" s_law_is_place_right nP_law_is_place_right) (c_law_behind : DefG P w0 K mg base 1 "_law_behind" s_law_behind nP_law_behind sp_law_behind) (c_law_draw : DefG P w0 K mg base 1 "_law_draw" s_law_draw nP_law_draw sp_law_draw) (c_law_pick : DefG P w0 K mg base 2 "_law_pick" s_law_pick nP_law_pick sp_law_pick) (c_behind : DefG P w0 K mg base 9 "behind" s_behind nP_behind sp_behind) (c_is_place : DefG P w0 K mg base 7 "is_place" s_is_place nP_is_place sp_is_place) (c_partner : DefG P w0 K mg base 9 "partner" s_partner nP_partner sp_partner) (c_seat : DefG P w0 K mg base 9 "seat" s_seat nP_seat sp_seat) : DefG P w0 K mg base 10 "_law_is_place_right" s_law_is_place_right nP_law_is_place_right sp_law_is_place_right := by
  refine mk_def h sc_law_is_place_right dkS_len (pdss_cons (pds_set 5 (pd_ix (pd_ix (pd_var 1) pd_int) (pd_ix (pd_var 2) pd_int)))
  (pdss_cons (pds_if (pdt_cmpD cd_neS (pd_repr rfl b.repr_ (pda_cons (pd_tup (pda_cons (pd_call 0 (c_seat.to) rfl (pda_cons (pd_var 1) (pda_cons (pd_var 2) pda_nil))) (pda_cons (pd_callK (ks := ["place", "floor"]) 0 [1, 0] (c_seat.to) rfl (pdk_cons (pd_var 2) (pdk_cons (pd_var 1) pdk_nil)) (fun _ _ _ _ _ _ us hl => match us, hl with | [_, _], _ => rfl)) (pda_cons (pd_call 0 (c_is_place.to) rfl (pda_cons (pd_var 1) (pda_cons (pd_var 2) pda_nil))) pda_nil)))) pda_nil)) (pd_repr rfl b.repr_ (pda_cons (pd_tup (pda_cons (pd_var 3) (pda_cons (pd_var 3) (pda_cons pd_bl pda_nil)))) pda_nil))) (pdss_one (pds_ret pd_bl)) pdss_nil)
  (pdss_cons (pds_set 6 (pd_get2 (pd_var 4) (pd_var 2) pd_non))
  (pdss_cons (pds_if (pdt_cmpD cd_neS (pd_repr rfl b.repr_ (pda_cons (pd_tup (pda_cons (pd_call 0 (c_partner.to) rfl (pda_cons (pd_var 1) (pda_cons (pd_var 2) pda_nil))) (pda_cons (pd_callK (ks := ["place", "floor"]) 0 [1, 0] (c_partner.to) rfl (pdk_cons (pd_var 2) (pdk_cons (pd_var 1) pdk_nil)) (fun _ _ _ _ _ _ us hl => match us, hl with | [_, _], _ => rfl)) pda_nil))) pda_nil)) (pd_repr rfl b.repr_ (pda_cons (pd_tup (pda_cons (pd_var 6) (pda_cons (pd_var 6) pda_nil))) pda_nil))) (pdss_one (pds_ret pd_bl)) pdss_nil)
  (pdss_cons (pds_if (PDW.pt (pdw_and (pdt_cmpD cd_notN (pd_var 6) pd_non) (pdw_and1 (pdt_cmpD cd_neS (pd_repr rfl b.repr_ (pda_cons (pd_call 0 (c_partner.to) rfl (pda_cons (pd_var 1) (pda_cons (pd_var 6) pda_nil))) pda_nil)) (pd_repr rfl b.repr_ (pda_cons (pd_var 2) pda_nil)))))) (pdss_one (pds_ret pd_bl)) pdss_nil)
  (pdss_cons (pds_set 7 (pd_var 2))
  (pdss_cons (pds_for (pdi_range1 (pda_cons pd_int pda_nil) rfl b.range) (pdg_name 8) (pdss_cons (pds_if (pdt_cmpD cd_neS (pd_repr rfl b.repr_ (pda_cons (pd_tup (pda_cons (pd_call 0 (c_behind.to) rfl (pda_cons (pd_var 1) (pda_cons (pd_var 2) (pda_cons (pd_var 8) pda_nil)))) (pda_cons (pd_call 0 (c_behind.to) rfl (pda_cons (pd_var 1) (pda_cons (pd_var 7) (pda_cons (pd_neg (pd_var 8)) pda_nil)))) pda_nil))) pda_nil)) (pd_repr rfl b.repr_ (pda_cons (pd_tup (pda_cons (pd_var 7) (pda_cons (pd_var 2) pda_nil))) pda_nil))) (pdss_one (pds_ret pd_bl)) pdss_nil)
  (pdss_one (pds_set 7 (pd_ifE (pdt_cmpD cd_lt (pd_add (pd_ix (pd_var 7) pd_int) pd_int) (pd_var 5)) (pd_tup (pda_cons (pd_ix (pd_var 7) pd_int) (pda_cons (pd_add (pd_ix (pd_var 7) pd_int) pd_int) pda_nil))) (pd_tup (pda_cons (pd_ix (pd_var 7) pd_int) (pda_cons pd_int pda_nil))))))))
  (pdss_cons (pds_set 9 (pd_add (pd_call 2 (c_law_pick.to) rfl (pda_cons (pd_var 0) (pda_cons (pd_frz (pd_lst (pda_cons (pd_mulW (pd_pow pd_int pd_int) (pd_pow pd_int pd_int)) (pda_cons (pd_pow pd_int pd_int) (pda_cons (pd_pow pd_int pd_int) (pda_cons pd_int pda_nil)))))) pda_nil))) (pd_call 2 (c_law_draw.to) rfl (pda_cons (pd_var 0) (pda_cons (pd_pow pd_int pd_int) pda_nil)))))
  (pdss_cons (pds_set 8 (pd_call 2 (c_law_pick.to) rfl (pda_cons (pd_var 0) (pda_cons (pd_frz (pd_lst (pda_cons (pd_var 9) (pda_cons (pd_neg (pd_var 9)) (pda_cons (pd_sub (pd_call 2 (c_law_draw.to) rfl (pda_cons (pd_var 0) (pda_cons pd_int pda_nil))) pd_int) (pda_cons (pd_var 5) (pda_cons (pd_neg (pd_var 5)) (pda_cons pd_int pda_nil)))))))) pda_nil))))
  (pdss_cons (pds_par 10 11 (pda_cons (pd_call 0 (c_law_behind.to) rfl (pda_cons (pd_var 1) (pda_cons (pd_var 2) (pda_cons (pd_var 8) pda_nil)))) (pda_cons (pd_sub (pd_call 2 (c_law_draw.to) rfl (pda_cons (pd_var 0) (pda_cons pd_int pda_nil))) pd_int) pda_nil)) (hw := (fun env e => by cases env; cases e; rfl)))
  (pdss_cons (pds_if (pdt_cmpD cd_neS (pd_repr rfl b.repr_ (pda_cons (pd_tup (pda_cons (pd_call 0 (c_behind.to) rfl (pda_cons (pd_var 1) (pda_cons (pd_var 2) (pda_cons (pd_var 8) pda_nil)))) (pda_cons (pd_callK (ks := ["k", "place", "floor"]) 0 [2, 1, 0] (c_behind.to) rfl (pdk_cons (pd_var 8) (pdk_cons (pd_var 2) (pdk_cons (pd_var 1) pdk_nil))) (fun _ _ _ _ _ _ us hl => match us, hl with | [_, _, _], _ => rfl)) pda_nil))) pda_nil)) (pd_repr rfl b.repr_ (pda_cons (pd_tup (pda_cons (pd_var 10) (pda_cons (pd_var 10) pda_nil))) pda_nil))) (pdss_one (pds_ret pd_bl)) pdss_nil)
  (pdss_one (pds_ret (pd_cmpD cd_eqS (pd_repr rfl b.repr_ (pda_cons (pd_call 0 (c_behind.to) rfl (pda_cons (pd_var 1) (pda_cons (pd_var 10) (pda_cons (pd_var 11) pda_nil)))) pda_nil)) (pd_repr rfl b.repr_ (pda_cons (pd_call 0 (c_behind.to) rfl (pda_cons (pd_var 1) (pda_cons (pd_var 2) (pda_cons (pd_intC rfl b.int_ (pda_cons (pd_mod (pd_add (pd_var 8) (pd_var 11)) (pd_var 5)) pda_nil)) pda_nil)))) pda_nil)))))))))))))))) ?_
  rintro dvs ob R X ⟨ds, c, m, d, rfl, hl, ⟨ns, tl, u, i, at', rfl, hv, ha0, ha⟩, hc, rfl, hR⟩ sl e1
  have e1 : [some (.o 0), some (.d (flD ns tl)), some (.d (plD u i)), some (.d (.int at')), some (.d (dtD (parP tl))), none, none, none, none, none, none, none] = sl := e1
  subst e1
  have hf := hv.fl
  have hmem : (u, i) ∈ spI 0 ns := List.mem_of_getElem? ha
  obtain ⟨n, L, rfl, pc⟩ := pc_of hv.rg hmem
  obtain ⟨hs, hs40⟩ := seat_at hv.rg pc ha0 ha
  have hL : 0 < L := by have := pc.i0; have := pc.iL; omega
  have hpl := pc.pl
  have shT : Shows (.tuple [.int at', .int at', .bool true]) := (sh_tup (w := 7) (k := 0) fun x hx => by
    simp only [List.mem_cons, List.not_mem_nil, or_false] at hx
    rcases hx with rfl | rfl | rfl
    · exact sh_int ha0 (by omega)
    · exact sh_int ha0 (by omega)
    · exact (sh_bool true).mono (by decide) (by decide)).shows (by show (7 + 1) * 3 ≤ 1000000; decide) (by decide)
  try dsimp only [wRet, wAnd, wOr, wUn, wOp, wCa, wCons, wNil, wVar, wC, wSeq, wNext, wPass, wAsg, wExp, wIf, wB, wIfE, wAndT, wOrT, wNotT, wTup, wLst, wSl, dSl, wNoP, wPart, wCall, wCallK, wCallO, wCallP, wDisp, wFrz, wGet1, wGet2, wPut, wNewT, wPar, wgName, wgTup, wgCons, wgNil, wiT, wiL, wiR1, wiZip, wiEnu, wiEnuA, wChain, wYes, wBM, wBM0, slot, allD, wipeS, List.map_cons, List.map_nil, List.set_cons_zero, List.set_cons_succ, List.cons_append, List.nil_append, List.isEmpty_nil, List.isEmpty_cons, Bool.not_true, Bool.not_false, wUn, dNot, dII0, dII, dEqS, dNeS, dIsN, dNotN, dNeg, ends, DL.gLt, DL.gLe, DL.gGt, DL.gGe, DL.gAdd, DL.gSub, DL.gMul, DL.gMod, DL.gDiv, DL.gPow]
  refine u_ix (z := .tuple (ns.map .int)) rfl ?_
  try dsimp only [wRet, wAnd, wOr, wUn, wOp, wCa, wCons, wNil, wVar, wC, wSeq, wNext, wPass, wAsg, wExp, wIf, wB, wIfE, wAndT, wOrT, wNotT, wTup, wLst, wSl, dSl, wNoP, wPart, wCall, wCallK, wCallO, wCallP, wDisp, wFrz, wGet1, wGet2, wPut, wNewT, wPar, wgName, wgTup, wgCons, wgNil, wiT, wiL, wiR1, wiZip, wiEnu, wiEnuA, wChain, wYes, wBM, wBM0, slot, allD, wipeS, List.map_cons, List.map_nil, List.set_cons_zero, List.set_cons_succ, List.cons_append, List.nil_append, List.isEmpty_nil, List.isEmpty_cons, Bool.not_true, Bool.not_false, wUn, dNot, dII0, dII, dEqS, dNeS, dIsN, dNotN, dNeg, ends, DL.gLt, DL.gLe, DL.gGt, DL.gGe, DL.gAdd, DL.gSub, DL.gMul, DL.gMod, DL.gDiv, DL.gPow]
  refine u_ix (z := .int (n : Nat)) rfl ?_
  refine u_ix (z := .int L) (atI_nat (by rw [List.getElem?_map, pc.at_]; rfl)) ?_
  try dsimp only [wRet, wAnd, wOr, wUn, wOp, wCa, wCons, wNil, wVar, wC, wSeq, wNext, wPass, wAsg, wExp, wIf, wB, wIfE, wAndT, wOrT, wNotT, wTup, wLst, wSl, dSl, wNoP, wPart, wCall, wCallK, wCallO, wCallP, wDisp, wFrz, wGet1, wGet2, wPut, wNewT, wPar, wgName, wgTup, wgCons, wgNil, wiT, wiL, wiR1, wiZip, wiEnu, wiEnuA, wChain, wYes, wBM, wBM0, slot, allD, wipeS, List.map_cons, List.map_nil, List.set_cons_zero, List.set_cons_succ, List.cons_append, List.nil_append, List.isEmpty_nil, List.isEmpty_cons, Bool.not_true, Bool.not_false, wUn, dNot, dII0, dII, dEqS, dNeS, dIsN, dNotN, dNeg, ends, DL.gLt, DL.gLe, DL.gGt, DL.gGe, DL.gAdd, DL.gSub, DL.gMul, DL.gMod, DL.gDiv, DL.gPow]
  refine call_pur [flD ns tl, plD n i] (.int at') rfl ⟨ns, tl, n, i, rfl, hf, hpl, by rw [hs]⟩ ?_
  try dsimp only [wRet, wAnd, wOr, wUn, wOp, wCa, wCons, wNil, wVar, wC, wSeq, wNext, wPass, wAsg, wExp, wIf, wB, wIfE, wAndT, wOrT, wNotT, wTup, wLst, wSl, dSl, wNoP, wPart, wCall, wCallK, wCallO, wCallP, wDisp, wFrz, wGet1, wGet2, wPut, wNewT, wPar, wgName, wgTup, wgCons, wgNil, wiT, wiL, wiR1, wiZip, wiEnu, wiEnuA, wChain, wYes, wBM, wBM0, slot, allD, wipeS, List.map_cons, List.map_nil, List.set_cons_zero, List.set_cons_succ, List.cons_append, List.nil_append, List.isEmpty_nil, List.isEmpty_cons, Bool.not_true, Bool.not_false, wUn, dNot, dII0, dII, dEqS, dNeS, dIsN, dNotN, dNeg, ends, DL.gLt, DL.gLe, DL.gGt, DL.gGe, DL.gAdd, DL.gSub, DL.gMul, DL.gMod, DL.gDiv, DL.gPow]
  refine ⟨rfl, ?_⟩
  refine call_pur [flD ns tl, plD n i] (.int at') rfl ⟨ns, tl, n, i, rfl, hf, hpl, by rw [hs]⟩ ?_
  try dsimp only [wRet, wAnd, wOr, wUn, wOp, wCa, wCons, wNil, wVar, wC, wSeq, wNext, wPass, wAsg, wExp, wIf, wB, wIfE, wAndT, wOrT, wNotT, wTup, wLst, wSl, dSl, wNoP, wPart, wCall, wCallK, wCallO, wCallP, wDisp, wFrz, wGet1, wGet2, wPut, wNewT, wPar, wgName, wgTup, wgCons, wgNil, wiT, wiL, wiR1, wiZip, wiEnu, wiEnuA, wChain, wYes, wBM, wBM0, slot, allD, wipeS, List.map_cons, List.map_nil, List.set_cons_zero, List.set_cons_succ, List.cons_append, List.nil_append, List.isEmpty_nil, List.isEmpty_cons, Bool.not_true, Bool.not_false, wUn, dNot, dII0, dII, dEqS, dNeS, dIsN, dNotN, dNeg, ends, DL.gLt, DL.gLe, DL.gGt, DL.gGe, DL.gAdd, DL.gSub, DL.gMul, DL.gMod, DL.gDiv, DL.gPow]
  refine call_pur [flD ns tl, plD n i] (.bool true) rfl ⟨ns, tl, plD n i, rfl, hf, by rw [hpl]⟩ ?_
  try dsimp only [wRet, wAnd, wOr, wUn, wOp, wCa, wCons, wNil, wVar, wC, wSeq, wNext, wPass, wAsg, wExp, wIf, wB, wIfE, wAndT, wOrT, wNotT, wTup, wLst, wSl, dSl, wNoP, wPart, wCall, wCallK, wCallO, wCallP, wDisp, wFrz, wGet1, wGet2, wPut, wNewT, wPar, wgName, wgTup, wgCons, wgNil, wiT, wiL, wiR1, wiZip, wiEnu, wiEnuA, wChain, wYes, wBM, wBM0, slot, allD, wipeS, List.map_cons, List.map_nil, List.set_cons_zero, List.set_cons_succ, List.cons_append, List.nil_append, List.isEmpty_nil, List.isEmpty_cons, Bool.not_true, Bool.not_false, wUn, dNot, dII0, dII, dEqS, dNeS, dIsN, dNotN, dNeg, ends, DL.gLt, DL.gLe, DL.gGt, DL.gGe, DL.gAdd, DL.gSub, DL.gMul, DL.gMod, DL.gDiv, DL.gPow]
  refine ⟨sz3, ?_⟩
  refine ⟨shT, ?_⟩
  try dsimp only [wRet, wAnd, wOr, wUn, wOp, wCa, wCons, wNil, wVar, wC, wSeq, wNext, wPass, wAsg, wExp, wIf, wB, wIfE, wAndT, wOrT, wNotT, wTup, wLst, wSl, dSl, wNoP, wPart, wCall, wCallK, wCallO, wCallP, wDisp, wFrz, wGet1, wGet2, wPut, wNewT, wPar, wgName, wgTup, wgCons, wgNil, wiT, wiL, wiR1, wiZip, wiEnu, wiEnuA, wChain, wYes, wBM, wBM0, slot, allD, wipeS, List.map_cons, List.map_nil, List.set_cons_zero, List.set_cons_succ, List.cons_append, List.nil_append, List.isEmpty_nil, List.isEmpty_cons, Bool.not_true, Bool.not_false, wUn, dNot, dII0, dII, dEqS, dNeS, dIsN, dNotN, dNeg, ends, DL.gLt, DL.gLe, DL.gGt, DL.gGe, DL.gAdd, DL.gSub, DL.gMul, DL.gMod, DL.gDiv, DL.gPow]
  refine ⟨sz3, ?_⟩
  refine ⟨shT, ?_⟩
  try dsimp only [wRet, wAnd, wOr, wUn, wOp, wCa, wCons, wNil, wVar, wC, wSeq, wNext, wPass, wAsg, wExp, wIf, wB, wIfE, wAndT, wOrT, wNotT, wTup, wLst, wSl, dSl, wNoP, wPart, wCall, wCallK, wCallO, wCallP, wDisp, wFrz, wGet1, wGet2, wPut, wNewT, wPar, wgName, wgTup, wgCons, wgNil, wiT, wiL, wiR1, wiZip, wiEnu, wiEnuA, wChain, wYes, wBM, wBM0, slot, allD, wipeS, List.map_cons, List.map_nil, List.set_cons_zero, List.set_cons_succ, List.cons_append, List.nil_append, List.isEmpty_nil, List.isEmpty_cons, Bool.not_true, Bool.not_false, wUn, dNot, dII0, dII, dEqS, dNeS, dIsN, dNotN, dNeg, ends, DL.gLt, DL.gLe, DL.gGt, DL.gGe, DL.gAdd, DL.gSub, DL.gMul, DL.gMod, DL.gDiv, DL.gPow]
  rw [decide_eq_true rfl]
  try dsimp only [wRet, wAnd, wOr, wUn, wOp, wCa, wCons, wNil, wVar, wC, wSeq, wNext, wPass, wAsg, wExp, wIf, wB, wIfE, wAndT, wOrT, wNotT, wTup, wLst, wSl, dSl, wNoP, wPart, wCall, wCallK, wCallO, wCallP, wDisp, wFrz, wGet1, wGet2, wPut, wNewT, wPar, wgName, wgTup, wgCons, wgNil, wiT, wiL, wiR1, wiZip, wiEnu, wiEnuA, wChain, wYes, wBM, wBM0, slot, allD, wipeS, List.map_cons, List.map_nil, List.set_cons_zero, List.set_cons_succ, List.cons_append, List.nil_append, List.isEmpty_nil, List.isEmpty_cons, Bool.not_true, Bool.not_false, wUn, dNot, dII0, dII, dEqS, dNeS, dIsN, dNotN, dNeg, ends, DL.gLt, DL.gLe, DL.gGt, DL.gGe, DL.gAdd, DL.gSub, DL.gMul, DL.gMod, DL.gDiv, DL.gPow]
  refine ⟨rfl, ?_⟩
  try dsimp only [wRet, wAnd, wOr, wUn, wOp, wCa, wCons, wNil, wVar, wC, wSeq, wNext, wPass, wAsg, wExp, wIf, wB, wIfE, wAndT, wOrT, wNotT, wTup, wLst, wSl, dSl, wNoP, wPart, wCall, wCallK, wCallO, wCallP, wDisp, wFrz, wGet1, wGet2, wPut, wNewT, wPar, wgName, wgTup, wgCons, wgNil, wiT, wiL, wiR1, wiZip, wiEnu, wiEnuA, wChain, wYes, wBM, wBM0, slot, allD, wipeS, List.map_cons, List.map_nil, List.set_cons_zero, List.set_cons_succ, List.cons_append, List.nil_append, List.isEmpty_nil, List.isEmpty_cons, Bool.not_true, Bool.not_false, wUn, dNot, dII0, dII, dEqS, dNeS, dIsN, dNotN, dNeg, ends, DL.gLt, DL.gLe, DL.gGt, DL.gGe, DL.gAdd, DL.gSub, DL.gMul, DL.gMod, DL.gDiv, DL.gPow]
  rw [getR_par]
  try dsimp only [wRet, wAnd, wOr, wUn, wOp, wCa, wCons, wNil, wVar, wC, wSeq, wNext, wPass, wAsg, wExp, wIf, wB, wIfE, wAndT, wOrT, wNotT, wTup, wLst, wSl, dSl, wNoP, wPart, wCall, wCallK, wCallO, wCallP, wDisp, wFrz, wGet1, wGet2, wPut, wNewT, wPar, wgName, wgTup, wgCons, wgNil, wiT, wiL, wiR1, wiZip, wiEnu, wiEnuA, wChain, wYes, wBM, wBM0, slot, allD, wipeS, List.map_cons, List.map_nil, List.set_cons_zero, List.set_cons_succ, List.cons_append, List.nil_append, List.isEmpty_nil, List.isEmpty_cons, Bool.not_true, Bool.not_false, wUn, dNot, dII0, dII, dEqS, dNeS, dIsN, dNotN, dNeg, ends, DL.gLt, DL.gLe, DL.gGt, DL.gGe, DL.gAdd, DL.gSub, DL.gMul, DL.gMod, DL.gDiv, DL.gPow]
  rw [getD_map]
  rw [show ((lookD (parP tl) (plK n i)).getD .none) = parOf tl n i from rfl]
  try dsimp only [wRet, wAnd, wOr, wUn, wOp, wCa, wCons, wNil, wVar, wC, wSeq, wNext, wPass, wAsg, wExp, wIf, wB, wIfE, wAndT, wOrT, wNotT, wTup, wLst, wSl, dSl, wNoP, wPart, wCall, wCallK, wCallO, wCallP, wDisp, wFrz, wGet1, wGet2, wPut, wNewT, wPar, wgName, wgTup, wgCons, wgNil, wiT, wiL, wiR1, wiZip, wiEnu, wiEnuA, wChain, wYes, wBM, wBM0, slot, allD, wipeS, List.map_cons, List.map_nil, List.set_cons_zero, List.set_cons_succ, List.cons_append, List.nil_append, List.isEmpty_nil, List.isEmpty_cons, Bool.not_true, Bool.not_false, wUn, dNot, dII0, dII, dEqS, dNeS, dIsN, dNotN, dNeg, ends, DL.gLt, DL.gLe, DL.gGt, DL.gGe, DL.gAdd, DL.gSub, DL.gMul, DL.gMod, DL.gDiv, DL.gPow]
  refine call_pur [flD ns tl, plD n i] (parOf tl n i) rfl ⟨ns, tl, n, i, rfl, hf, hpl, rfl⟩ ?_
  try dsimp only [wRet, wAnd, wOr, wUn, wOp, wCa, wCons, wNil, wVar, wC, wSeq, wNext, wPass, wAsg, wExp, wIf, wB, wIfE, wAndT, wOrT, wNotT, wTup, wLst, wSl, dSl, wNoP, wPart, wCall, wCallK, wCallO, wCallP, wDisp, wFrz, wGet1, wGet2, wPut, wNewT, wPar, wgName, wgTup, wgCons, wgNil, wiT, wiL, wiR1, wiZip, wiEnu, wiEnuA, wChain, wYes, wBM, wBM0, slot, allD, wipeS, List.map_cons, List.map_nil, List.set_cons_zero, List.set_cons_succ, List.cons_append, List.nil_append, List.isEmpty_nil, List.isEmpty_cons, Bool.not_true, Bool.not_false, wUn, dNot, dII0, dII, dEqS, dNeS, dIsN, dNotN, dNeg, ends, DL.gLt, DL.gLe, DL.gGt, DL.gGe, DL.gAdd, DL.gSub, DL.gMul, DL.gMod, DL.gDiv, DL.gPow]
  refine ⟨rfl, ?_⟩
  refine call_pur [flD ns tl, plD n i] (parOf tl n i) rfl ⟨ns, tl, n, i, rfl, hf, hpl, rfl⟩ ?_
  try dsimp only [wRet, wAnd, wOr, wUn, wOp, wCa, wCons, wNil, wVar, wC, wSeq, wNext, wPass, wAsg, wExp, wIf, wB, wIfE, wAndT, wOrT, wNotT, wTup, wLst, wSl, dSl, wNoP, wPart, wCall, wCallK, wCallO, wCallP, wDisp, wFrz, wGet1, wGet2, wPut, wNewT, wPar, wgName, wgTup, wgCons, wgNil, wiT, wiL, wiR1, wiZip, wiEnu, wiEnuA, wChain, wYes, wBM, wBM0, slot, allD, wipeS, List.map_cons, List.map_nil, List.set_cons_zero, List.set_cons_succ, List.cons_append, List.nil_append, List.isEmpty_nil, List.isEmpty_cons, Bool.not_true, Bool.not_false, wUn, dNot, dII0, dII, dEqS, dNeS, dIsN, dNotN, dNeg, ends, DL.gLt, DL.gLe, DL.gGt, DL.gGe, DL.gAdd, DL.gSub, DL.gMul, DL.gMod, DL.gDiv, DL.gPow]
  have hpo := par_of hv.nd n i
  have shM : Sh 16 1 (parOf tl n i) := by
    rw [hpo]
    cases hm : mateI tl (n, i) with
    | none => exact sh_none.mono (by decide) (by decide)
    | some q =>
      obtain ⟨mq, _⟩ := mate_back hv.nd hm
      obtain ⟨v, j⟩ := q
      obtain ⟨n2, L2, rfl, pc2⟩ := pc_of hv.rg (hv.mem _ mq)
      exact pc2.sh
  refine ⟨sz2, ?_⟩
  refine ⟨shows_two shM shM, ?_⟩
  try dsimp only [wRet, wAnd, wOr, wUn, wOp, wCa, wCons, wNil, wVar, wC, wSeq, wNext, wPass, wAsg, wExp, wIf, wB, wIfE, wAndT, wOrT, wNotT, wTup, wLst, wSl, dSl, wNoP, wPart, wCall, wCallK, wCallO, wCallP, wDisp, wFrz, wGet1, wGet2, wPut, wNewT, wPar, wgName, wgTup, wgCons, wgNil, wiT, wiL, wiR1, wiZip, wiEnu, wiEnuA, wChain, wYes, wBM, wBM0, slot, allD, wipeS, List.map_cons, List.map_nil, List.set_cons_zero, List.set_cons_succ, List.cons_append, List.nil_append, List.isEmpty_nil, List.isEmpty_cons, Bool.not_true, Bool.not_false, wUn, dNot, dII0, dII, dEqS, dNeS, dIsN, dNotN, dNeg, ends, DL.gLt, DL.gLe, DL.gGt, DL.gGe, DL.gAdd, DL.gSub, DL.gMul, DL.gMod, DL.gDiv, DL.gPow]
  refine ⟨sz2, ?_⟩
  refine ⟨shows_two shM shM, ?_⟩
  try dsimp only [wRet, wAnd, wOr, wUn, wOp, wCa, wCons, wNil, wVar, wC, wSeq, wNext, wPass, wAsg, wExp, wIf, wB, wIfE, wAndT, wOrT, wNotT, wTup, wLst, wSl, dSl, wNoP, wPart, wCall, wCallK, wCallO, wCallP, wDisp, wFrz, wGet1, wGet2, wPut, wNewT, wPar, wgName, wgTup, wgCons, wgNil, wiT, wiL, wiR1, wiZip, wiEnu, wiEnuA, wChain, wYes, wBM, wBM0, slot, allD, wipeS, List.map_cons, List.map_nil, List.set_cons_zero, List.set_cons_succ, List.cons_append, List.nil_append, List.isEmpty_nil, List.isEmpty_cons, Bool.not_true, Bool.not_false, wUn, dNot, dII0, dII, dEqS, dNeS, dIsN, dNotN, dNeg, ends, DL.gLt, DL.gLe, DL.gGt, DL.gGe, DL.gAdd, DL.gSub, DL.gMul, DL.gMod, DL.gDiv, DL.gPow]
  rw [decide_eq_true rfl]
  try dsimp only [wRet, wAnd, wOr, wUn, wOp, wCa, wCons, wNil, wVar, wC, wSeq, wNext, wPass, wAsg, wExp, wIf, wB, wIfE, wAndT, wOrT, wNotT, wTup, wLst, wSl, dSl, wNoP, wPart, wCall, wCallK, wCallO, wCallP, wDisp, wFrz, wGet1, wGet2, wPut, wNewT, wPar, wgName, wgTup, wgCons, wgNil, wiT, wiL, wiR1, wiZip, wiEnu, wiEnuA, wChain, wYes, wBM, wBM0, slot, allD, wipeS, List.map_cons, List.map_nil, List.set_cons_zero, List.set_cons_succ, List.cons_append, List.nil_append, List.isEmpty_nil, List.isEmpty_cons, Bool.not_true, Bool.not_false, wUn, dNot, dII0, dII, dEqS, dNeS, dIsN, dNotN, dNeg, ends, DL.gLt, DL.gLe, DL.gGt, DL.gGe, DL.gAdd, DL.gSub, DL.gMul, DL.gMod, DL.gDiv, DL.gPow]
  cases hm : mateI tl (n, i) with
  | none =>
    have hq : parOf tl n i = .none := by rw [hpo, hm]; rfl
    rw [hq]
    try dsimp only [wRet, wAnd, wOr, wUn, wOp, wCa, wCons, wNil, wVar, wC, wSeq, wNext, wPass, wAsg, wExp, wIf, wB, wIfE, wAndT, wOrT, wNotT, wTup, wLst, wSl, dSl, wNoP, wPart, wCall, wCallK, wCallO, wCallP, wDisp, wFrz, wGet1, wGet2, wPut, wNewT, wPar, wgName, wgTup, wgCons, wgNil, wiT, wiL, wiR1, wiZip, wiEnu, wiEnuA, wChain, wYes, wBM, wBM0, slot, allD, wipeS, List.map_cons, List.map_nil, List.set_cons_zero, List.set_cons_succ, List.cons_append, List.nil_append, List.isEmpty_nil, List.isEmpty_cons, Bool.not_true, Bool.not_false, wUn, dNot, dII0, dII, dEqS, dNeS, dIsN, dNotN, dNeg, ends, DL.gLt, DL.gLe, DL.gGt, DL.gGe, DL.gAdd, DL.gSub, DL.gMul, DL.gMod, DL.gDiv, DL.gPow]
    rw [show isNn PyData.none = true from rfl, Bool.not_true]
    try dsimp only [wRet, wAnd, wOr, wUn, wOp, wCa, wCons, wNil, wVar, wC, wSeq, wNext, wPass, wAsg, wExp, wIf, wB, wIfE, wAndT, wOrT, wNotT, wTup, wLst, wSl, dSl, wNoP, wPart, wCall, wCallK, wCallO, wCallP, wDisp, wFrz, wGet1, wGet2, wPut, wNewT, wPar, wgName, wgTup, wgCons, wgNil, wiT, wiL, wiR1, wiZip, wiEnu, wiEnuA, wChain, wYes, wBM, wBM0, slot, allD, wipeS, List.map_cons, List.map_nil, List.set_cons_zero, List.set_cons_succ, List.cons_append, List.nil_append, List.isEmpty_nil, List.isEmpty_cons, Bool.not_true, Bool.not_false, wUn, dNot, dII0, dII, dEqS, dNeS, dIsN, dNotN, dNeg, ends, DL.gLt, DL.gLe, DL.gGt, DL.gGe, DL.gAdd, DL.gSub, DL.gMul, DL.gMod, DL.gDiv, DL.gPow]
    refine for_in (rng 0 4) ⟨[some (.o 0), some (.d (flD ns tl)), some (.d (plD n i)), some (.d (.int at')), some (.d (dtD (parP tl))), some (.d (.int L)), some (.d .none), some (.d (plD n i)), none, none, none, none], [deckO m d, cellsO c]⟩
      (fun t ρ' => ∃ kk : Option PyData, ρ' = ⟨[some (.o 0), some (.d (flD ns tl)), some (.d (plD n i)), some (.d (.int at')), some (.d (dtD (parP tl))), some (.d (.int L)), some (.d .none), some (.d (plD n ((i + (t : Nat)) % L))), kk.map .d, none, none, none], [deckO m d, cellsO c]⟩) (fun C h => ⟨by unfold RgB; decide, h⟩) ⟨none, by rw [show (i + ((0 : Nat) : Int)) % L = i from by rw [Int.natCast_zero, Int.add_zero]; exact Int.emod_eq_of_lt pc.i0 pc.iL]; rfl⟩ ?_ ?_
    · rintro t x ρ' hx ⟨kk, rfl⟩
      obtain ⟨ht, rfl⟩ := rng_get hx
      have pj := pc.mv (t : Nat)
      try dsimp only [wRet, wAnd, wOr, wUn, wOp, wCa, wCons, wNil, wVar, wC, wSeq, wNext, wPass, wAsg, wExp, wIf, wB, wIfE, wAndT, wOrT, wNotT, wTup, wLst, wSl, dSl, wNoP, wPart, wCall, wCallK, wCallO, wCallP, wDisp, wFrz, wGet1, wGet2, wPut, wNewT, wPar, wgName, wgTup, wgCons, wgNil, wiT, wiL, wiR1, wiZip, wiEnu, wiEnuA, wChain, wYes, wBM, wBM0, slot, allD, wipeS, List.map_cons, List.map_nil, List.set_cons_zero, List.set_cons_succ, List.cons_append, List.nil_append, List.isEmpty_nil, List.isEmpty_cons, Bool.not_true, Bool.not_false, wUn, dNot, dII0, dII, dEqS, dNeS, dIsN, dNotN, dNeg, ends, DL.gLt, DL.gLe, DL.gGt, DL.gGe, DL.gAdd, DL.gSub, DL.gMul, DL.gMod, DL.gDiv, DL.gPow]
      refine call_pur [flD ns tl, plD n i, .int (0 + (t : Nat))] (plD n ((i + (t : Nat)) % L)) rfl ⟨ns, tl, n, i, _, rfl, hf, hpl, by rw [pc.g, Int.zero_add]⟩ ?_
      try dsimp only [wRet, wAnd, wOr, wUn, wOp, wCa, wCons, wNil, wVar, wC, wSeq, wNext, wPass, wAsg, wExp, wIf, wB, wIfE, wAndT, wOrT, wNotT, wTup, wLst, wSl, dSl, wNoP, wPart, wCall, wCallK, wCallO, wCallP, wDisp, wFrz, wGet1, wGet2, wPut, wNewT, wPar, wgName, wgTup, wgCons, wgNil, wiT, wiL, wiR1, wiZip, wiEnu, wiEnuA, wChain, wYes, wBM, wBM0, slot, allD, wipeS, List.map_cons, List.map_nil, List.set_cons_zero, List.set_cons_succ, List.cons_append, List.nil_append, List.isEmpty_nil, List.isEmpty_cons, Bool.not_true, Bool.not_false, wUn, dNot, dII0, dII, dEqS, dNeS, dIsN, dNotN, dNeg, ends, DL.gLt, DL.gLe, DL.gGt, DL.gGe, DL.gAdd, DL.gSub, DL.gMul, DL.gMod, DL.gDiv, DL.gPow]
      refine call_pur [flD ns tl, plD n ((i + (t : Nat)) % L), .int (-(0 + (t : Nat)))] (plD n i) rfl ⟨ns, tl, n, _, _, rfl, hf, pj.pl, by rw [pc.g, Int.zero_add, Int.emod_add_emod, Int.add_neg_cancel_right]; rw [Int.emod_eq_of_lt pc.i0 pc.iL]⟩ ?_
      try dsimp only [wRet, wAnd, wOr, wUn, wOp, wCa, wCons, wNil, wVar, wC, wSeq, wNext, wPass, wAsg, wExp, wIf, wB, wIfE, wAndT, wOrT, wNotT, wTup, wLst, wSl, dSl, wNoP, wPart, wCall, wCallK, wCallO, wCallP, wDisp, wFrz, wGet1, wGet2, wPut, wNewT, wPar, wgName, wgTup, wgCons, wgNil, wiT, wiL, wiR1, wiZip, wiEnu, wiEnuA, wChain, wYes, wBM, wBM0, slot, allD, wipeS, List.map_cons, List.map_nil, List.set_cons_zero, List.set_cons_succ, List.cons_append, List.nil_append, List.isEmpty_nil, List.isEmpty_cons, Bool.not_true, Bool.not_false, wUn, dNot, dII0, dII, dEqS, dNeS, dIsN, dNotN, dNeg, ends, DL.gLt, DL.gLe, DL.gGt, DL.gGe, DL.gAdd, DL.gSub, DL.gMul, DL.gMod, DL.gDiv, DL.gPow]
      refine ⟨sz2, ?_⟩
      refine ⟨shows_two pj.sh pc.sh, ?_⟩
      try dsimp only [wRet, wAnd, wOr, wUn, wOp, wCa, wCons, wNil, wVar, wC, wSeq, wNext, wPass, wAsg, wExp, wIf, wB, wIfE, wAndT, wOrT, wNotT, wTup, wLst, wSl, dSl, wNoP, wPart, wCall, wCallK, wCallO, wCallP, wDisp, wFrz, wGet1, wGet2, wPut, wNewT, wPar, wgName, wgTup, wgCons, wgNil, wiT, wiL, wiR1, wiZip, wiEnu, wiEnuA, wChain, wYes, wBM, wBM0, slot, allD, wipeS, List.map_cons, List.map_nil, List.set_cons_zero, List.set_cons_succ, List.cons_append, List.nil_append, List.isEmpty_nil, List.isEmpty_cons, Bool.not_true, Bool.not_false, wUn, dNot, dII0, dII, dEqS, dNeS, dIsN, dNotN, dNeg, ends, DL.gLt, DL.gLe, DL.gGt, DL.gGe, DL.gAdd, DL.gSub, DL.gMul, DL.gMod, DL.gDiv, DL.gPow]
      refine ⟨sz2, ?_⟩
      refine ⟨shows_two pj.sh pc.sh, ?_⟩
      try dsimp only [wRet, wAnd, wOr, wUn, wOp, wCa, wCons, wNil, wVar, wC, wSeq, wNext, wPass, wAsg, wExp, wIf, wB, wIfE, wAndT, wOrT, wNotT, wTup, wLst, wSl, dSl, wNoP, wPart, wCall, wCallK, wCallO, wCallP, wDisp, wFrz, wGet1, wGet2, wPut, wNewT, wPar, wgName, wgTup, wgCons, wgNil, wiT, wiL, wiR1, wiZip, wiEnu, wiEnuA, wChain, wYes, wBM, wBM0, slot, allD, wipeS, List.map_cons, List.map_nil, List.set_cons_zero, List.set_cons_succ, List.cons_append, List.nil_append, List.isEmpty_nil, List.isEmpty_cons, Bool.not_true, Bool.not_false, wUn, dNot, dII0, dII, dEqS, dNeS, dIsN, dNotN, dNeg, ends, DL.gLt, DL.gLe, DL.gGt, DL.gGe, DL.gAdd, DL.gSub, DL.gMul, DL.gMod, DL.gDiv, DL.gPow]
      rw [decide_eq_true rfl]
      try dsimp only [wRet, wAnd, wOr, wUn, wOp, wCa, wCons, wNil, wVar, wC, wSeq, wNext, wPass, wAsg, wExp, wIf, wB, wIfE, wAndT, wOrT, wNotT, wTup, wLst, wSl, dSl, wNoP, wPart, wCall, wCallK, wCallO, wCallP, wDisp, wFrz, wGet1, wGet2, wPut, wNewT, wPar, wgName, wgTup, wgCons, wgNil, wiT, wiL, wiR1, wiZip, wiEnu, wiEnuA, wChain, wYes, wBM, wBM0, slot, allD, wipeS, List.map_cons, List.map_nil, List.set_cons_zero, List.set_cons_succ, List.cons_append, List.nil_append, List.isEmpty_nil, List.isEmpty_cons, Bool.not_true, Bool.not_false, wUn, dNot, dII0, dII, dEqS, dNeS, dIsN, dNotN, dNeg, ends, DL.gLt, DL.gLe, DL.gGt, DL.gGe, DL.gAdd, DL.gSub, DL.gMul, DL.gMod, DL.gDiv, DL.gPow]
      refine u_ix (z := .int ((i + (t : Nat)) % L)) rfl ?_
      try dsimp only [wRet, wAnd, wOr, wUn, wOp, wCa, wCons, wNil, wVar, wC, wSeq, wNext, wPass, wAsg, wExp, wIf, wB, wIfE, wAndT, wOrT, wNotT, wTup, wLst, wSl, dSl, wNoP, wPart, wCall, wCallK, wCallO, wCallP, wDisp, wFrz, wGet1, wGet2, wPut, wNewT, wPar, wgName, wgTup, wgCons, wgNil, wiT, wiL, wiR1, wiZip, wiEnu, wiEnuA, wChain, wYes, wBM, wBM0, slot, allD, wipeS, List.map_cons, List.map_nil, List.set_cons_zero, List.set_cons_succ, List.cons_append, List.nil_append, List.isEmpty_nil, List.isEmpty_cons, Bool.not_true, Bool.not_false, wUn, dNot, dII0, dII, dEqS, dNeS, dIsN, dNotN, dNeg, ends, DL.gLt, DL.gLe, DL.gGt, DL.gGe, DL.gAdd, DL.gSub, DL.gMul, DL.gMod, DL.gDiv, DL.gPow]
      have e5 : (i + ((t + 1 : Nat) : Int)) % L = ((i + (t : Nat)) % L + 1) % L := by rw [Int.emod_add_emod, Int.natCast_add, Int.add_assoc]; rfl
      by_cases hj : (i + (t : Nat)) % L + 1 < L
      · rw [decide_eq_true hj]
        try dsimp only [wRet, wAnd, wOr, wUn, wOp, wCa, wCons, wNil, wVar, wC, wSeq, wNext, wPass, wAsg, wExp, wIf, wB, wIfE, wAndT, wOrT, wNotT, wTup, wLst, wSl, dSl, wNoP, wPart, wCall, wCallK, wCallO, wCallP, wDisp, wFrz, wGet1, wGet2, wPut, wNewT, wPar, wgName, wgTup, wgCons, wgNil, wiT, wiL, wiR1, wiZip, wiEnu, wiEnuA, wChain, wYes, wBM, wBM0, slot, allD, wipeS, List.map_cons, List.map_nil, List.set_cons_zero, List.set_cons_succ, List.cons_append, List.nil_append, List.isEmpty_nil, List.isEmpty_cons, Bool.not_true, Bool.not_false, wUn, dNot, dII0, dII, dEqS, dNeS, dIsN, dNotN, dNeg, ends, DL.gLt, DL.gLe, DL.gGt, DL.gGe, DL.gAdd, DL.gSub, DL.gMul, DL.gMod, DL.gDiv, DL.gPow]
        refine u_ix (z := .int (n : Nat)) rfl ?_
        try dsimp only [wRet, wAnd, wOr, wUn, wOp, wCa, wCons, wNil, wVar, wC, wSeq, wNext, wPass, wAsg, wExp, wIf, wB, wIfE, wAndT, wOrT, wNotT, wTup, wLst, wSl, dSl, wNoP, wPart, wCall, wCallK, wCallO, wCallP, wDisp, wFrz, wGet1, wGet2, wPut, wNewT, wPar, wgName, wgTup, wgCons, wgNil, wiT, wiL, wiR1, wiZip, wiEnu, wiEnuA, wChain, wYes, wBM, wBM0, slot, allD, wipeS, List.map_cons, List.map_nil, List.set_cons_zero, List.set_cons_succ, List.cons_append, List.nil_append, List.isEmpty_nil, List.isEmpty_cons, Bool.not_true, Bool.not_false, wUn, dNot, dII0, dII, dEqS, dNeS, dIsN, dNotN, dNeg, ends, DL.gLt, DL.gLe, DL.gGt, DL.gGe, DL.gAdd, DL.gSub, DL.gMul, DL.gMod, DL.gDiv, DL.gPow]
        refine u_ix (z := .int ((i + (t : Nat)) % L)) rfl ?_
        try dsimp only [wRet, wAnd, wOr, wUn, wOp, wCa, wCons, wNil, wVar, wC, wSeq, wNext, wPass, wAsg, wExp, wIf, wB, wIfE, wAndT, wOrT, wNotT, wTup, wLst, wSl, dSl, wNoP, wPart, wCall, wCallK, wCallO, wCallP, wDisp, wFrz, wGet1, wGet2, wPut, wNewT, wPar, wgName, wgTup, wgCons, wgNil, wiT, wiL, wiR1, wiZip, wiEnu, wiEnuA, wChain, wYes, wBM, wBM0, slot, allD, wipeS, List.map_cons, List.map_nil, List.set_cons_zero, List.set_cons_succ, List.cons_append, List.nil_append, List.isEmpty_nil, List.isEmpty_cons, Bool.not_true, Bool.not_false, wUn, dNot, dII0, dII, dEqS, dNeS, dIsN, dNotN, dNeg, ends, DL.gLt, DL.gLe, DL.gGt, DL.gGe, DL.gAdd, DL.gSub, DL.gMul, DL.gMod, DL.gDiv, DL.gPow]
        refine ⟨sz2, some (.int (0 + (t : Nat))), ?_⟩
        rw [e5, Int.emod_eq_of_lt (by have := pj.i0; omega) hj]
        rfl
      · rw [decide_eq_false hj]
        try dsimp only [wRet, wAnd, wOr, wUn, wOp, wCa, wCons, wNil, wVar, wC, wSeq, wNext, wPass, wAsg, wExp, wIf, wB, wIfE, wAndT, wOrT, wNotT, wTup, wLst, wSl, dSl, wNoP, wPart, wCall, wCallK, wCallO, wCallP, wDisp, wFrz, wGet1, wGet2, wPut, wNewT, wPar, wgName, wgTup, wgCons, wgNil, wiT, wiL, wiR1, wiZip, wiEnu, wiEnuA, wChain, wYes, wBM, wBM0, slot, allD, wipeS, List.map_cons, List.map_nil, List.set_cons_zero, List.set_cons_succ, List.cons_append, List.nil_append, List.isEmpty_nil, List.isEmpty_cons, Bool.not_true, Bool.not_false, wUn, dNot, dII0, dII, dEqS, dNeS, dIsN, dNotN, dNeg, ends, DL.gLt, DL.gLe, DL.gGt, DL.gGe, DL.gAdd, DL.gSub, DL.gMul, DL.gMod, DL.gDiv, DL.gPow]
        refine u_ix (z := .int (n : Nat)) rfl ?_
        try dsimp only [wRet, wAnd, wOr, wUn, wOp, wCa, wCons, wNil, wVar, wC, wSeq, wNext, wPass, wAsg, wExp, wIf, wB, wIfE, wAndT, wOrT, wNotT, wTup, wLst, wSl, dSl, wNoP, wPart, wCall, wCallK, wCallO, wCallP, wDisp, wFrz, wGet1, wGet2, wPut, wNewT, wPar, wgName, wgTup, wgCons, wgNil, wiT, wiL, wiR1, wiZip, wiEnu, wiEnuA, wChain, wYes, wBM, wBM0, slot, allD, wipeS, List.map_cons, List.map_nil, List.set_cons_zero, List.set_cons_succ, List.cons_append, List.nil_append, List.isEmpty_nil, List.isEmpty_cons, Bool.not_true, Bool.not_false, wUn, dNot, dII0, dII, dEqS, dNeS, dIsN, dNotN, dNeg, ends, DL.gLt, DL.gLe, DL.gGt, DL.gGe, DL.gAdd, DL.gSub, DL.gMul, DL.gMod, DL.gDiv, DL.gPow]
        refine ⟨sz2, some (.int (0 + (t : Nat))), ?_⟩
        rw [e5, show (i + (t : Nat)) % L + 1 = L from by have := pj.iL; omega, Int.emod_self]
        rfl
    · rintro ρ' ⟨kk, rfl⟩
      rw [rng_len]
      have p4 := pc.mv ((4 : Nat) : Int)
      try dsimp only [wRet, wAnd, wOr, wUn, wOp, wCa, wCons, wNil, wVar, wC, wSeq, wNext, wPass, wAsg, wExp, wIf, wB, wIfE, wAndT, wOrT, wNotT, wTup, wLst, wSl, dSl, wNoP, wPart, wCall, wCallK, wCallO, wCallP, wDisp, wFrz, wGet1, wGet2, wPut, wNewT, wPar, wgName, wgTup, wgCons, wgNil, wiT, wiL, wiR1, wiZip, wiEnu, wiEnuA, wChain, wYes, wBM, wBM0, slot, allD, wipeS, List.map_cons, List.map_nil, List.set_cons_zero, List.set_cons_succ, List.cons_append, List.nil_append, List.isEmpty_nil, List.isEmpty_cons, Bool.not_true, Bool.not_false, wUn, dNot, dII0, dII, dEqS, dNeS, dIsN, dNotN, dNeg, ends, DL.gLt, DL.gLe, DL.gGt, DL.gGe, DL.gAdd, DL.gSub, DL.gMul, DL.gMod, DL.gDiv, DL.gPow]
      refine ⟨⟨by decide, by decide, by decide⟩, ⟨by decide, by decide, by decide⟩, mul_big, ⟨by decide, by decide, by decide⟩, ⟨by decide, by decide, by decide⟩, sz4, ?_⟩
      rw [frz_of [.int (10 ^ Int.toNat 50 * 10 ^ Int.toNat 49), .int (10 ^ Int.toNat 18), .int (10 ^ Int.toNat 5), .int 60] rfl]
      dsimp only
      rw [ren_id (by cases kk <;> rfl)]
      try dsimp only [wRet, wAnd, wOr, wUn, wOp, wCa, wCons, wNil, wVar, wC, wSeq, wNext, wPass, wAsg, wExp, wIf, wB, wIfE, wAndT, wOrT, wNotT, wTup, wLst, wSl, dSl, wNoP, wPart, wCall, wCallK, wCallO, wCallP, wDisp, wFrz, wGet1, wGet2, wPut, wNewT, wPar, wgName, wgTup, wgCons, wgNil, wiT, wiL, wiR1, wiZip, wiEnu, wiEnuA, wChain, wYes, wBM, wBM0, slot, allD, wipeS, List.map_cons, List.map_nil, List.set_cons_zero, List.set_cons_succ, List.cons_append, List.nil_append, List.isEmpty_nil, List.isEmpty_cons, Bool.not_true, Bool.not_false, wUn, dNot, dII0, dII, dEqS, dNeS, dIsN, dNotN, dNeg, ends, DL.gLt, DL.gLe, DL.gGt, DL.gGe, DL.gAdd, DL.gSub, DL.gMul, DL.gMod, DL.gDiv, DL.gPow]
      refine call_dk [_] rfl ⟨_, .inr rfl, by show 1 ≤ 4; decide, by show 4 ≤ 1000; decide⟩ hc fun y c1 m1 d1 hy hc1 => ?_
      obtain ⟨g, rfl⟩ : ∃ g : Int, y = .int g := pick_int hy rfl
      try dsimp only [wRet, wAnd, wOr, wUn, wOp, wCa, wCons, wNil, wVar, wC, wSeq, wNext, wPass, wAsg, wExp, wIf, wB, wIfE, wAndT, wOrT, wNotT, wTup, wLst, wSl, dSl, wNoP, wPart, wCall, wCallK, wCallO, wCallP, wDisp, wFrz, wGet1, wGet2, wPut, wNewT, wPar, wgName, wgTup, wgCons, wgNil, wiT, wiL, wiR1, wiZip, wiEnu, wiEnuA, wChain, wYes, wBM, wBM0, slot, allD, wipeS, List.map_cons, List.map_nil, List.set_cons_zero, List.set_cons_succ, List.cons_append, List.nil_append, List.isEmpty_nil, List.isEmpty_cons, Bool.not_true, Bool.not_false, wUn, dNot, dII0, dII, dEqS, dNeS, dIsN, dNotN, dNeg, ends, DL.gLt, DL.gLe, DL.gGt, DL.gGe, DL.gAdd, DL.gSub, DL.gMul, DL.gMod, DL.gDiv, DL.gPow]
      refine ⟨⟨by decide, by decide, by decide⟩, ?_⟩
      refine call_dk [_] rfl ⟨_, rfl, by decide, by decide⟩ hc1 fun y c2 m2 d2 hy hc2 => ?_
      obtain ⟨_, r, _, rfl, _, _⟩ := hy
      try dsimp only [wRet, wAnd, wOr, wUn, wOp, wCa, wCons, wNil, wVar, wC, wSeq, wNext, wPass, wAsg, wExp, wIf, wB, wIfE, wAndT, wOrT, wNotT, wTup, wLst, wSl, dSl, wNoP, wPart, wCall, wCallK, wCallO, wCallP, wDisp, wFrz, wGet1, wGet2, wPut, wNewT, wPar, wgName, wgTup, wgCons, wgNil, wiT, wiL, wiR1, wiZip, wiEnu, wiEnuA, wChain, wYes, wBM, wBM0, slot, allD, wipeS, List.map_cons, List.map_nil, List.set_cons_zero, List.set_cons_succ, List.cons_append, List.nil_append, List.isEmpty_nil, List.isEmpty_cons, Bool.not_true, Bool.not_false, wUn, dNot, dII0, dII, dEqS, dNeS, dIsN, dNotN, dNeg, ends, DL.gLt, DL.gLe, DL.gGt, DL.gGe, DL.gAdd, DL.gSub, DL.gMul, DL.gMod, DL.gDiv, DL.gPow]
      refine call_dk [_] rfl ⟨_, rfl, by decide, by decide⟩ hc2 fun y c3 m3 d3 hy hc3 => ?_
      obtain ⟨_, r2, _, rfl, _, _⟩ := hy
      try dsimp only [wRet, wAnd, wOr, wUn, wOp, wCa, wCons, wNil, wVar, wC, wSeq, wNext, wPass, wAsg, wExp, wIf, wB, wIfE, wAndT, wOrT, wNotT, wTup, wLst, wSl, dSl, wNoP, wPart, wCall, wCallK, wCallO, wCallP, wDisp, wFrz, wGet1, wGet2, wPut, wNewT, wPar, wgName, wgTup, wgCons, wgNil, wiT, wiL, wiR1, wiZip, wiEnu, wiEnuA, wChain, wYes, wBM, wBM0, slot, allD, wipeS, List.map_cons, List.map_nil, List.set_cons_zero, List.set_cons_succ, List.cons_append, List.nil_append, List.isEmpty_nil, List.isEmpty_cons, Bool.not_true, Bool.not_false, wUn, dNot, dII0, dII, dEqS, dNeS, dIsN, dNotN, dNeg, ends, DL.gLt, DL.gLe, DL.gGt, DL.gGe, DL.gAdd, DL.gSub, DL.gMul, DL.gMod, DL.gDiv, DL.gPow]
      try unfold dNeg
      try dsimp only [wRet, wAnd, wOr, wUn, wOp, wCa, wCons, wNil, wVar, wC, wSeq, wNext, wPass, wAsg, wExp, wIf, wB, wIfE, wAndT, wOrT, wNotT, wTup, wLst, wSl, dSl, wNoP, wPart, wCall, wCallK, wCallO, wCallP, wDisp, wFrz, wGet1, wGet2, wPut, wNewT, wPar, wgName, wgTup, wgCons, wgNil, wiT, wiL, wiR1, wiZip, wiEnu, wiEnuA, wChain, wYes, wBM, wBM0, slot, allD, wipeS, List.map_cons, List.map_nil, List.set_cons_zero, List.set_cons_succ, List.cons_append, List.nil_append, List.isEmpty_nil, List.isEmpty_cons, Bool.not_true, Bool.not_false, wUn, dNot, dII0, dII, dEqS, dNeS, dIsN, dNotN, dNeg, ends, DL.gLt, DL.gLe, DL.gGt, DL.gGe, DL.gAdd, DL.gSub, DL.gMul, DL.gMod, DL.gDiv, DL.gPow]
      refine ⟨sz6, ?_⟩
      rw [frz_of [.int (g + r), .int (-(g + r)), .int (r2 - 100), .int L, .int (-L), .int 0] rfl]
      dsimp only
      rw [ren_id (by cases kk <;> rfl)]
      try dsimp only [wRet, wAnd, wOr, wUn, wOp, wCa, wCons, wNil, wVar, wC, wSeq, wNext, wPass, wAsg, wExp, wIf, wB, wIfE, wAndT, wOrT, wNotT, wTup, wLst, wSl, dSl, wNoP, wPart, wCall, wCallK, wCallO, wCallP, wDisp, wFrz, wGet1, wGet2, wPut, wNewT, wPar, wgName, wgTup, wgCons, wgNil, wiT, wiL, wiR1, wiZip, wiEnu, wiEnuA, wChain, wYes, wBM, wBM0, slot, allD, wipeS, List.map_cons, List.map_nil, List.set_cons_zero, List.set_cons_succ, List.cons_append, List.nil_append, List.isEmpty_nil, List.isEmpty_cons, Bool.not_true, Bool.not_false, wUn, dNot, dII0, dII, dEqS, dNeS, dIsN, dNotN, dNeg, ends, DL.gLt, DL.gLe, DL.gGt, DL.gGe, DL.gAdd, DL.gSub, DL.gMul, DL.gMod, DL.gDiv, DL.gPow]
      refine call_dk [_] rfl ⟨_, .inr rfl, by show 1 ≤ 6; decide, by show 6 ≤ 1000; decide⟩ hc3 fun y c4 m4 d4 hy hc4 => ?_
      obtain ⟨k, rfl⟩ : ∃ k : Int, y = .int k := pick_int hy rfl
      try dsimp only [wRet, wAnd, wOr, wUn, wOp, wCa, wCons, wNil, wVar, wC, wSeq, wNext, wPass, wAsg, wExp, wIf, wB, wIfE, wAndT, wOrT, wNotT, wTup, wLst, wSl, dSl, wNoP, wPart, wCall, wCallK, wCallO, wCallP, wDisp, wFrz, wGet1, wGet2, wPut, wNewT, wPar, wgName, wgTup, wgCons, wgNil, wiT, wiL, wiR1, wiZip, wiEnu, wiEnuA, wChain, wYes, wBM, wBM0, slot, allD, wipeS, List.map_cons, List.map_nil, List.set_cons_zero, List.set_cons_succ, List.cons_append, List.nil_append, List.isEmpty_nil, List.isEmpty_cons, Bool.not_true, Bool.not_false, wUn, dNot, dII0, dII, dEqS, dNeS, dIsN, dNotN, dNeg, ends, DL.gLt, DL.gLe, DL.gGt, DL.gGe, DL.gAdd, DL.gSub, DL.gMul, DL.gMod, DL.gDiv, DL.gPow]
      have pd := pc.mv k
      refine call_pur [flD ns tl, plD n i, .int k] (plD n ((i + k) % L)) rfl ⟨ns, tl, n, i, k, rfl, hpl, by rw [pc.g]⟩ ?_
      try dsimp only [wRet, wAnd, wOr, wUn, wOp, wCa, wCons, wNil, wVar, wC, wSeq, wNext, wPass, wAsg, wExp, wIf, wB, wIfE, wAndT, wOrT, wNotT, wTup, wLst, wSl, dSl, wNoP, wPart, wCall, wCallK, wCallO, wCallP, wDisp, wFrz, wGet1, wGet2, wPut, wNewT, wPar, wgName, wgTup, wgCons, wgNil, wiT, wiL, wiR1, wiZip, wiEnu, wiEnuA, wChain, wYes, wBM, wBM0, slot, allD, wipeS, List.map_cons, List.map_nil, List.set_cons_zero, List.set_cons_succ, List.cons_append, List.nil_append, List.isEmpty_nil, List.isEmpty_cons, Bool.not_true, Bool.not_false, wUn, dNot, dII0, dII, dEqS, dNeS, dIsN, dNotN, dNeg, ends, DL.gLt, DL.gLe, DL.gGt, DL.gGe, DL.gAdd, DL.gSub, DL.gMul, DL.gMod, DL.gDiv, DL.gPow]
      refine call_dk [_] rfl ⟨_, rfl, by decide, by decide⟩ hc4 fun y c5 m5 d5 hy hc5 => ?_
      obtain ⟨_, r5, _, rfl, _, _⟩ := hy
      try dsimp only [wRet, wAnd, wOr, wUn, wOp, wCa, wCons, wNil, wVar, wC, wSeq, wNext, wPass, wAsg, wExp, wIf, wB, wIfE, wAndT, wOrT, wNotT, wTup, wLst, wSl, dSl, wNoP, wPart, wCall, wCallK, wCallO, wCallP, wDisp, wFrz, wGet1, wGet2, wPut, wNewT, wPar, wgName, wgTup, wgCons, wgNil, wiT, wiL, wiR1, wiZip, wiEnu, wiEnuA, wChain, wYes, wBM, wBM0, slot, allD, wipeS, List.map_cons, List.map_nil, List.set_cons_zero, List.set_cons_succ, List.cons_append, List.nil_append, List.isEmpty_nil, List.isEmpty_cons, Bool.not_true, Bool.not_false, wUn, dNot, dII0, dII, dEqS, dNeS, dIsN, dNotN, dNeg, ends, DL.gLt, DL.gLe, DL.gGt, DL.gGe, DL.gAdd, DL.gSub, DL.gMul, DL.gMod, DL.gDiv, DL.gPow]
      refine call_pur [flD ns tl, plD n i, .int k] (plD n ((i + k) % L)) rfl ⟨ns, tl, n, i, k, rfl, hf, hpl, by rw [pc.g]⟩ ?_
      try dsimp only [wRet, wAnd, wOr, wUn, wOp, wCa, wCons, wNil, wVar, wC, wSeq, wNext, wPass, wAsg, wExp, wIf, wB, wIfE, wAndT, wOrT, wNotT, wTup, wLst, wSl, dSl, wNoP, wPart, wCall, wCallK, wCallO, wCallP, wDisp, wFrz, wGet1, wGet2, wPut, wNewT, wPar, wgName, wgTup, wgCons, wgNil, wiT, wiL, wiR1, wiZip, wiEnu, wiEnuA, wChain, wYes, wBM, wBM0, slot, allD, wipeS, List.map_cons, List.map_nil, List.set_cons_zero, List.set_cons_succ, List.cons_append, List.nil_append, List.isEmpty_nil, List.isEmpty_cons, Bool.not_true, Bool.not_false, wUn, dNot, dII0, dII, dEqS, dNeS, dIsN, dNotN, dNeg, ends, DL.gLt, DL.gLe, DL.gGt, DL.gGe, DL.gAdd, DL.gSub, DL.gMul, DL.gMod, DL.gDiv, DL.gPow]
      refine ⟨rfl, ?_⟩
      refine call_pur [flD ns tl, plD n i, .int k] (plD n ((i + k) % L)) rfl ⟨ns, tl, n, i, k, rfl, hf, hpl, by rw [pc.g]⟩ ?_
      try dsimp only [wRet, wAnd, wOr, wUn, wOp, wCa, wCons, wNil, wVar, wC, wSeq, wNext, wPass, wAsg, wExp, wIf, wB, wIfE, wAndT, wOrT, wNotT, wTup, wLst, wSl, dSl, wNoP, wPart, wCall, wCallK, wCallO, wCallP, wDisp, wFrz, wGet1, wGet2, wPut, wNewT, wPar, wgName, wgTup, wgCons, wgNil, wiT, wiL, wiR1, wiZip, wiEnu, wiEnuA, wChain, wYes, wBM, wBM0, slot, allD, wipeS, List.map_cons, List.map_nil, List.set_cons_zero, List.set_cons_succ, List.cons_append, List.nil_append, List.isEmpty_nil, List.isEmpty_cons, Bool.not_true, Bool.not_false, wUn, dNot, dII0, dII, dEqS, dNeS, dIsN, dNotN, dNeg, ends, DL.gLt, DL.gLe, DL.gGt, DL.gGe, DL.gAdd, DL.gSub, DL.gMul, DL.gMod, DL.gDiv, DL.gPow]
      refine ⟨sz2, ?_⟩
      refine ⟨shows_two pd.sh pd.sh, ?_⟩
      try dsimp only [wRet, wAnd, wOr, wUn, wOp, wCa, wCons, wNil, wVar, wC, wSeq, wNext, wPass, wAsg, wExp, wIf, wB, wIfE, wAndT, wOrT, wNotT, wTup, wLst, wSl, dSl, wNoP, wPart, wCall, wCallK, wCallO, wCallP, wDisp, wFrz, wGet1, wGet2, wPut, wNewT, wPar, wgName, wgTup, wgCons, wgNil, wiT, wiL, wiR1, wiZip, wiEnu, wiEnuA, wChain, wYes, wBM, wBM0, slot, allD, wipeS, List.map_cons, List.map_nil, List.set_cons_zero, List.set_cons_succ, List.cons_append, List.nil_append, List.isEmpty_nil, List.isEmpty_cons, Bool.not_true, Bool.not_false, wUn, dNot, dII0, dII, dEqS, dNeS, dIsN, dNotN, dNeg, ends, DL.gLt, DL.gLe, DL.gGt, DL.gGe, DL.gAdd, DL.gSub, DL.gMul, DL.gMod, DL.gDiv, DL.gPow]
      refine ⟨sz2, ?_⟩
      refine ⟨shows_two pd.sh pd.sh, ?_⟩
      try dsimp only [wRet, wAnd, wOr, wUn, wOp, wCa, wCons, wNil, wVar, wC, wSeq, wNext, wPass, wAsg, wExp, wIf, wB, wIfE, wAndT, wOrT, wNotT, wTup, wLst, wSl, dSl, wNoP, wPart, wCall, wCallK, wCallO, wCallP, wDisp, wFrz, wGet1, wGet2, wPut, wNewT, wPar, wgName, wgTup, wgCons, wgNil, wiT, wiL, wiR1, wiZip, wiEnu, wiEnuA, wChain, wYes, wBM, wBM0, slot, allD, wipeS, List.map_cons, List.map_nil, List.set_cons_zero, List.set_cons_succ, List.cons_append, List.nil_append, List.isEmpty_nil, List.isEmpty_cons, Bool.not_true, Bool.not_false, wUn, dNot, dII0, dII, dEqS, dNeS, dIsN, dNotN, dNeg, ends, DL.gLt, DL.gLe, DL.gGt, DL.gGe, DL.gAdd, DL.gSub, DL.gMul, DL.gMod, DL.gDiv, DL.gPow]
      rw [decide_eq_true rfl]
      try dsimp only [wRet, wAnd, wOr, wUn, wOp, wCa, wCons, wNil, wVar, wC, wSeq, wNext, wPass, wAsg, wExp, wIf, wB, wIfE, wAndT, wOrT, wNotT, wTup, wLst, wSl, dSl, wNoP, wPart, wCall, wCallK, wCallO, wCallP, wDisp, wFrz, wGet1, wGet2, wPut, wNewT, wPar, wgName, wgTup, wgCons, wgNil, wiT, wiL, wiR1, wiZip, wiEnu, wiEnuA, wChain, wYes, wBM, wBM0, slot, allD, wipeS, List.map_cons, List.map_nil, List.set_cons_zero, List.set_cons_succ, List.cons_append, List.nil_append, List.isEmpty_nil, List.isEmpty_cons, Bool.not_true, Bool.not_false, wUn, dNot, dII0, dII, dEqS, dNeS, dIsN, dNotN, dNeg, ends, DL.gLt, DL.gLe, DL.gGt, DL.gGe, DL.gAdd, DL.gSub, DL.gMul, DL.gMod, DL.gDiv, DL.gPow]
      have pe := pd.mv (r5 - 49)
      refine call_pur [flD ns tl, plD n ((i + k) % L), .int (r5 - 49)] (plD n (((i + k) % L + (r5 - 49)) % L)) rfl ⟨ns, tl, n, _, _, rfl, hf, pd.pl, by rw [pc.g]⟩ ?_
      refine ⟨pe.sh.shows (by decide) (by decide), ?_⟩
      try dsimp only [wRet, wAnd, wOr, wUn, wOp, wCa, wCons, wNil, wVar, wC, wSeq, wNext, wPass, wAsg, wExp, wIf, wB, wIfE, wAndT, wOrT, wNotT, wTup, wLst, wSl, dSl, wNoP, wPart, wCall, wCallK, wCallO, wCallP, wDisp, wFrz, wGet1, wGet2, wPut, wNewT, wPar, wgName, wgTup, wgCons, wgNil, wiT, wiL, wiR1, wiZip, wiEnu, wiEnuA, wChain, wYes, wBM, wBM0, slot, allD, wipeS, List.map_cons, List.map_nil, List.set_cons_zero, List.set_cons_succ, List.cons_append, List.nil_append, List.isEmpty_nil, List.isEmpty_cons, Bool.not_true, Bool.not_false, wUn, dNot, dII0, dII, dEqS, dNeS, dIsN, dNotN, dNeg, ends, DL.gLt, DL.gLe, DL.gGt, DL.gGe, DL.gAdd, DL.gSub, DL.gMul, DL.gMod, DL.gDiv, DL.gPow]
      refine ⟨hL, ?_⟩
      try unfold dInt
      try dsimp only [wRet, wAnd, wOr, wUn, wOp, wCa, wCons, wNil, wVar, wC, wSeq, wNext, wPass, wAsg, wExp, wIf, wB, wIfE, wAndT, wOrT, wNotT, wTup, wLst, wSl, dSl, wNoP, wPart, wCall, wCallK, wCallO, wCallP, wDisp, wFrz, wGet1, wGet2, wPut, wNewT, wPar, wgName, wgTup, wgCons, wgNil, wiT, wiL, wiR1, wiZip, wiEnu, wiEnuA, wChain, wYes, wBM, wBM0, slot, allD, wipeS, List.map_cons, List.map_nil, List.set_cons_zero, List.set_cons_succ, List.cons_append, List.nil_append, List.isEmpty_nil, List.isEmpty_cons, Bool.not_true, Bool.not_false, wUn, dNot, dII0, dII, dEqS, dNeS, dIsN, dNotN, dNeg, ends, DL.gLt, DL.gLe, DL.gGt, DL.gGe, DL.gAdd, DL.gSub, DL.gMul, DL.gMod, DL.gDiv, DL.gPow]
      refine call_pur [flD ns tl, plD n i, .int ((k + (r5 - 49)) % L)] (plD n (((i + k) % L + (r5 - 49)) % L)) rfl ⟨ns, tl, n, i, _, rfl, hf, hpl, by rw [pc.g, Int.emod_add_emod, Int.add_emod_emod, Int.add_assoc]⟩ ?_
      refine ⟨pe.sh.shows (by decide) (by decide), ?_⟩
      try dsimp only [wRet, wAnd, wOr, wUn, wOp, wCa, wCons, wNil, wVar, wC, wSeq, wNext, wPass, wAsg, wExp, wIf, wB, wIfE, wAndT, wOrT, wNotT, wTup, wLst, wSl, dSl, wNoP, wPart, wCall, wCallK, wCallO, wCallP, wDisp, wFrz, wGet1, wGet2, wPut, wNewT, wPar, wgName, wgTup, wgCons, wgNil, wiT, wiL, wiR1, wiZip, wiEnu, wiEnuA, wChain, wYes, wBM, wBM0, slot, allD, wipeS, List.map_cons, List.map_nil, List.set_cons_zero, List.set_cons_succ, List.cons_append, List.nil_append, List.isEmpty_nil, List.isEmpty_cons, Bool.not_true, Bool.not_false, wUn, dNot, dII0, dII, dEqS, dNeS, dIsN, dNotN, dNeg, ends, DL.gLt, DL.gLe, DL.gGt, DL.gGe, DL.gAdd, DL.gSub, DL.gMul, DL.gMod, DL.gDiv, DL.gPow]
      rw [decide_eq_true rfl]
      exact hR _ c5 m5 d5 _ rfl hc5
  | some q =>
    obtain ⟨mq, mb⟩ := mate_back hv.nd hm
    obtain ⟨v, j⟩ := q
    obtain ⟨n2, L2, rfl, pc2⟩ := pc_of hv.rg (hv.mem _ mq)
    have hq : parOf tl n i = plD n2 j := by rw [hpo, hm]; rfl
    have hb : parOf tl n2 j = plD n i := by rw [par_of hv.nd, mb]; rfl
    rw [hq]
    try dsimp only [wRet, wAnd, wOr, wUn, wOp, wCa, wCons, wNil, wVar, wC, wSeq, wNext, wPass, wAsg, wExp, wIf, wB, wIfE, wAndT, wOrT, wNotT, wTup, wLst, wSl, dSl, wNoP, wPart, wCall, wCallK, wCallO, wCallP, wDisp, wFrz, wGet1, wGet2, wPut, wNewT, wPar, wgName, wgTup, wgCons, wgNil, wiT, wiL, wiR1, wiZip, wiEnu, wiEnuA, wChain, wYes, wBM, wBM0, slot, allD, wipeS, List.map_cons, List.map_nil, List.set_cons_zero, List.set_cons_succ, List.cons_append, List.nil_append, List.isEmpty_nil, List.isEmpty_cons, Bool.not_true, Bool.not_false, wUn, dNot, dII0, dII, dEqS, dNeS, dIsN, dNotN, dNeg, ends, DL.gLt, DL.gLe, DL.gGt, DL.gGe, DL.gAdd, DL.gSub, DL.gMul, DL.gMod, DL.gDiv, DL.gPow]
    rw [show isNn (plD n2 j) = false from rfl, Bool.not_false]
    try dsimp only [wRet, wAnd, wOr, wUn, wOp, wCa, wCons, wNil, wVar, wC, wSeq, wNext, wPass, wAsg, wExp, wIf, wB, wIfE, wAndT, wOrT, wNotT, wTup, wLst, wSl, dSl, wNoP, wPart, wCall, wCallK, wCallO, wCallP, wDisp, wFrz, wGet1, wGet2, wPut, wNewT, wPar, wgName, wgTup, wgCons, wgNil, wiT, wiL, wiR1, wiZip, wiEnu, wiEnuA, wChain, wYes, wBM, wBM0, slot, allD, wipeS, List.map_cons, List.map_nil, List.set_cons_zero, List.set_cons_succ, List.cons_append, List.nil_append, List.isEmpty_nil, List.isEmpty_cons, Bool.not_true, Bool.not_false, wUn, dNot, dII0, dII, dEqS, dNeS, dIsN, dNotN, dNeg, ends, DL.gLt, DL.gLe, DL.gGt, DL.gGe, DL.gAdd, DL.gSub, DL.gMul, DL.gMod, DL.gDiv, DL.gPow]
    refine call_pur [flD ns tl, plD n2 j] (plD n i) rfl ⟨ns, tl, n2, j, rfl, hf, pc2.pl, hb.symm⟩ ?_
    refine ⟨pc.sh.shows (by decide) (by decide), ?_⟩
    try dsimp only [wRet, wAnd, wOr, wUn, wOp, wCa, wCons, wNil, wVar, wC, wSeq, wNext, wPass, wAsg, wExp, wIf, wB, wIfE, wAndT, wOrT, wNotT, wTup, wLst, wSl, dSl, wNoP, wPart, wCall, wCallK, wCallO, wCallP, wDisp, wFrz, wGet1, wGet2, wPut, wNewT, wPar, wgName, wgTup, wgCons, wgNil, wiT, wiL, wiR1, wiZip, wiEnu, wiEnuA, wChain, wYes, wBM, wBM0, slot, allD, wipeS, List.map_cons, List.map_nil, List.set_cons_zero, List.set_cons_succ, List.cons_append, List.nil_append, List.isEmpty_nil, List.isEmpty_cons, Bool.not_true, Bool.not_false, wUn, dNot, dII0, dII, dEqS, dNeS, dIsN, dNotN, dNeg, ends, DL.gLt, DL.gLe, DL.gGt, DL.gGe, DL.gAdd, DL.gSub, DL.gMul, DL.gMod, DL.gDiv, DL.gPow]
    refine ⟨pc.sh.shows (by decide) (by decide), ?_⟩
    try dsimp only [wRet, wAnd, wOr, wUn, wOp, wCa, wCons, wNil, wVar, wC, wSeq, wNext, wPass, wAsg, wExp, wIf, wB, wIfE, wAndT, wOrT, wNotT, wTup, wLst, wSl, dSl, wNoP, wPart, wCall, wCallK, wCallO, wCallP, wDisp, wFrz, wGet1, wGet2, wPut, wNewT, wPar, wgName, wgTup, wgCons, wgNil, wiT, wiL, wiR1, wiZip, wiEnu, wiEnuA, wChain, wYes, wBM, wBM0, slot, allD, wipeS, List.map_cons, List.map_nil, List.set_cons_zero, List.set_cons_succ, List.cons_append, List.nil_append, List.isEmpty_nil, List.isEmpty_cons, Bool.not_true, Bool.not_false, wUn, dNot, dII0, dII, dEqS, dNeS, dIsN, dNotN, dNeg, ends, DL.gLt, DL.gLe, DL.gGt, DL.gGe, DL.gAdd, DL.gSub, DL.gMul, DL.gMod, DL.gDiv, DL.gPow]
    rw [decide_eq_true rfl]
    try dsimp only [wRet, wAnd, wOr, wUn, wOp, wCa, wCons, wNil, wVar, wC, wSeq, wNext, wPass, wAsg, wExp, wIf, wB, wIfE, wAndT, wOrT, wNotT, wTup, wLst, wSl, dSl, wNoP, wPart, wCall, wCallK, wCallO, wCallP, wDisp, wFrz, wGet1, wGet2, wPut, wNewT, wPar, wgName, wgTup, wgCons, wgNil, wiT, wiL, wiR1, wiZip, wiEnu, wiEnuA, wChain, wYes, wBM, wBM0, slot, allD, wipeS, List.map_cons, List.map_nil, List.set_cons_zero, List.set_cons_succ, List.cons_append, List.nil_append, List.isEmpty_nil, List.isEmpty_cons, Bool.not_true, Bool.not_false, wUn, dNot, dII0, dII, dEqS, dNeS, dIsN, dNotN, dNeg, ends, DL.gLt, DL.gLe, DL.gGt, DL.gGe, DL.gAdd, DL.gSub, DL.gMul, DL.gMod, DL.gDiv, DL.gPow]
    refine for_in (rng 0 4) ⟨[some (.o 0), some (.d (flD ns tl)), some (.d (plD n i)), some (.d (.int at')), some (.d (dtD (parP tl))), some (.d (.int L)), some (.d (plD n2 j)), some (.d (plD n i)), none, none, none, none], [deckO m d, cellsO c]⟩
      (fun t ρ' => ∃ kk : Option PyData, ρ' = ⟨[some (.o 0), some (.d (flD ns tl)), some (.d (plD n i)), some (.d (.int at')), some (.d (dtD (parP tl))), some (.d (.int L)), some (.d (plD n2 j)), some (.d (plD n ((i + (t : Nat)) % L))), kk.map .d, none, none, none], [deckO m d, cellsO c]⟩) (fun C h => ⟨by unfold RgB; decide, h⟩) ⟨none, by rw [show (i + ((0 : Nat) : Int)) % L = i from by rw [Int.natCast_zero, Int.add_zero]; exact Int.emod_eq_of_lt pc.i0 pc.iL]; rfl⟩ ?_ ?_
    · rintro t x ρ' hx ⟨kk, rfl⟩
      obtain ⟨ht, rfl⟩ := rng_get hx
      have pj := pc.mv (t : Nat)
      try dsimp only [wRet, wAnd, wOr, wUn, wOp, wCa, wCons, wNil, wVar, wC, wSeq, wNext, wPass, wAsg, wExp, wIf, wB, wIfE, wAndT, wOrT, wNotT, wTup, wLst, wSl, dSl, wNoP, wPart, wCall, wCallK, wCallO, wCallP, wDisp, wFrz, wGet1, wGet2, wPut, wNewT, wPar, wgName, wgTup, wgCons, wgNil, wiT, wiL, wiR1, wiZip, wiEnu, wiEnuA, wChain, wYes, wBM, wBM0, slot, allD, wipeS, List.map_cons, List.map_nil, List.set_cons_zero, List.set_cons_succ, List.cons_append, List.nil_append, List.isEmpty_nil, List.isEmpty_cons, Bool.not_true, Bool.not_false, wUn, dNot, dII0, dII, dEqS, dNeS, dIsN, dNotN, dNeg, ends, DL.gLt, DL.gLe, DL.gGt, DL.gGe, DL.gAdd, DL.gSub, DL.gMul, DL.gMod, DL.gDiv, DL.gPow]
      refine call_pur [flD ns tl, plD n i, .int (0 + (t : Nat))] (plD n ((i + (t : Nat)) % L)) rfl ⟨ns, tl, n, i, _, rfl, hf, hpl, by rw [pc.g, Int.zero_add]⟩ ?_
      try dsimp only [wRet, wAnd, wOr, wUn, wOp, wCa, wCons, wNil, wVar, wC, wSeq, wNext, wPass, wAsg, wExp, wIf, wB, wIfE, wAndT, wOrT, wNotT, wTup, wLst, wSl, dSl, wNoP, wPart, wCall, wCallK, wCallO, wCallP, wDisp, wFrz, wGet1, wGet2, wPut, wNewT, wPar, wgName, wgTup, wgCons, wgNil, wiT, wiL, wiR1, wiZip, wiEnu, wiEnuA, wChain, wYes, wBM, wBM0, slot, allD, wipeS, List.map_cons, List.map_nil, List.set_cons_zero, List.set_cons_succ, List.cons_append, List.nil_append, List.isEmpty_nil, List.isEmpty_cons, Bool.not_true, Bool.not_false, wUn, dNot, dII0, dII, dEqS, dNeS, dIsN, dNotN, dNeg, ends, DL.gLt, DL.gLe, DL.gGt, DL.gGe, DL.gAdd, DL.gSub, DL.gMul, DL.gMod, DL.gDiv, DL.gPow]
      refine call_pur [flD ns tl, plD n ((i + (t : Nat)) % L), .int (-(0 + (t : Nat)))] (plD n i) rfl ⟨ns, tl, n, _, _, rfl, hf, pj.pl, by rw [pc.g, Int.zero_add, Int.emod_add_emod, Int.add_neg_cancel_right]; rw [Int.emod_eq_of_lt pc.i0 pc.iL]⟩ ?_
      try dsimp only [wRet, wAnd, wOr, wUn, wOp, wCa, wCons, wNil, wVar, wC, wSeq, wNext, wPass, wAsg, wExp, wIf, wB, wIfE, wAndT, wOrT, wNotT, wTup, wLst, wSl, dSl, wNoP, wPart, wCall, wCallK, wCallO, wCallP, wDisp, wFrz, wGet1, wGet2, wPut, wNewT, wPar, wgName, wgTup, wgCons, wgNil, wiT, wiL, wiR1, wiZip, wiEnu, wiEnuA, wChain, wYes, wBM, wBM0, slot, allD, wipeS, List.map_cons, List.map_nil, List.set_cons_zero, List.set_cons_succ, List.cons_append, List.nil_append, List.isEmpty_nil, List.isEmpty_cons, Bool.not_true, Bool.not_false, wUn, dNot, dII0, dII, dEqS, dNeS, dIsN, dNotN, dNeg, ends, DL.gLt, DL.gLe, DL.gGt, DL.gGe, DL.gAdd, DL.gSub, DL.gMul, DL.gMod, DL.gDiv, DL.gPow]
      refine ⟨sz2, ?_⟩
      refine ⟨shows_two pj.sh pc.sh, ?_⟩
      try dsimp only [wRet, wAnd, wOr, wUn, wOp, wCa, wCons, wNil, wVar, wC, wSeq, wNext, wPass, wAsg, wExp, wIf, wB, wIfE, wAndT, wOrT, wNotT, wTup, wLst, wSl, dSl, wNoP, wPart, wCall, wCallK, wCallO, wCallP, wDisp, wFrz, wGet1, wGet2, wPut, wNewT, wPar, wgName, wgTup, wgCons, wgNil, wiT, wiL, wiR1, wiZip, wiEnu, wiEnuA, wChain, wYes, wBM, wBM0, slot, allD, wipeS, List.map_cons, List.map_nil, List.set_cons_zero, List.set_cons_succ, List.cons_append, List.nil_append, List.isEmpty_nil, List.isEmpty_cons, Bool.not_true, Bool.not_false, wUn, dNot, dII0, dII, dEqS, dNeS, dIsN, dNotN, dNeg, ends, DL.gLt, DL.gLe, DL.gGt, DL.gGe, DL.gAdd, DL.gSub, DL.gMul, DL.gMod, DL.gDiv, DL.gPow]
      refine ⟨sz2, ?_⟩
      refine ⟨shows_two pj.sh pc.sh, ?_⟩
      try dsimp only [wRet, wAnd, wOr, wUn, wOp, wCa, wCons, wNil, wVar, wC, wSeq, wNext, wPass, wAsg, wExp, wIf, wB, wIfE, wAndT, wOrT, wNotT, wTup, wLst, wSl, dSl, wNoP, wPart, wCall, wCallK, wCallO, wCallP, wDisp, wFrz, wGet1, wGet2, wPut, wNewT, wPar, wgName, wgTup, wgCons, wgNil, wiT, wiL, wiR1, wiZip, wiEnu, wiEnuA, wChain, wYes, wBM, wBM0, slot, allD, wipeS, List.map_cons, List.map_nil, List.set_cons_zero, List.set_cons_succ, List.cons_append, List.nil_append, List.isEmpty_nil, List.isEmpty_cons, Bool.not_true, Bool.not_false, wUn, dNot, dII0, dII, dEqS, dNeS, dIsN, dNotN, dNeg, ends, DL.gLt, DL.gLe, DL.gGt, DL.gGe, DL.gAdd, DL.gSub, DL.gMul, DL.gMod, DL.gDiv, DL.gPow]
      rw [decide_eq_true rfl]
      try dsimp only [wRet, wAnd, wOr, wUn, wOp, wCa, wCons, wNil, wVar, wC, wSeq, wNext, wPass, wAsg, wExp, wIf, wB, wIfE, wAndT, wOrT, wNotT, wTup, wLst, wSl, dSl, wNoP, wPart, wCall, wCallK, wCallO, wCallP, wDisp, wFrz, wGet1, wGet2, wPut, wNewT, wPar, wgName, wgTup, wgCons, wgNil, wiT, wiL, wiR1, wiZip, wiEnu, wiEnuA, wChain, wYes, wBM, wBM0, slot, allD, wipeS, List.map_cons, List.map_nil, List.set_cons_zero, List.set_cons_succ, List.cons_append, List.nil_append, List.isEmpty_nil, List.isEmpty_cons, Bool.not_true, Bool.not_false, wUn, dNot, dII0, dII, dEqS, dNeS, dIsN, dNotN, dNeg, ends, DL.gLt, DL.gLe, DL.gGt, DL.gGe, DL.gAdd, DL.gSub, DL.gMul, DL.gMod, DL.gDiv, DL.gPow]
      refine u_ix (z := .int ((i + (t : Nat)) % L)) rfl ?_
      try dsimp only [wRet, wAnd, wOr, wUn, wOp, wCa, wCons, wNil, wVar, wC, wSeq, wNext, wPass, wAsg, wExp, wIf, wB, wIfE, wAndT, wOrT, wNotT, wTup, wLst, wSl, dSl, wNoP, wPart, wCall, wCallK, wCallO, wCallP, wDisp, wFrz, wGet1, wGet2, wPut, wNewT, wPar, wgName, wgTup, wgCons, wgNil, wiT, wiL, wiR1, wiZip, wiEnu, wiEnuA, wChain, wYes, wBM, wBM0, slot, allD, wipeS, List.map_cons, List.map_nil, List.set_cons_zero, List.set_cons_succ, List.cons_append, List.nil_append, List.isEmpty_nil, List.isEmpty_cons, Bool.not_true, Bool.not_false, wUn, dNot, dII0, dII, dEqS, dNeS, dIsN, dNotN, dNeg, ends, DL.gLt, DL.gLe, DL.gGt, DL.gGe, DL.gAdd, DL.gSub, DL.gMul, DL.gMod, DL.gDiv, DL.gPow]
      have e5 : (i + ((t + 1 : Nat) : Int)) % L = ((i + (t : Nat)) % L + 1) % L := by rw [Int.emod_add_emod, Int.natCast_add, Int.add_assoc]; rfl
      by_cases hj : (i + (t : Nat)) % L + 1 < L
      · rw [decide_eq_true hj]
        try dsimp only [wRet, wAnd, wOr, wUn, wOp, wCa, wCons, wNil, wVar, wC, wSeq, wNext, wPass, wAsg, wExp, wIf, wB, wIfE, wAndT, wOrT, wNotT, wTup, wLst, wSl, dSl, wNoP, wPart, wCall, wCallK, wCallO, wCallP, wDisp, wFrz, wGet1, wGet2, wPut, wNewT, wPar, wgName, wgTup, wgCons, wgNil, wiT, wiL, wiR1, wiZip, wiEnu, wiEnuA, wChain, wYes, wBM, wBM0, slot, allD, wipeS, List.map_cons, List.map_nil, List.set_cons_zero, List.set_cons_succ, List.cons_append, List.nil_append, List.isEmpty_nil, List.isEmpty_cons, Bool.not_true, Bool.not_false, wUn, dNot, dII0, dII, dEqS, dNeS, dIsN, dNotN, dNeg, ends, DL.gLt, DL.gLe, DL.gGt, DL.gGe, DL.gAdd, DL.gSub, DL.gMul, DL.gMod, DL.gDiv, DL.gPow]
        refine u_ix (z := .int (n : Nat)) rfl ?_
        try dsimp only [wRet, wAnd, wOr, wUn, wOp, wCa, wCons, wNil, wVar, wC, wSeq, wNext, wPass, wAsg, wExp, wIf, wB, wIfE, wAndT, wOrT, wNotT, wTup, wLst, wSl, dSl, wNoP, wPart, wCall, wCallK, wCallO, wCallP, wDisp, wFrz, wGet1, wGet2, wPut, wNewT, wPar, wgName, wgTup, wgCons, wgNil, wiT, wiL, wiR1, wiZip, wiEnu, wiEnuA, wChain, wYes, wBM, wBM0, slot, allD, wipeS, List.map_cons, List.map_nil, List.set_cons_zero, List.set_cons_succ, List.cons_append, List.nil_append, List.isEmpty_nil, List.isEmpty_cons, Bool.not_true, Bool.not_false, wUn, dNot, dII0, dII, dEqS, dNeS, dIsN, dNotN, dNeg, ends, DL.gLt, DL.gLe, DL.gGt, DL.gGe, DL.gAdd, DL.gSub, DL.gMul, DL.gMod, DL.gDiv, DL.gPow]
        refine u_ix (z := .int ((i + (t : Nat)) % L)) rfl ?_
        try dsimp only [wRet, wAnd, wOr, wUn, wOp, wCa, wCons, wNil, wVar, wC, wSeq, wNext, wPass, wAsg, wExp, wIf, wB, wIfE, wAndT, wOrT, wNotT, wTup, wLst, wSl, dSl, wNoP, wPart, wCall, wCallK, wCallO, wCallP, wDisp, wFrz, wGet1, wGet2, wPut, wNewT, wPar, wgName, wgTup, wgCons, wgNil, wiT, wiL, wiR1, wiZip, wiEnu, wiEnuA, wChain, wYes, wBM, wBM0, slot, allD, wipeS, List.map_cons, List.map_nil, List.set_cons_zero, List.set_cons_succ, List.cons_append, List.nil_append, List.isEmpty_nil, List.isEmpty_cons, Bool.not_true, Bool.not_false, wUn, dNot, dII0, dII, dEqS, dNeS, dIsN, dNotN, dNeg, ends, DL.gLt, DL.gLe, DL.gGt, DL.gGe, DL.gAdd, DL.gSub, DL.gMul, DL.gMod, DL.gDiv, DL.gPow]
        refine ⟨sz2, some (.int (0 + (t : Nat))), ?_⟩
        rw [e5, Int.emod_eq_of_lt (by have := pj.i0; omega) hj]
        rfl
      · rw [decide_eq_false hj]
        try dsimp only [wRet, wAnd, wOr, wUn, wOp, wCa, wCons, wNil, wVar, wC, wSeq, wNext, wPass, wAsg, wExp, wIf, wB, wIfE, wAndT, wOrT, wNotT, wTup, wLst, wSl, dSl, wNoP, wPart, wCall, wCallK, wCallO, wCallP, wDisp, wFrz, wGet1, wGet2, wPut, wNewT, wPar, wgName, wgTup, wgCons, wgNil, wiT, wiL, wiR1, wiZip, wiEnu, wiEnuA, wChain, wYes, wBM, wBM0, slot, allD, wipeS, List.map_cons, List.map_nil, List.set_cons_zero, List.set_cons_succ, List.cons_append, List.nil_append, List.isEmpty_nil, List.isEmpty_cons, Bool.not_true, Bool.not_false, wUn, dNot, dII0, dII, dEqS, dNeS, dIsN, dNotN, dNeg, ends, DL.gLt, DL.gLe, DL.gGt, DL.gGe, DL.gAdd, DL.gSub, DL.gMul, DL.gMod, DL.gDiv, DL.gPow]
        refine u_ix (z := .int (n : Nat)) rfl ?_
        try dsimp only [wRet, wAnd, wOr, wUn, wOp, wCa, wCons, wNil, wVar, wC, wSeq, wNext, wPass, wAsg, wExp, wIf, wB, wIfE, wAndT, wOrT, wNotT, wTup, wLst, wSl, dSl, wNoP, wPart, wCall, wCallK, wCallO, wCallP, wDisp, wFrz, wGet1, wGet2, wPut, wNewT, wPar, wgName, wgTup, wgCons, wgNil, wiT, wiL, wiR1, wiZip, wiEnu, wiEnuA, wChain, wYes, wBM, wBM0, slot, allD, wipeS, List.map_cons, List.map_nil, List.set_cons_zero, List.set_cons_succ, List.cons_append, List.nil_append, List.isEmpty_nil, List.isEmpty_cons, Bool.not_true, Bool.not_false, wUn, dNot, dII0, dII, dEqS, dNeS, dIsN, dNotN, dNeg, ends, DL.gLt, DL.gLe, DL.gGt, DL.gGe, DL.gAdd, DL.gSub, DL.gMul, DL.gMod, DL.gDiv, DL.gPow]
        refine ⟨sz2, some (.int (0 + (t : Nat))), ?_⟩
        rw [e5, show (i + (t : Nat)) % L + 1 = L from by have := pj.iL; omega, Int.emod_self]
        rfl
    · rintro ρ' ⟨kk, rfl⟩
      rw [rng_len]
      have p4 := pc.mv ((4 : Nat) : Int)
      try dsimp only [wRet, wAnd, wOr, wUn, wOp, wCa, wCons, wNil, wVar, wC, wSeq, wNext, wPass, wAsg, wExp, wIf, wB, wIfE, wAndT, wOrT, wNotT, wTup, wLst, wSl, dSl, wNoP, wPart, wCall, wCallK, wCallO, wCallP, wDisp, wFrz, wGet1, wGet2, wPut, wNewT, wPar, wgName, wgTup, wgCons, wgNil, wiT, wiL, wiR1, wiZip, wiEnu, wiEnuA, wChain, wYes, wBM, wBM0, slot, allD, wipeS, List.map_cons, List.map_nil, List.set_cons_zero, List.set_cons_succ, List.cons_append, List.nil_append, List.isEmpty_nil, List.isEmpty_cons, Bool.not_true, Bool.not_false, wUn, dNot, dII0, dII, dEqS, dNeS, dIsN, dNotN, dNeg, ends, DL.gLt, DL.gLe, DL.gGt, DL.gGe, DL.gAdd, DL.gSub, DL.gMul, DL.gMod, DL.gDiv, DL.gPow]
      refine ⟨⟨by decide, by decide, by decide⟩, ⟨by decide, by decide, by decide⟩, mul_big, ⟨by decide, by decide, by decide⟩, ⟨by decide, by decide, by decide⟩, sz4, ?_⟩
      rw [frz_of [.int (10 ^ Int.toNat 50 * 10 ^ Int.toNat 49), .int (10 ^ Int.toNat 18), .int (10 ^ Int.toNat 5), .int 60] rfl]
      dsimp only
      rw [ren_id (by cases kk <;> rfl)]
      try dsimp only [wRet, wAnd, wOr, wUn, wOp, wCa, wCons, wNil, wVar, wC, wSeq, wNext, wPass, wAsg, wExp, wIf, wB, wIfE, wAndT, wOrT, wNotT, wTup, wLst, wSl, dSl, wNoP, wPart, wCall, wCallK, wCallO, wCallP, wDisp, wFrz, wGet1, wGet2, wPut, wNewT, wPar, wgName, wgTup, wgCons, wgNil, wiT, wiL, wiR1, wiZip, wiEnu, wiEnuA, wChain, wYes, wBM, wBM0, slot, allD, wipeS, List.map_cons, List.map_nil, List.set_cons_zero, List.set_cons_succ, List.cons_append, List.nil_append, List.isEmpty_nil, List.isEmpty_cons, Bool.not_true, Bool.not_false, wUn, dNot, dII0, dII, dEqS, dNeS, dIsN, dNotN, dNeg, ends, DL.gLt, DL.gLe, DL.gGt, DL.gGe, DL.gAdd, DL.gSub, DL.gMul, DL.gMod, DL.gDiv, DL.gPow]
      refine call_dk [_] rfl ⟨_, .inr rfl, by show 1 ≤ 4; decide, by show 4 ≤ 1000; decide⟩ hc fun y c1 m1 d1 hy hc1 => ?_
      obtain ⟨g, rfl⟩ : ∃ g : Int, y = .int g := pick_int hy rfl
      try dsimp only [wRet, wAnd, wOr, wUn, wOp, wCa, wCons, wNil, wVar, wC, wSeq, wNext, wPass, wAsg, wExp, wIf, wB, wIfE, wAndT, wOrT, wNotT, wTup, wLst, wSl, dSl, wNoP, wPart, wCall, wCallK, wCallO, wCallP, wDisp, wFrz, wGet1, wGet2, wPut, wNewT, wPar, wgName, wgTup, wgCons, wgNil, wiT, wiL, wiR1, wiZip, wiEnu, wiEnuA, wChain, wYes, wBM, wBM0, slot, allD, wipeS, List.map_cons, List.map_nil, List.set_cons_zero, List.set_cons_succ, List.cons_append, List.nil_append, List.isEmpty_nil, List.isEmpty_cons, Bool.not_true, Bool.not_false, wUn, dNot, dII0, dII, dEqS, dNeS, dIsN, dNotN, dNeg, ends, DL.gLt, DL.gLe, DL.gGt, DL.gGe, DL.gAdd, DL.gSub, DL.gMul, DL.gMod, DL.gDiv, DL.gPow]
      refine ⟨⟨by decide, by decide, by decide⟩, ?_⟩
      refine call_dk [_] rfl ⟨_, rfl, by decide, by decide⟩ hc1 fun y c2 m2 d2 hy hc2 => ?_
      obtain ⟨_, r, _, rfl, _, _⟩ := hy
      try dsimp only [wRet, wAnd, wOr, wUn, wOp, wCa, wCons, wNil, wVar, wC, wSeq, wNext, wPass, wAsg, wExp, wIf, wB, wIfE, wAndT, wOrT, wNotT, wTup, wLst, wSl, dSl, wNoP, wPart, wCall, wCallK, wCallO, wCallP, wDisp, wFrz, wGet1, wGet2, wPut, wNewT, wPar, wgName, wgTup, wgCons, wgNil, wiT, wiL, wiR1, wiZip, wiEnu, wiEnuA, wChain, wYes, wBM, wBM0, slot, allD, wipeS, List.map_cons, List.map_nil, List.set_cons_zero, List.set_cons_succ, List.cons_append, List.nil_append, List.isEmpty_nil, List.isEmpty_cons, Bool.not_true, Bool.not_false, wUn, dNot, dII0, dII, dEqS, dNeS, dIsN, dNotN, dNeg, ends, DL.gLt, DL.gLe, DL.gGt, DL.gGe, DL.gAdd, DL.gSub, DL.gMul, DL.gMod, DL.gDiv, DL.gPow]
      refine call_dk [_] rfl ⟨_, rfl, by decide, by decide⟩ hc2 fun y c3 m3 d3 hy hc3 => ?_
      obtain ⟨_, r2, _, rfl, _, _⟩ := hy
      try dsimp only [wRet, wAnd, wOr, wUn, wOp, wCa, wCons, wNil, wVar, wC, wSeq, wNext, wPass, wAsg, wExp, wIf, wB, wIfE, wAndT, wOrT, wNotT, wTup, wLst, wSl, dSl, wNoP, wPart, wCall, wCallK, wCallO, wCallP, wDisp, wFrz, wGet1, wGet2, wPut, wNewT, wPar, wgName, wgTup, wgCons, wgNil, wiT, wiL, wiR1, wiZip, wiEnu, wiEnuA, wChain, wYes, wBM, wBM0, slot, allD, wipeS, List.map_cons, List.map_nil, List.set_cons_zero, List.set_cons_succ, List.cons_append, List.nil_append, List.isEmpty_nil, List.isEmpty_cons, Bool.not_true, Bool.not_false, wUn, dNot, dII0, dII, dEqS, dNeS, dIsN, dNotN, dNeg, ends, DL.gLt, DL.gLe, DL.gGt, DL.gGe, DL.gAdd, DL.gSub, DL.gMul, DL.gMod, DL.gDiv, DL.gPow]
      try unfold dNeg
      try dsimp only [wRet, wAnd, wOr, wUn, wOp, wCa, wCons, wNil, wVar, wC, wSeq, wNext, wPass, wAsg, wExp, wIf, wB, wIfE, wAndT, wOrT, wNotT, wTup, wLst, wSl, dSl, wNoP, wPart, wCall, wCallK, wCallO, wCallP, wDisp, wFrz, wGet1, wGet2, wPut, wNewT, wPar, wgName, wgTup, wgCons, wgNil, wiT, wiL, wiR1, wiZip, wiEnu, wiEnuA, wChain, wYes, wBM, wBM0, slot, allD, wipeS, List.map_cons, List.map_nil, List.set_cons_zero, List.set_cons_succ, List.cons_append, List.nil_append, List.isEmpty_nil, List.isEmpty_cons, Bool.not_true, Bool.not_false, wUn, dNot, dII0, dII, dEqS, dNeS, dIsN, dNotN, dNeg, ends, DL.gLt, DL.gLe, DL.gGt, DL.gGe, DL.gAdd, DL.gSub, DL.gMul, DL.gMod, DL.gDiv, DL.gPow]
      refine ⟨sz6, ?_⟩
      rw [frz_of [.int (g + r), .int (-(g + r)), .int (r2 - 100), .int L, .int (-L), .int 0] rfl]
      dsimp only
      rw [ren_id (by cases kk <;> rfl)]
      try dsimp only [wRet, wAnd, wOr, wUn, wOp, wCa, wCons, wNil, wVar, wC, wSeq, wNext, wPass, wAsg, wExp, wIf, wB, wIfE, wAndT, wOrT, wNotT, wTup, wLst, wSl, dSl, wNoP, wPart, wCall, wCallK, wCallO, wCallP, wDisp, wFrz, wGet1, wGet2, wPut, wNewT, wPar, wgName, wgTup, wgCons, wgNil, wiT, wiL, wiR1, wiZip, wiEnu, wiEnuA, wChain, wYes, wBM, wBM0, slot, allD, wipeS, List.map_cons, List.map_nil, List.set_cons_zero, List.set_cons_succ, List.cons_append, List.nil_append, List.isEmpty_nil, List.isEmpty_cons, Bool.not_true, Bool.not_false, wUn, dNot, dII0, dII, dEqS, dNeS, dIsN, dNotN, dNeg, ends, DL.gLt, DL.gLe, DL.gGt, DL.gGe, DL.gAdd, DL.gSub, DL.gMul, DL.gMod, DL.gDiv, DL.gPow]
      refine call_dk [_] rfl ⟨_, .inr rfl, by show 1 ≤ 6; decide, by show 6 ≤ 1000; decide⟩ hc3 fun y c4 m4 d4 hy hc4 => ?_
      obtain ⟨k, rfl⟩ : ∃ k : Int, y = .int k := pick_int hy rfl
      try dsimp only [wRet, wAnd, wOr, wUn, wOp, wCa, wCons, wNil, wVar, wC, wSeq, wNext, wPass, wAsg, wExp, wIf, wB, wIfE, wAndT, wOrT, wNotT, wTup, wLst, wSl, dSl, wNoP, wPart, wCall, wCallK, wCallO, wCallP, wDisp, wFrz, wGet1, wGet2, wPut, wNewT, wPar, wgName, wgTup, wgCons, wgNil, wiT, wiL, wiR1, wiZip, wiEnu, wiEnuA, wChain, wYes, wBM, wBM0, slot, allD, wipeS, List.map_cons, List.map_nil, List.set_cons_zero, List.set_cons_succ, List.cons_append, List.nil_append, List.isEmpty_nil, List.isEmpty_cons, Bool.not_true, Bool.not_false, wUn, dNot, dII0, dII, dEqS, dNeS, dIsN, dNotN, dNeg, ends, DL.gLt, DL.gLe, DL.gGt, DL.gGe, DL.gAdd, DL.gSub, DL.gMul, DL.gMod, DL.gDiv, DL.gPow]
      have pd := pc.mv k
      refine call_pur [flD ns tl, plD n i, .int k] (plD n ((i + k) % L)) rfl ⟨ns, tl, n, i, k, rfl, hpl, by rw [pc.g]⟩ ?_
      try dsimp only [wRet, wAnd, wOr, wUn, wOp, wCa, wCons, wNil, wVar, wC, wSeq, wNext, wPass, wAsg, wExp, wIf, wB, wIfE, wAndT, wOrT, wNotT, wTup, wLst, wSl, dSl, wNoP, wPart, wCall, wCallK, wCallO, wCallP, wDisp, wFrz, wGet1, wGet2, wPut, wNewT, wPar, wgName, wgTup, wgCons, wgNil, wiT, wiL, wiR1, wiZip, wiEnu, wiEnuA, wChain, wYes, wBM, wBM0, slot, allD, wipeS, List.map_cons, List.map_nil, List.set_cons_zero, List.set_cons_succ, List.cons_append, List.nil_append, List.isEmpty_nil, List.isEmpty_cons, Bool.not_true, Bool.not_false, wUn, dNot, dII0, dII, dEqS, dNeS, dIsN, dNotN, dNeg, ends, DL.gLt, DL.gLe, DL.gGt, DL.gGe, DL.gAdd, DL.gSub, DL.gMul, DL.gMod, DL.gDiv, DL.gPow]
      refine call_dk [_] rfl ⟨_, rfl, by decide, by decide⟩ hc4 fun y c5 m5 d5 hy hc5 => ?_
      obtain ⟨_, r5, _, rfl, _, _⟩ := hy
      try dsimp only [wRet, wAnd, wOr, wUn, wOp, wCa, wCons, wNil, wVar, wC, wSeq, wNext, wPass, wAsg, wExp, wIf, wB, wIfE, wAndT, wOrT, wNotT, wTup, wLst, wSl, dSl, wNoP, wPart, wCall, wCallK, wCallO, wCallP, wDisp, wFrz, wGet1, wGet2, wPut, wNewT, wPar, wgName, wgTup, wgCons, wgNil, wiT, wiL, wiR1, wiZip, wiEnu, wiEnuA, wChain, wYes, wBM, wBM0, slot, allD, wipeS, List.map_cons, List.map_nil, List.set_cons_zero, List.set_cons_succ, List.cons_append, List.nil_append, List.isEmpty_nil, List.isEmpty_cons, Bool.not_true, Bool.not_false, wUn, dNot, dII0, dII, dEqS, dNeS, dIsN, dNotN, dNeg, ends, DL.gLt, DL.gLe, DL.gGt, DL.gGe, DL.gAdd, DL.gSub, DL.gMul, DL.gMod, DL.gDiv, DL.gPow]
      refine call_pur [flD ns tl, plD n i, .int k] (plD n ((i + k) % L)) rfl ⟨ns, tl, n, i, k, rfl, hf, hpl, by rw [pc.g]⟩ ?_
      try dsimp only [wRet, wAnd, wOr, wUn, wOp, wCa, wCons, wNil, wVar, wC, wSeq, wNext, wPass, wAsg, wExp, wIf, wB, wIfE, wAndT, wOrT, wNotT, wTup, wLst, wSl, dSl, wNoP, wPart, wCall, wCallK, wCallO, wCallP, wDisp, wFrz, wGet1, wGet2, wPut, wNewT, wPar, wgName, wgTup, wgCons, wgNil, wiT, wiL, wiR1, wiZip, wiEnu, wiEnuA, wChain, wYes, wBM, wBM0, slot, allD, wipeS, List.map_cons, List.map_nil, List.set_cons_zero, List.set_cons_succ, List.cons_append, List.nil_append, List.isEmpty_nil, List.isEmpty_cons, Bool.not_true, Bool.not_false, wUn, dNot, dII0, dII, dEqS, dNeS, dIsN, dNotN, dNeg, ends, DL.gLt, DL.gLe, DL.gGt, DL.gGe, DL.gAdd, DL.gSub, DL.gMul, DL.gMod, DL.gDiv, DL.gPow]
      refine ⟨rfl, ?_⟩
      refine call_pur [flD ns tl, plD n i, .int k] (plD n ((i + k) % L)) rfl ⟨ns, tl, n, i, k, rfl, hf, hpl, by rw [pc.g]⟩ ?_
      try dsimp only [wRet, wAnd, wOr, wUn, wOp, wCa, wCons, wNil, wVar, wC, wSeq, wNext, wPass, wAsg, wExp, wIf, wB, wIfE, wAndT, wOrT, wNotT, wTup, wLst, wSl, dSl, wNoP, wPart, wCall, wCallK, wCallO, wCallP, wDisp, wFrz, wGet1, wGet2, wPut, wNewT, wPar, wgName, wgTup, wgCons, wgNil, wiT, wiL, wiR1, wiZip, wiEnu, wiEnuA, wChain, wYes, wBM, wBM0, slot, allD, wipeS, List.map_cons, List.map_nil, List.set_cons_zero, List.set_cons_succ, List.cons_append, List.nil_append, List.isEmpty_nil, List.isEmpty_cons, Bool.not_true, Bool.not_false, wUn, dNot, dII0, dII, dEqS, dNeS, dIsN, dNotN, dNeg, ends, DL.gLt, DL.gLe, DL.gGt, DL.gGe, DL.gAdd, DL.gSub, DL.gMul, DL.gMod, DL.gDiv, DL.gPow]
      refine ⟨sz2, ?_⟩
      refine ⟨shows_two pd.sh pd.sh, ?_⟩
      try dsimp only [wRet, wAnd, wOr, wUn, wOp, wCa, wCons, wNil, wVar, wC, wSeq, wNext, wPass, wAsg, wExp, wIf, wB, wIfE, wAndT, wOrT, wNotT, wTup, wLst, wSl, dSl, wNoP, wPart, wCall, wCallK, wCallO, wCallP, wDisp, wFrz, wGet1, wGet2, wPut, wNewT, wPar, wgName, wgTup, wgCons, wgNil, wiT, wiL, wiR1, wiZip, wiEnu, wiEnuA, wChain, wYes, wBM, wBM0, slot, allD, wipeS, List.map_cons, List.map_nil, List.set_cons_zero, List.set_cons_succ, List.cons_append, List.nil_append, List.isEmpty_nil, List.isEmpty_cons, Bool.not_true, Bool.not_false, wUn, dNot, dII0, dII, dEqS, dNeS, dIsN, dNotN, dNeg, ends, DL.gLt, DL.gLe, DL.gGt, DL.gGe, DL.gAdd, DL.gSub, DL.gMul, DL.gMod, DL.gDiv, DL.gPow]
      refine ⟨sz2, ?_⟩
      refine ⟨shows_two pd.sh pd.sh, ?_⟩
      try dsimp only [wRet, wAnd, wOr, wUn, wOp, wCa, wCons, wNil, wVar, wC, wSeq, wNext, wPass, wAsg, wExp, wIf, wB, wIfE, wAndT, wOrT, wNotT, wTup, wLst, wSl, dSl, wNoP, wPart, wCall, wCallK, wCallO, wCallP, wDisp, wFrz, wGet1, wGet2, wPut, wNewT, wPar, wgName, wgTup, wgCons, wgNil, wiT, wiL, wiR1, wiZip, wiEnu, wiEnuA, wChain, wYes, wBM, wBM0, slot, allD, wipeS, List.map_cons, List.map_nil, List.set_cons_zero, List.set_cons_succ, List.cons_append, List.nil_append, List.isEmpty_nil, List.isEmpty_cons, Bool.not_true, Bool.not_false, wUn, dNot, dII0, dII, dEqS, dNeS, dIsN, dNotN, dNeg, ends, DL.gLt, DL.gLe, DL.gGt, DL.gGe, DL.gAdd, DL.gSub, DL.gMul, DL.gMod, DL.gDiv, DL.gPow]
      rw [decide_eq_true rfl]
      try dsimp only [wRet, wAnd, wOr, wUn, wOp, wCa, wCons, wNil, wVar, wC, wSeq, wNext, wPass, wAsg, wExp, wIf, wB, wIfE, wAndT, wOrT, wNotT, wTup, wLst, wSl, dSl, wNoP, wPart, wCall, wCallK, wCallO, wCallP, wDisp, wFrz, wGet1, wGet2, wPut, wNewT, wPar, wgName, wgTup, wgCons, wgNil, wiT, wiL, wiR1, wiZip, wiEnu, wiEnuA, wChain, wYes, wBM, wBM0, slot, allD, wipeS, List.map_cons, List.map_nil, List.set_cons_zero, List.set_cons_succ, List.cons_append, List.nil_append, List.isEmpty_nil, List.isEmpty_cons, Bool.not_true, Bool.not_false, wUn, dNot, dII0, dII, dEqS, dNeS, dIsN, dNotN, dNeg, ends, DL.gLt, DL.gLe, DL.gGt, DL.gGe, DL.gAdd, DL.gSub, DL.gMul, DL.gMod, DL.gDiv, DL.gPow]
      have pe := pd.mv (r5 - 49)
      refine call_pur [flD ns tl, plD n ((i + k) % L), .int (r5 - 49)] (plD n (((i + k) % L + (r5 - 49)) % L)) rfl ⟨ns, tl, n, _, _, rfl, hf, pd.pl, by rw [pc.g]⟩ ?_
      refine ⟨pe.sh.shows (by decide) (by decide), ?_⟩
      try dsimp only [wRet, wAnd, wOr, wUn, wOp, wCa, wCons, wNil, wVar, wC, wSeq, wNext, wPass, wAsg, wExp, wIf, wB, wIfE, wAndT, wOrT, wNotT, wTup, wLst, wSl, dSl, wNoP, wPart, wCall, wCallK, wCallO, wCallP, wDisp, wFrz, wGet1, wGet2, wPut, wNewT, wPar, wgName, wgTup, wgCons, wgNil, wiT, wiL, wiR1, wiZip, wiEnu, wiEnuA, wChain, wYes, wBM, wBM0, slot, allD, wipeS, List.map_cons, List.map_nil, List.set_cons_zero, List.set_cons_succ, List.cons_append, List.nil_append, List.isEmpty_nil, List.isEmpty_cons, Bool.not_true, Bool.not_false, wUn, dNot, dII0, dII, dEqS, dNeS, dIsN, dNotN, dNeg, ends, DL.gLt, DL.gLe, DL.gGt, DL.gGe, DL.gAdd, DL.gSub, DL.gMul, DL.gMod, DL.gDiv, DL.gPow]
      refine ⟨hL, ?_⟩
      try unfold dInt
      try dsimp only [wRet, wAnd, wOr, wUn, wOp, wCa, wCons, wNil, wVar, wC, wSeq, wNext, wPass, wAsg, wExp, wIf, wB, wIfE, wAndT, wOrT, wNotT, wTup, wLst, wSl, dSl, wNoP, wPart, wCall, wCallK, wCallO, wCallP, wDisp, wFrz, wGet1, wGet2, wPut, wNewT, wPar, wgName, wgTup, wgCons, wgNil, wiT, wiL, wiR1, wiZip, wiEnu, wiEnuA, wChain, wYes, wBM, wBM0, slot, allD, wipeS, List.map_cons, List.map_nil, List.set_cons_zero, List.set_cons_succ, List.cons_append, List.nil_append, List.isEmpty_nil, List.isEmpty_cons, Bool.not_true, Bool.not_false, wUn, dNot, dII0, dII, dEqS, dNeS, dIsN, dNotN, dNeg, ends, DL.gLt, DL.gLe, DL.gGt, DL.gGe, DL.gAdd, DL.gSub, DL.gMul, DL.gMod, DL.gDiv, DL.gPow]
      refine call_pur [flD ns tl, plD n i, .int ((k + (r5 - 49)) % L)] (plD n (((i + k) % L + (r5 - 49)) % L)) rfl ⟨ns, tl, n, i, _, rfl, hf, hpl, by rw [pc.g, Int.emod_add_emod, Int.add_emod_emod, Int.add_assoc]⟩ ?_
      refine ⟨pe.sh.shows (by decide) (by decide), ?_⟩
      try dsimp only [wRet, wAnd, wOr, wUn, wOp, wCa, wCons, wNil, wVar, wC, wSeq, wNext, wPass, wAsg, wExp, wIf, wB, wIfE, wAndT, wOrT, wNotT, wTup, wLst, wSl, dSl, wNoP, wPart, wCall, wCallK, wCallO, wCallP, wDisp, wFrz, wGet1, wGet2, wPut, wNewT, wPar, wgName, wgTup, wgCons, wgNil, wiT, wiL, wiR1, wiZip, wiEnu, wiEnuA, wChain, wYes, wBM, wBM0, slot, allD, wipeS, List.map_cons, List.map_nil, List.set_cons_zero, List.set_cons_succ, List.cons_append, List.nil_append, List.isEmpty_nil, List.isEmpty_cons, Bool.not_true, Bool.not_false, wUn, dNot, dII0, dII, dEqS, dNeS, dIsN, dNotN, dNeg, ends, DL.gLt, DL.gLe, DL.gGt, DL.gGe, DL.gAdd, DL.gSub, DL.gMul, DL.gMod, DL.gDiv, DL.gPow]
      rw [decide_eq_true rfl]
      exact hR _ c5 m5 d5 _ rfl hc5
end K02
end

section
set_option Elab.async false
set_option linter.all false
set_option maxRecDepth 100000
set_option maxHeartbeats 1000000
set_option autoImplicit false
namespace K02
open PySem PySem.Spec PyProof.Rows L2 DL
theorem lc_inv {wi : WI} {wg : WG} {wt : WT} {we : WE} {vs : List Nat} {ρ : S} {Q : QD} {X : QX} (xs : List PyData) (ρ1 : S) (I : Nat → List OB → List PyData → Prop) (hi : ∀ C : List PyData → S → Prop, C xs ρ1 → wi ρ C X) (h0 : I 0 ρ1.ob [])
    (hs : ∀ (i : Nat) (x : PyData) (ob : List OB) (acc : List PyData), xs[i]? = some x → I i ob acc → ob.length = ρ1.ob.length → wg (.d x) ⟨wipeS ρ1.sl vs, ob ++ [.lst (acc.map .d)]⟩ fun ρ2 => wt ρ2 (fun b ρ3 => match b with
    | true => we ρ3 (fun y ρ4 => acc.length < sizeLine ∧ ∃ (dy : PyData) (ob' ex : List OB), y = .d dy ∧ ρ4.ob = ob' ++ .lst (acc.map .d) :: ex ∧ ob'.length = ρ1.ob.length ∧ (ex = [] ∨ ob'.all (belB (ob'.length + 1)) = true) ∧ I (i + 1) ob' (acc ++ [dy])) X0
    | false => ∃ (ob' : List OB), ρ3.ob = ob' ++ [.lst (acc.map .d)] ∧ ob'.length = ρ1.ob.length ∧ I (i + 1) ob' acc) X0)
    (he : ∀ (ob : List OB) (acc : List PyData), I xs.length ob acc → ob.length = ρ1.ob.length → Q (.o ob.length) ⟨ρ1.sl, ob ++ [.lst (acc.map .d)]⟩) : wLc wi wg wt we vs ρ Q X := hi _ ⟨I, h0, hs, he⟩
theorem ren_data (is : List Nat) : ∀ l : List PyData, (l.map DV.d).map (renV is) = l.map DV.d
  | [] => rfl
  | x :: r => by
    show DV.d x :: (r.map DV.d).map (renV is) = DV.d x :: r.map DV.d
    rw [ren_data is r]
theorem in_data (is : List Nat) : ∀ l : List PyData, (l.map DV.d).all (inV is) = true
  | [] => rfl
  | x :: r => by
    show (true && (r.map DV.d).all (inV is)) = true
    rw [in_data is r]
    rfl
theorem pick_deck (c : List Int) (m : Int) (x y : OB) : pickB [1, 4] [.gone, .dk [(.inr "cells", .o 4), (.inr "mixed", .d (.int m)), (.inr "draws", .d (.int 0))], x, y, cellsO c] = [deckO m 0, cellsO c] := by
  show [deckO m 0, OB.lst (((c.map PyData.int).map DV.d).map (renV [1, 4]))] = _
  rw [ren_data]
  rfl
theorem in_deck (c : List Int) (m : Int) (x y : OB) : ∀ i ∈ [1, 4], inB [1, 4] (([.gone, .dk [(.inr "cells", .o 4), (.inr "mixed", .d (.int m)), (.inr "draws", .d (.int 0))], x, y, cellsO c] : List OB).getD i .gone) = true := by
  intro i hi
  simp only [List.mem_cons, List.not_mem_nil, or_false] at hi
  rcases hi with rfl | rfl
  · rfl
  · exact in_data [1, 4] (c.map .int)
theorem tkeys_tab : ∀ l : Tab, tkeys ((l.map fun p => PyData.tuple (p.1.map kP)).zip (l.map (·.2))) = some (l.map (·.1))
  | [] => rfl
  | p :: r => by
    show (match tkey (.tuple (p.1.map kP)), tkeys ((r.map fun p => PyData.tuple (p.1.map kP)).zip (r.map (·.2))) with | some k, some l => some (k :: l) | _, _ => none) = _
    rw [tkey_kP, tkeys_tab r]
    rfl
theorem keys_dt (l : Tab) : keysT (dtD l) = some (l.map (·.1)) := tkeys_tab l
/-- the places that have a partner, in order, are the sorted keys -/
theorem keys_sorted {ns : List Int} {tl : List Tc} (hv : VF ns tl) : srtK ((tl.flatMap sd).map kK) = ((spI 0 ns).filter fun p => (mateI tl p).isSome).map plP := by
  unfold srtK
  have e1 : ((tl.flatMap sd).mergeSort (PySem.W.dataLe false plP)).map kK = ((tl.flatMap sd).map kK).mergeSort (PySem.W.dataLe false tupP) := List.map_mergeSort fun a _ b _ => rfl
  rw [← e1, List.map_map]
  have e2 : (tupP ∘ kK) = plP := rfl
  rw [e2]
  congr 1
  have pm := List.mergeSort_perm (tl.flatMap sd) (PySem.W.dataLe false plP)
  have pw := List.pairwise_mergeSort (le_trans' plP) (le_total' plP) (tl.flatMap sd)
  have nd : ((tl.flatMap sd).mergeSort (PySem.W.dataLe false plP)).Nodup := pm.nodup_iff.mpr hv.nd
  have p1' : ((tl.flatMap sd).mergeSort (PySem.W.dataLe false plP)).Pairwise ltI := (pw.and nd).imp fun {a b} ⟨h1, h2⟩ => by
    have h1 : (!PySem.W.dataLt (plP b) (plP a)) = true := h1
    rw [lt_pl] at h1
    refine (ltI_tri h2).resolve_right fun z => ?_
    rw [decide_eq_true z] at h1
    cases h1
  have p2' : ((spI 0 ns).filter fun p => (mateI tl p).isSome).Pairwise ltI := (asc_spI ns 0).sublist List.filter_sublist
  have nd2 : ((spI 0 ns).filter fun p => (mateI tl p).isSome).Nodup := p2'.imp ltI_ne
  refine List.Perm.eq_of_pairwise (le := ltI) (fun a b _ _ h1 h2 => ?_) p1' p2' ((List.perm_ext_iff_of_nodup nd nd2).mpr fun a => ?_)
  · exfalso
    unfold ltI at h1 h2
    omega
  · rw [pm.mem_iff, List.mem_filter, mate_mem]
    exact ⟨fun h => ⟨hv.mem a h, h⟩, fun h => h.2⟩
theorem canLay_pl : ∀ l : List (Int × Int), PyData.canLayAll0 (l.map plP) = true
  | [] => rfl
  | p :: r => by simp [PyData.canLayAll0, plP, plD, PyData.canLay0, canLay_pl r]
theorem depth_pls : ∀ l : List (Int × Int), PyData.depthAll (l.map plP) ≤ 1
  | [] => Nat.zero_le _
  | p :: r => by
    have := depth_pls r
    have e : (plP p).depth = 1 := by simp [plP, plD, PyData.depth, PyData.depthAll]
    simp only [List.map_cons, PyData.depthAll, e]
    omega
theorem eqs_pls (l : List (Int × Int)) : Eqs (.list (l.map plP)) := by
  refine ⟨by simpa [PyData.hasDict] using noDict_map dict_pl l, ?_⟩
  unfold SeqAt.shaped
  have := depth_pls l
  simp only [PyData.canLay0, canLay_pl l, PyData.depth, Bool.true_and, decide_eq_true_eq]
  exact decide_eq_true (by omega)
theorem eqv_pls (l : List (Int × Int)) : PyData.eqv (.list (l.map plP)) (.list (l.map plP)) = true := by
  refine PySem.W.eqv_refl_alike _ ?_
  have : PySem.W.alikeAll (l.map plP) (l.map plP) = true := by
    induction l with
    | nil => rfl
    | cons p r ih => simp [PySem.W.alikeAll, alike_pl, ih]
  simpa [PySem.W.alike] using this
theorem spots_get {ns : List Int} {k : Nat} {p : Int × Int} (h : (spI 0 ns)[k]? = some p) : (spots ns)[k]? = some (plP p) := by
  rw [spots_eq, List.getElem?_map, h]
  rfl
theorem shows_spots {ns : List Int} (h : RG ns) : Shows (.tuple [.tuple (spots ns), .tuple (spots ns)]) := by
  have hl : (spots ns).length ≤ 40 := by have := h.spl; have := h.sum; omega
  have s1 : Sh 680 2 (.tuple (spots ns)) := (sh_tup (w := 16) (k := 1) (xs := spots ns) fun x hx => by
    rw [spots_eq] at hx
    obtain ⟨⟨u, i⟩, hp, rfl⟩ := List.mem_map.mp hx
    obtain ⟨n, L, rfl, pc⟩ := pc_of h hp
    exact pc.sh).mono (by omega) (by decide)
  exact (sh_tup (xs := [.tuple (spots ns), .tuple (spots ns)]) fun x hx => by
    rcases List.mem_cons.mp hx with rfl | hx
    · exact s1
    · rw [List.mem_singleton.mp hx]
      exact s1).shows (by show (680 + 1) * 2 ≤ 1000000; decide) (by decide)
theorem ren10 {k : Nat} {X s a f sp pt : PyData} {b : Option PyData} (h : k ≠ 0) : List.map (ren k X) [some (.d s), some (.o 0), some (.d a), some (.d f), some (.d sp), some (.d pt), some (.o k), b.map .d, none, none] = [some (.d s), some (.o 0), some (.d a), some (.d f), some (.d sp), some (.d pt), some (.d X), b.map .d, none, none] := by
  have h0 : ren k X (some (.o 0)) = some (.o 0) := by
    show (if 0 = k then some (DV.d X) else some (.o 0)) = _
    rw [if_neg (Ne.symm h)]
  have h1 : ren k X (some (.o k)) = some (.d X) := by
    show (if k = k then some (DV.d X) else some (.o k)) = _
    rw [if_pos rfl]
  have h2 : ∀ a : Option PyData, ren k X (a.map .d) = a.map .d := fun a => by cases a <;> rfl
  simp only [List.map_cons, List.map_nil, h0, h1, h2]
  rfl
theorem filter_take {α : Type} (q : α → Bool) {l : List α} {i : Nat} {x : α} (h : l[i]? = some x) : (l.take (i + 1)).filter q = (l.take i).filter q ++ (if q x then [x] else []) := by
  rw [List.take_succ, h, List.filter_append]
  show _ ++ [x].filter q = _
  cases hq : q x <;> simp [hq]
def sp_law : DSp := fun dvs ob R _ => ∃ ns : List Int, dvs = [.d (.list (ns.map .int))] ∧ ns.length ≤ 63 ∧ ob = [] ∧ ∀ ob', R (.d (.bool true)) ob'
theorem law_len : ∀ (ys : List DV) (ob : List OB) (R : DV → List OB → Prop) (X : XD → List OB → Prop), sp_law ys ob R X → ys.length = 1 := by
  rintro ys ob R X ⟨ns, rfl, _⟩
  rfl
theorem ok_law {P : Program} {w0 : World} {K : PySem.W.Frag} {mg : Str → Option Value} {base : Heap} (b : BI mg) (h : Hd K mg "law" s_law nP_law) (c_law_deck : DefG P w0 K mg base 1 "_law_deck" s_law_deck nP_law_deck sp_law_deck) (c_law_draw : DefG P w0 K mg base 1 "_law_draw" s_law_draw nP_law_draw sp_law_draw) (c_law_floor : DefG P w0 K mg base 4 "_law_floor" s_law_floor nP_law_floor sp_law_floor) (c_law_is_place_right : DefG P w0 K mg base 10 "_law_is_place_right" s_law_is_place_right nP_law_is_place_right sp_law_is_place_right) (c_law_partners : DefG P w0 K mg base 1 "_law_partners" s_law_partners nP_law_partners sp_law_partners) (c_law_spots : DefG P w0 K mg base 1 "_law_spots" s_law_spots nP_law_spots sp_law_spots) (c_law_wide_floor : DefG P w0 K mg base 3 "_law_wide_floor" s_law_wide_floor nP_law_wide_floor sp_law_wide_floor) (c_partner : DefG P w0 K mg base 9 "partner" s_partner nP_partner sp_partner) (c_places : DefG P w0 K mg base 7 "places" s_places nP_places sp_places) : DefG P w0 K mg base 11 "law" s_law nP_law sp_law := by
  refine mk_def h sc_law law_len (pdss_cons (pds_set 1 (pd_callP [1, 4] (c_law_deck.to) rfl (pda_cons (pd_var 0) pda_nil)))
  (pdss_cons (pds_for (pdi_range1 (pda_cons pd_int pda_nil) rfl b.range) (pdg_name 2) (pdss_cons (pds_set 3 (pd_ifE (pdt_cmpD cd_eqS (pd_call 2 (c_law_draw.to) rfl (pda_cons (pd_var 1) (pda_cons pd_int pda_nil))) pd_int) (pd_call 2 (c_law_wide_floor.to) rfl (pda_cons (pd_var 1) pda_nil)) (pd_call 2 (c_law_floor.to) rfl (pda_cons (pd_var 1) (pda_cons pd_int pda_nil)))))
  (pdss_cons (pds_asgS (pd_tup (pda_cons (pd_call 0 (c_law_spots.to) rfl (pda_cons (pd_ix (pd_var 3) pd_int) pda_nil)) (pda_cons (pd_call 0 (c_law_partners.to) rfl (pda_cons (pd_var 3) pda_nil)) pda_nil))) (pdg_tup (n := 2) (pdgs_cons (pdg_name 4) (pdgs_cons (pdg_name 5) pdgs_nil))) (fun env e => by cases env; cases e; rfl))
  (pdss_cons (pds_if (pdt_cmpD cd_neS (pd_repr rfl b.repr_ (pda_cons (pd_tup (pda_cons (pd_call 0 (c_places.to) rfl (pda_cons (pd_var 3) pda_nil)) (pda_cons (pd_callK (ks := ["floor"]) 0 [0] (c_places.to) rfl (pdk_cons (pd_var 3) pdk_nil) (fun _ _ _ _ _ _ us hl => match us, hl with | [_], _ => rfl)) pda_nil))) pda_nil)) (pd_repr rfl b.repr_ (pda_cons (pd_repT (pd_tup (pda_cons (pd_tuple rfl b.tuple_ (pda_cons (pd_var 4) pda_nil)) pda_nil)) pd_int) pda_nil))) (pdss_one (pds_ret pd_bl)) pdss_nil)
  (pdss_cons (pds_set 6 (pd_ifE (pdt_cmpD cd_lt (pd_len rfl b.len (pda_cons (pd_var 4) pda_nil)) pd_int) (pd_listRg (pd_len rfl b.len (pda_cons (pd_var 4) pda_nil)) rfl b.range rfl b.list_) (pd_lc (own := [("_law_more", 8)]) (pdi_range1 (pda_cons pd_int pda_nil) rfl b.range) (blkOk_by (own := [("_law_more", 8)]) (N := nN_law) (sc := defScope s_law) (by decide +kernel)) (pdg_name 8) pdts_nil (pd_call 2 (c_law_draw.toB) rfl (pda_cons (pd_var 1) (pda_cons (pd_len rfl b.len (pda_cons (pd_var 4) pda_nil)) pda_nil))))))
  (pdss_cons (pds_for (pdi_list (pd_frz (pd_var 6))) (pdg_name 7) (pdss_one (pds_if (pdt_not (pdt_val (pd_call 2 (c_law_is_place_right.to) rfl (pda_cons (pd_var 1) (pda_cons (pd_var 3) (pda_cons (pd_ix (pd_var 4) (pd_var 7)) (pda_cons (pd_var 7) (pda_cons (pd_var 5) pda_nil)))))))) (pdss_one (pds_ret pd_bl)) pdss_nil)))
  (pdss_one (pds_if (pdt_neSd (pd_lc (own := [("_law_place", 9)]) (pdi_list (pd_var 4)) (blkOk_by (own := [("_law_place", 9)]) (N := nN_law) (sc := defScope s_law) (by decide +kernel)) (pdg_name 9) (pdts_one (pdt_cmpD cd_notN (pd_call 0 (c_partner.toB) rfl (pda_cons (pd_var 3) (pda_cons (pd_var 9) pda_nil))) pd_non)) (pd_var 9)) (pd_var 5) rfl b.sorted) (pdss_one (pds_ret pd_bl)) pdss_nil))))))))
  (pdss_one (pds_ret pd_bl)))) ?_
  rintro dvs ob R X ⟨ss, rfl, hss, rfl, hR⟩ sl e1
  have e1 : [some (.d (.list (ss.map .int))), none, none, none, none, none, none, none, none, none] = sl := e1
  subst e1
  try dsimp only [wRet, wAnd, wOr, wUn, wOp, wCa, wCons, wNil, wVar, wC, wSeq, wNext, wPass, wAsg, wExp, wIf, wB, wIfE, wAndT, wOrT, wNotT, wTup, wLst, wSl, dSl, wNoP, wPart, wCall, wCallK, wCallO, wCallP, wDisp, wFrz, wGet1, wGet2, wPut, wNewT, wPar, wgName, wgTup, wgCons, wgNil, wiT, wiL, wiR1, wiZip, wiEnu, wiEnuA, wChain, wYes, wBM, wBM0, slot, allD, wipeS, List.map_cons, List.map_nil, List.set_cons_zero, List.set_cons_succ, List.cons_append, List.nil_append, List.isEmpty_nil, List.isEmpty_cons, Bool.not_true, Bool.not_false, wUn, dNot, dII0, dII, dEqS, dNeS, dIsN, dNotN, dNeg, ends, DL.gLt, DL.gLe, DL.gGt, DL.gGe, DL.gAdd, DL.gSub, DL.gMul, DL.gMod, DL.gDiv, DL.gPow]
  refine ⟨rfl, rfl, ss, rfl, hss, rfl, fun c m x y hc => ⟨by decide, (fun i hi => by simp only [List.mem_cons, List.not_mem_nil, or_false] at hi; rcases hi with rfl | rfl; exact (by show 1 < 5; decide); exact (by show 4 < 5; decide)), in_deck c m x y, rfl, ?_⟩⟩
  rw [pick_deck, show renV [1, 4] (.o 1) = .o 0 from rfl]
  try dsimp only [wRet, wAnd, wOr, wUn, wOp, wCa, wCons, wNil, wVar, wC, wSeq, wNext, wPass, wAsg, wExp, wIf, wB, wIfE, wAndT, wOrT, wNotT, wTup, wLst, wSl, dSl, wNoP, wPart, wCall, wCallK, wCallO, wCallP, wDisp, wFrz, wGet1, wGet2, wPut, wNewT, wPar, wgName, wgTup, wgCons, wgNil, wiT, wiL, wiR1, wiZip, wiEnu, wiEnuA, wChain, wYes, wBM, wBM0, slot, allD, wipeS, List.map_cons, List.map_nil, List.set_cons_zero, List.set_cons_succ, List.cons_append, List.nil_append, List.isEmpty_nil, List.isEmpty_cons, Bool.not_true, Bool.not_false, wUn, dNot, dII0, dII, dEqS, dNeS, dIsN, dNotN, dNeg, ends, DL.gLt, DL.gLe, DL.gGt, DL.gGe, DL.gAdd, DL.gSub, DL.gMul, DL.gMod, DL.gDiv, DL.gPow]
  refine for_in (rng 0 3) ⟨[some (.d (.list (ss.map .int))), some (.o 0), none, none, none, none, none, none, none, none], [deckO m 0, cellsO c]⟩
    (fun i ρ' => ∃ (c' : List Int) (m' d' : Int) (rest : List OB) (a2 a3 a4 a5 a6 a7 : Option PyData), c'.length ≤ 63 ∧ ρ' = ⟨[some (.d (.list (ss.map .int))), some (.o 0), a2.map .d, a3.map .d, a4.map .d, a5.map .d, a6.map .d, a7.map .d, none, none], deckO m' d' :: cellsO c' :: rest⟩) (fun C h => ⟨by unfold RgB; decide, h⟩) ⟨c, m, 0, [], none, none, none, none, none, none, hc, rfl⟩ ?_ ?_
  · rintro i x ρ' hx ⟨c', m', d', rest, a2, a3, a4, a5, a6, a7, hc', rfl⟩
    try dsimp only [wRet, wAnd, wOr, wUn, wOp, wCa, wCons, wNil, wVar, wC, wSeq, wNext, wPass, wAsg, wExp, wIf, wB, wIfE, wAndT, wOrT, wNotT, wTup, wLst, wSl, dSl, wNoP, wPart, wCall, wCallK, wCallO, wCallP, wDisp, wFrz, wGet1, wGet2, wPut, wNewT, wPar, wgName, wgTup, wgCons, wgNil, wiT, wiL, wiR1, wiZip, wiEnu, wiEnuA, wChain, wYes, wBM, wBM0, slot, allD, wipeS, List.map_cons, List.map_nil, List.set_cons_zero, List.set_cons_succ, List.cons_append, List.nil_append, List.isEmpty_nil, List.isEmpty_cons, Bool.not_true, Bool.not_false, wUn, dNot, dII0, dII, dEqS, dNeS, dIsN, dNotN, dNeg, ends, DL.gLt, DL.gLe, DL.gGt, DL.gGe, DL.gAdd, DL.gSub, DL.gMul, DL.gMod, DL.gDiv, DL.gPow]
    refine call_dk [_] rfl ⟨_, rfl, by decide, by decide⟩ hc' fun y c1 m1 d1 hy hc1 => ?_
    obtain ⟨_, r, _, rfl, _, _⟩ := hy
    try dsimp only [wRet, wAnd, wOr, wUn, wOp, wCa, wCons, wNil, wVar, wC, wSeq, wNext, wPass, wAsg, wExp, wIf, wB, wIfE, wAndT, wOrT, wNotT, wTup, wLst, wSl, dSl, wNoP, wPart, wCall, wCallK, wCallO, wCallP, wDisp, wFrz, wGet1, wGet2, wPut, wNewT, wPar, wgName, wgTup, wgCons, wgNil, wiT, wiL, wiR1, wiZip, wiEnu, wiEnuA, wChain, wYes, wBM, wBM0, slot, allD, wipeS, List.map_cons, List.map_nil, List.set_cons_zero, List.set_cons_succ, List.cons_append, List.nil_append, List.isEmpty_nil, List.isEmpty_cons, Bool.not_true, Bool.not_false, wUn, dNot, dII0, dII, dEqS, dNeS, dIsN, dNotN, dNeg, ends, DL.gLt, DL.gLe, DL.gGt, DL.gGe, DL.gAdd, DL.gSub, DL.gMul, DL.gMod, DL.gDiv, DL.gPow]
    by_cases hr0 : r = 0
    · rw [decide_eq_true hr0]
      try dsimp only [wRet, wAnd, wOr, wUn, wOp, wCa, wCons, wNil, wVar, wC, wSeq, wNext, wPass, wAsg, wExp, wIf, wB, wIfE, wAndT, wOrT, wNotT, wTup, wLst, wSl, dSl, wNoP, wPart, wCall, wCallK, wCallO, wCallP, wDisp, wFrz, wGet1, wGet2, wPut, wNewT, wPar, wgName, wgTup, wgCons, wgNil, wiT, wiL, wiR1, wiZip, wiEnu, wiEnuA, wChain, wYes, wBM, wBM0, slot, allD, wipeS, List.map_cons, List.map_nil, List.set_cons_zero, List.set_cons_succ, List.cons_append, List.nil_append, List.isEmpty_nil, List.isEmpty_cons, Bool.not_true, Bool.not_false, wUn, dNot, dII0, dII, dEqS, dNeS, dIsN, dNotN, dNeg, ends, DL.gLt, DL.gLe, DL.gGt, DL.gGe, DL.gAdd, DL.gSub, DL.gMul, DL.gMod, DL.gDiv, DL.gPow]
      refine call_dk [] rfl trivial hc1 fun y c3 m3 d3 hy hc3 => ?_
      obtain ⟨ns, tl, rfl, hv⟩ := hy
      have hf := hv.fl
      have hsm := hv.rg.small
      have hN : (spots ns).length = (spI 0 ns).length := by rw [spots_eq, List.length_map]
      have h40 : (spots ns).length ≤ 40 := by have := hv.rg.spl; have := hv.rg.sum; omega
      try dsimp only [wRet, wAnd, wOr, wUn, wOp, wCa, wCons, wNil, wVar, wC, wSeq, wNext, wPass, wAsg, wExp, wIf, wB, wIfE, wAndT, wOrT, wNotT, wTup, wLst, wSl, dSl, wNoP, wPart, wCall, wCallK, wCallO, wCallP, wDisp, wFrz, wGet1, wGet2, wPut, wNewT, wPar, wgName, wgTup, wgCons, wgNil, wiT, wiL, wiR1, wiZip, wiEnu, wiEnuA, wChain, wYes, wBM, wBM0, slot, allD, wipeS, List.map_cons, List.map_nil, List.set_cons_zero, List.set_cons_succ, List.cons_append, List.nil_append, List.isEmpty_nil, List.isEmpty_cons, Bool.not_true, Bool.not_false, wUn, dNot, dII0, dII, dEqS, dNeS, dIsN, dNotN, dNeg, ends, DL.gLt, DL.gLe, DL.gGt, DL.gGe, DL.gAdd, DL.gSub, DL.gMul, DL.gMod, DL.gDiv, DL.gPow]
      refine u_ix (z := .tuple (ns.map .int)) rfl ?_
      refine call_pur0 [.tuple (ns.map .int)] (.list (spots ns)) rfl ⟨ns, .inl rfl, hsm, rfl⟩ ?_
      try dsimp only [wRet, wAnd, wOr, wUn, wOp, wCa, wCons, wNil, wVar, wC, wSeq, wNext, wPass, wAsg, wExp, wIf, wB, wIfE, wAndT, wOrT, wNotT, wTup, wLst, wSl, dSl, wNoP, wPart, wCall, wCallK, wCallO, wCallP, wDisp, wFrz, wGet1, wGet2, wPut, wNewT, wPar, wgName, wgTup, wgCons, wgNil, wiT, wiL, wiR1, wiZip, wiEnu, wiEnuA, wChain, wYes, wBM, wBM0, slot, allD, wipeS, List.map_cons, List.map_nil, List.set_cons_zero, List.set_cons_succ, List.cons_append, List.nil_append, List.isEmpty_nil, List.isEmpty_cons, Bool.not_true, Bool.not_false, wUn, dNot, dII0, dII, dEqS, dNeS, dIsN, dNotN, dNeg, ends, DL.gLt, DL.gLe, DL.gGt, DL.gGe, DL.gAdd, DL.gSub, DL.gMul, DL.gMod, DL.gDiv, DL.gPow]
      refine call_pur [flD ns tl] (dtD (parP tl)) rfl ⟨ns, tl, rfl, hf.fw31, rfl⟩ ?_
      try dsimp only [wRet, wAnd, wOr, wUn, wOp, wCa, wCons, wNil, wVar, wC, wSeq, wNext, wPass, wAsg, wExp, wIf, wB, wIfE, wAndT, wOrT, wNotT, wTup, wLst, wSl, dSl, wNoP, wPart, wCall, wCallK, wCallO, wCallP, wDisp, wFrz, wGet1, wGet2, wPut, wNewT, wPar, wgName, wgTup, wgCons, wgNil, wiT, wiL, wiR1, wiZip, wiEnu, wiEnuA, wChain, wYes, wBM, wBM0, slot, allD, wipeS, List.map_cons, List.map_nil, List.set_cons_zero, List.set_cons_succ, List.cons_append, List.nil_append, List.isEmpty_nil, List.isEmpty_cons, Bool.not_true, Bool.not_false, wUn, dNot, dII0, dII, dEqS, dNeS, dIsN, dNotN, dNeg, ends, DL.gLt, DL.gLe, DL.gGt, DL.gGe, DL.gAdd, DL.gSub, DL.gMul, DL.gMod, DL.gDiv, DL.gPow]
      refine ⟨sz2, rfl, ?_⟩
      try dsimp only [wRet, wAnd, wOr, wUn, wOp, wCa, wCons, wNil, wVar, wC, wSeq, wNext, wPass, wAsg, wExp, wIf, wB, wIfE, wAndT, wOrT, wNotT, wTup, wLst, wSl, dSl, wNoP, wPart, wCall, wCallK, wCallO, wCallP, wDisp, wFrz, wGet1, wGet2, wPut, wNewT, wPar, wgName, wgTup, wgCons, wgNil, wiT, wiL, wiR1, wiZip, wiEnu, wiEnuA, wChain, wYes, wBM, wBM0, slot, allD, wipeS, List.map_cons, List.map_nil, List.set_cons_zero, List.set_cons_succ, List.cons_append, List.nil_append, List.isEmpty_nil, List.isEmpty_cons, Bool.not_true, Bool.not_false, wUn, dNot, dII0, dII, dEqS, dNeS, dIsN, dNotN, dNeg, ends, DL.gLt, DL.gLe, DL.gGt, DL.gGe, DL.gAdd, DL.gSub, DL.gMul, DL.gMod, DL.gDiv, DL.gPow]
      refine call_pur [flD ns tl] (.tuple (spots ns)) rfl ⟨ns, tl, rfl, hf, hsm, rfl⟩ ?_
      try dsimp only [wRet, wAnd, wOr, wUn, wOp, wCa, wCons, wNil, wVar, wC, wSeq, wNext, wPass, wAsg, wExp, wIf, wB, wIfE, wAndT, wOrT, wNotT, wTup, wLst, wSl, dSl, wNoP, wPart, wCall, wCallK, wCallO, wCallP, wDisp, wFrz, wGet1, wGet2, wPut, wNewT, wPar, wgName, wgTup, wgCons, wgNil, wiT, wiL, wiR1, wiZip, wiEnu, wiEnuA, wChain, wYes, wBM, wBM0, slot, allD, wipeS, List.map_cons, List.map_nil, List.set_cons_zero, List.set_cons_succ, List.cons_append, List.nil_append, List.isEmpty_nil, List.isEmpty_cons, Bool.not_true, Bool.not_false, wUn, dNot, dII0, dII, dEqS, dNeS, dIsN, dNotN, dNeg, ends, DL.gLt, DL.gLe, DL.gGt, DL.gGe, DL.gAdd, DL.gSub, DL.gMul, DL.gMod, DL.gDiv, DL.gPow]
      refine ⟨rfl, ?_⟩
      refine call_pur [flD ns tl] (.tuple (spots ns)) rfl ⟨ns, tl, rfl, hf, hsm, rfl⟩ ?_
      try dsimp only [wRet, wAnd, wOr, wUn, wOp, wCa, wCons, wNil, wVar, wC, wSeq, wNext, wPass, wAsg, wExp, wIf, wB, wIfE, wAndT, wOrT, wNotT, wTup, wLst, wSl, dSl, wNoP, wPart, wCall, wCallK, wCallO, wCallP, wDisp, wFrz, wGet1, wGet2, wPut, wNewT, wPar, wgName, wgTup, wgCons, wgNil, wiT, wiL, wiR1, wiZip, wiEnu, wiEnuA, wChain, wYes, wBM, wBM0, slot, allD, wipeS, List.map_cons, List.map_nil, List.set_cons_zero, List.set_cons_succ, List.cons_append, List.nil_append, List.isEmpty_nil, List.isEmpty_cons, Bool.not_true, Bool.not_false, wUn, dNot, dII0, dII, dEqS, dNeS, dIsN, dNotN, dNeg, ends, DL.gLt, DL.gLe, DL.gGt, DL.gGe, DL.gAdd, DL.gSub, DL.gMul, DL.gMod, DL.gDiv, DL.gPow]
      refine ⟨sz2, ?_⟩
      refine ⟨shows_spots hv.rg, ?_⟩
      try dsimp only [wRet, wAnd, wOr, wUn, wOp, wCa, wCons, wNil, wVar, wC, wSeq, wNext, wPass, wAsg, wExp, wIf, wB, wIfE, wAndT, wOrT, wNotT, wTup, wLst, wSl, dSl, wNoP, wPart, wCall, wCallK, wCallO, wCallP, wDisp, wFrz, wGet1, wGet2, wPut, wNewT, wPar, wgName, wgTup, wgCons, wgNil, wiT, wiL, wiR1, wiZip, wiEnu, wiEnuA, wChain, wYes, wBM, wBM0, slot, allD, wipeS, List.map_cons, List.map_nil, List.set_cons_zero, List.set_cons_succ, List.cons_append, List.nil_append, List.isEmpty_nil, List.isEmpty_cons, Bool.not_true, Bool.not_false, wUn, dNot, dII0, dII, dEqS, dNeS, dIsN, dNotN, dNeg, ends, DL.gLt, DL.gLe, DL.gGt, DL.gGe, DL.gAdd, DL.gSub, DL.gMul, DL.gMod, DL.gDiv, DL.gPow]
      refine ⟨spots ns, rfl, ?_⟩
      try dsimp only [wRet, wAnd, wOr, wUn, wOp, wCa, wCons, wNil, wVar, wC, wSeq, wNext, wPass, wAsg, wExp, wIf, wB, wIfE, wAndT, wOrT, wNotT, wTup, wLst, wSl, dSl, wNoP, wPart, wCall, wCallK, wCallO, wCallP, wDisp, wFrz, wGet1, wGet2, wPut, wNewT, wPar, wgName, wgTup, wgCons, wgNil, wiT, wiL, wiR1, wiZip, wiEnu, wiEnuA, wChain, wYes, wBM, wBM0, slot, allD, wipeS, List.map_cons, List.map_nil, List.set_cons_zero, List.set_cons_succ, List.cons_append, List.nil_append, List.isEmpty_nil, List.isEmpty_cons, Bool.not_true, Bool.not_false, wUn, dNot, dII0, dII, dEqS, dNeS, dIsN, dNotN, dNeg, ends, DL.gLt, DL.gLe, DL.gGt, DL.gGe, DL.gAdd, DL.gSub, DL.gMul, DL.gMod, DL.gDiv, DL.gPow]
      refine ⟨(by show 1 ≤ sizeLine; decide), ?_⟩
      refine ⟨(fun z => nomatch z), by decide, by decide, (by show 1 ≤ 1000; decide), ?_⟩
      refine ⟨shows_spots hv.rg, ?_⟩
      try dsimp only [wRet, wAnd, wOr, wUn, wOp, wCa, wCons, wNil, wVar, wC, wSeq, wNext, wPass, wAsg, wExp, wIf, wB, wIfE, wAndT, wOrT, wNotT, wTup, wLst, wSl, dSl, wNoP, wPart, wCall, wCallK, wCallO, wCallP, wDisp, wFrz, wGet1, wGet2, wPut, wNewT, wPar, wgName, wgTup, wgCons, wgNil, wiT, wiL, wiR1, wiZip, wiEnu, wiEnuA, wChain, wYes, wBM, wBM0, slot, allD, wipeS, List.map_cons, List.map_nil, List.set_cons_zero, List.set_cons_succ, List.cons_append, List.nil_append, List.isEmpty_nil, List.isEmpty_cons, Bool.not_true, Bool.not_false, wUn, dNot, dII0, dII, dEqS, dNeS, dIsN, dNotN, dNeg, ends, DL.gLt, DL.gLe, DL.gGt, DL.gGe, DL.gAdd, DL.gSub, DL.gMul, DL.gMod, DL.gDiv, DL.gPow]
      rw [show repD (Int.toNat 2) [PyData.tuple (spots ns)] = [PyData.tuple (spots ns), PyData.tuple (spots ns)] from rfl, decide_eq_true rfl]
      try dsimp only [wRet, wAnd, wOr, wUn, wOp, wCa, wCons, wNil, wVar, wC, wSeq, wNext, wPass, wAsg, wExp, wIf, wB, wIfE, wAndT, wOrT, wNotT, wTup, wLst, wSl, dSl, wNoP, wPart, wCall, wCallK, wCallO, wCallP, wDisp, wFrz, wGet1, wGet2, wPut, wNewT, wPar, wgName, wgTup, wgCons, wgNil, wiT, wiL, wiR1, wiZip, wiEnu, wiEnuA, wChain, wYes, wBM, wBM0, slot, allD, wipeS, List.map_cons, List.map_nil, List.set_cons_zero, List.set_cons_succ, List.cons_append, List.nil_append, List.isEmpty_nil, List.isEmpty_cons, Bool.not_true, Bool.not_false, wUn, dNot, dII0, dII, dEqS, dNeS, dIsN, dNotN, dNeg, ends, DL.gLt, DL.gLe, DL.gGt, DL.gGe, DL.gAdd, DL.gSub, DL.gMul, DL.gMod, DL.gDiv, DL.gPow]
      refine u_lenL ?_
      try dsimp only [wRet, wAnd, wOr, wUn, wOp, wCa, wCons, wNil, wVar, wC, wSeq, wNext, wPass, wAsg, wExp, wIf, wB, wIfE, wAndT, wOrT, wNotT, wTup, wLst, wSl, dSl, wNoP, wPart, wCall, wCallK, wCallO, wCallP, wDisp, wFrz, wGet1, wGet2, wPut, wNewT, wPar, wgName, wgTup, wgCons, wgNil, wiT, wiL, wiR1, wiZip, wiEnu, wiEnuA, wChain, wYes, wBM, wBM0, slot, allD, wipeS, List.map_cons, List.map_nil, List.set_cons_zero, List.set_cons_succ, List.cons_append, List.nil_append, List.isEmpty_nil, List.isEmpty_cons, Bool.not_true, Bool.not_false, wUn, dNot, dII0, dII, dEqS, dNeS, dIsN, dNotN, dNeg, ends, DL.gLt, DL.gLe, DL.gGt, DL.gGe, DL.gAdd, DL.gSub, DL.gMul, DL.gMod, DL.gDiv, DL.gPow]
      by_cases h9 : ((spots ns).length : Int) < 9
      · rw [decide_eq_true h9]
        try dsimp only [wRet, wAnd, wOr, wUn, wOp, wCa, wCons, wNil, wVar, wC, wSeq, wNext, wPass, wAsg, wExp, wIf, wB, wIfE, wAndT, wOrT, wNotT, wTup, wLst, wSl, dSl, wNoP, wPart, wCall, wCallK, wCallO, wCallP, wDisp, wFrz, wGet1, wGet2, wPut, wNewT, wPar, wgName, wgTup, wgCons, wgNil, wiT, wiL, wiR1, wiZip, wiEnu, wiEnuA, wChain, wYes, wBM, wBM0, slot, allD, wipeS, List.map_cons, List.map_nil, List.set_cons_zero, List.set_cons_succ, List.cons_append, List.nil_append, List.isEmpty_nil, List.isEmpty_cons, Bool.not_true, Bool.not_false, wUn, dNot, dII0, dII, dEqS, dNeS, dIsN, dNotN, dNeg, ends, DL.gLt, DL.gLe, DL.gGt, DL.gGe, DL.gAdd, DL.gSub, DL.gMul, DL.gMod, DL.gDiv, DL.gPow]
        refine u_lenL ?_
        refine ⟨⟨by omega, by omega, by omega, by omega, by omega⟩, ?_⟩
        try dsimp only [wRet, wAnd, wOr, wUn, wOp, wCa, wCons, wNil, wVar, wC, wSeq, wNext, wPass, wAsg, wExp, wIf, wB, wIfE, wAndT, wOrT, wNotT, wTup, wLst, wSl, dSl, wNoP, wPart, wCall, wCallK, wCallO, wCallP, wDisp, wFrz, wGet1, wGet2, wPut, wNewT, wPar, wgName, wgTup, wgCons, wgNil, wiT, wiL, wiR1, wiZip, wiEnu, wiEnuA, wChain, wYes, wBM, wBM0, slot, allD, wipeS, List.map_cons, List.map_nil, List.set_cons_zero, List.set_cons_succ, List.cons_append, List.nil_append, List.isEmpty_nil, List.isEmpty_cons, Bool.not_true, Bool.not_false, wUn, dNot, dII0, dII, dEqS, dNeS, dIsN, dNotN, dNeg, ends, DL.gLt, DL.gLe, DL.gGt, DL.gGe, DL.gAdd, DL.gSub, DL.gMul, DL.gMod, DL.gDiv, DL.gPow]
        have hmem : ∀ z ∈ (rng 0 ((spots ns).length : Int).toNat), ∃ k : Int, z = .int k ∧ 0 ≤ k ∧ k < (spots ns).length := (fun z hz => by obtain ⟨j, hj⟩ := List.getElem?_of_mem hz; obtain ⟨h1, rfl⟩ := rng_get hj; exact ⟨_, rfl, by omega, by omega⟩)
        refine for_in (rng 0 ((spots ns).length : Int).toNat) ⟨[some (.d (.list (ss.map .int))), some (.o 0), some (.d x), some (.d (flD ns tl)), some (.d (.list (spots ns))), some (.d (dtD (parP tl))), some (.d (.list (rng 0 ((spots ns).length : Int).toNat))), a7.map .d, none, none], deckO m3 d3 :: cellsO c3 :: (rest ++ [.gone])⟩ (fun j ρ' => ∃ (c' : List Int) (m' d' : Int) (r' : List OB) (b7 : Option PyData), c'.length ≤ 63 ∧ ρ' = ⟨[some (.d (.list (ss.map .int))), some (.o 0), some (.d x), some (.d (flD ns tl)), some (.d (.list (spots ns))), some (.d (dtD (parP tl))), some (.d (.list (rng 0 ((spots ns).length : Int).toNat))), b7.map .d, none, none], deckO m' d' :: cellsO c' :: r'⟩) (fun C h => ?_) ⟨c3, m3, d3, _, a7, hc3, rfl⟩ ?_ ?_
        · try dsimp only [wRet, wAnd, wOr, wUn, wOp, wCa, wCons, wNil, wVar, wC, wSeq, wNext, wPass, wAsg, wExp, wIf, wB, wIfE, wAndT, wOrT, wNotT, wTup, wLst, wSl, dSl, wNoP, wPart, wCall, wCallK, wCallO, wCallP, wDisp, wFrz, wGet1, wGet2, wPut, wNewT, wPar, wgName, wgTup, wgCons, wgNil, wiT, wiL, wiR1, wiZip, wiEnu, wiEnuA, wChain, wYes, wBM, wBM0, slot, allD, wipeS, List.map_cons, List.map_nil, List.set_cons_zero, List.set_cons_succ, List.cons_append, List.nil_append, List.isEmpty_nil, List.isEmpty_cons, Bool.not_true, Bool.not_false, wUn, dNot, dII0, dII, dEqS, dNeS, dIsN, dNotN, dNeg, ends, DL.gLt, DL.gLe, DL.gGt, DL.gGe, DL.gAdd, DL.gSub, DL.gMul, DL.gMod, DL.gDiv, DL.gPow]
          rw [frz_of (ρ := ⟨_, deckO m3 d3 :: cellsO c3 :: (rest ++ [OB.lst ((rng 0 ((spots ns).length : Int).toNat).map .d)])⟩) (rng 0 ((spots ns).length : Int).toNat) (obK_last (ob := deckO m3 d3 :: cellsO c3 :: rest))]
          dsimp only
          rw [ren10 (k := (deckO m3 d3 :: cellsO c3 :: rest).length) (fun z => nomatch z), show (deckO m3 d3 :: cellsO c3 :: (rest ++ [OB.lst ((rng 0 ((spots ns).length : Int).toNat).map .d)])).set (deckO m3 d3 :: cellsO c3 :: rest).length OB.gone = deckO m3 d3 :: cellsO c3 :: (rest ++ [OB.gone]) from set_last (deckO m3 d3 :: cellsO c3 :: rest) _ _]
          exact h
        · rintro j z ρ' hz ⟨c4, m4, d4, r4, b7, hc4, rfl⟩
          obtain ⟨k, rfl, k0, k1⟩ := hmem z (List.mem_of_getElem? hz)
          have hk : k.toNat < (spI 0 ns).length := by rw [hN] at k1; omega
          have hp := List.getElem?_eq_getElem hk
          have ha : atI (spots ns) k = some (plP (spI 0 ns)[k.toNat]) := by
            have := atI_nat (spots_get hp)
            rwa [Int.toNat_of_nonneg k0] at this
          try dsimp only [wRet, wAnd, wOr, wUn, wOp, wCa, wCons, wNil, wVar, wC, wSeq, wNext, wPass, wAsg, wExp, wIf, wB, wIfE, wAndT, wOrT, wNotT, wTup, wLst, wSl, dSl, wNoP, wPart, wCall, wCallK, wCallO, wCallP, wDisp, wFrz, wGet1, wGet2, wPut, wNewT, wPar, wgName, wgTup, wgCons, wgNil, wiT, wiL, wiR1, wiZip, wiEnu, wiEnuA, wChain, wYes, wBM, wBM0, slot, allD, wipeS, List.map_cons, List.map_nil, List.set_cons_zero, List.set_cons_succ, List.cons_append, List.nil_append, List.isEmpty_nil, List.isEmpty_cons, Bool.not_true, Bool.not_false, wUn, dNot, dII0, dII, dEqS, dNeS, dIsN, dNotN, dNeg, ends, DL.gLt, DL.gLe, DL.gGt, DL.gGe, DL.gAdd, DL.gSub, DL.gMul, DL.gMod, DL.gDiv, DL.gPow]
          refine u_ixL ha ?_
          try dsimp only [wRet, wAnd, wOr, wUn, wOp, wCa, wCons, wNil, wVar, wC, wSeq, wNext, wPass, wAsg, wExp, wIf, wB, wIfE, wAndT, wOrT, wNotT, wTup, wLst, wSl, dSl, wNoP, wPart, wCall, wCallK, wCallO, wCallP, wDisp, wFrz, wGet1, wGet2, wPut, wNewT, wPar, wgName, wgTup, wgCons, wgNil, wiT, wiL, wiR1, wiZip, wiEnu, wiEnuA, wChain, wYes, wBM, wBM0, slot, allD, wipeS, List.map_cons, List.map_nil, List.set_cons_zero, List.set_cons_succ, List.cons_append, List.nil_append, List.isEmpty_nil, List.isEmpty_cons, Bool.not_true, Bool.not_false, wUn, dNot, dII0, dII, dEqS, dNeS, dIsN, dNotN, dNeg, ends, DL.gLt, DL.gLe, DL.gGt, DL.gGe, DL.gAdd, DL.gSub, DL.gMul, DL.gMod, DL.gDiv, DL.gPow]
          refine call_dk [flD ns tl, plP (spI 0 ns)[k.toNat], .int k, dtD (parP tl)] rfl ⟨ns, tl, _, _, k, rfl, hv, k0, hp⟩ hc4 fun y c5 m5 d5 hy hc5 => ?_
          subst hy
          try dsimp only [wRet, wAnd, wOr, wUn, wOp, wCa, wCons, wNil, wVar, wC, wSeq, wNext, wPass, wAsg, wExp, wIf, wB, wIfE, wAndT, wOrT, wNotT, wTup, wLst, wSl, dSl, wNoP, wPart, wCall, wCallK, wCallO, wCallP, wDisp, wFrz, wGet1, wGet2, wPut, wNewT, wPar, wgName, wgTup, wgCons, wgNil, wiT, wiL, wiR1, wiZip, wiEnu, wiEnuA, wChain, wYes, wBM, wBM0, slot, allD, wipeS, List.map_cons, List.map_nil, List.set_cons_zero, List.set_cons_succ, List.cons_append, List.nil_append, List.isEmpty_nil, List.isEmpty_cons, Bool.not_true, Bool.not_false, wUn, dNot, dII0, dII, dEqS, dNeS, dIsN, dNotN, dNeg, ends, DL.gLt, DL.gLe, DL.gGt, DL.gGe, DL.gAdd, DL.gSub, DL.gMul, DL.gMod, DL.gDiv, DL.gPow]
          rw [Bool.not_true]
          try dsimp only [wRet, wAnd, wOr, wUn, wOp, wCa, wCons, wNil, wVar, wC, wSeq, wNext, wPass, wAsg, wExp, wIf, wB, wIfE, wAndT, wOrT, wNotT, wTup, wLst, wSl, dSl, wNoP, wPart, wCall, wCallK, wCallO, wCallP, wDisp, wFrz, wGet1, wGet2, wPut, wNewT, wPar, wgName, wgTup, wgCons, wgNil, wiT, wiL, wiR1, wiZip, wiEnu, wiEnuA, wChain, wYes, wBM, wBM0, slot, allD, wipeS, List.map_cons, List.map_nil, List.set_cons_zero, List.set_cons_succ, List.cons_append, List.nil_append, List.isEmpty_nil, List.isEmpty_cons, Bool.not_true, Bool.not_false, wUn, dNot, dII0, dII, dEqS, dNeS, dIsN, dNotN, dNeg, ends, DL.gLt, DL.gLe, DL.gGt, DL.gGe, DL.gAdd, DL.gSub, DL.gMul, DL.gMod, DL.gDiv, DL.gPow]
          exact ⟨c5, m5, d5, r4, some (.int k), hc5, rfl⟩
        · rintro ρ' ⟨c4, m4, d4, r4, b7, hc4, rfl⟩
          try dsimp only [wRet, wAnd, wOr, wUn, wOp, wCa, wCons, wNil, wVar, wC, wSeq, wNext, wPass, wAsg, wExp, wIf, wB, wIfE, wAndT, wOrT, wNotT, wTup, wLst, wSl, dSl, wNoP, wPart, wCall, wCallK, wCallO, wCallP, wDisp, wFrz, wGet1, wGet2, wPut, wNewT, wPar, wgName, wgTup, wgCons, wgNil, wiT, wiL, wiR1, wiZip, wiEnu, wiEnuA, wChain, wYes, wBM, wBM0, slot, allD, wipeS, List.map_cons, List.map_nil, List.set_cons_zero, List.set_cons_succ, List.cons_append, List.nil_append, List.isEmpty_nil, List.isEmpty_cons, Bool.not_true, Bool.not_false, wUn, dNot, dII0, dII, dEqS, dNeS, dIsN, dNotN, dNeg, ends, DL.gLt, DL.gLe, DL.gGt, DL.gGe, DL.gAdd, DL.gSub, DL.gMul, DL.gMod, DL.gDiv, DL.gPow]
          refine lc_inv (spots ns) ⟨[some (.d (.list (ss.map .int))), some (.o 0), some (.d x), some (.d (flD ns tl)), some (.d (.list (spots ns))), some (.d (dtD (parP tl))), some (.d (.list (rng 0 ((spots ns).length : Int).toNat))), b7.map .d, none, none], deckO m4 d4 :: cellsO c4 :: r4⟩ (fun i ob acc => ob = deckO m4 d4 :: cellsO c4 :: r4 ∧ acc = (((spI 0 ns).take i).filter fun p => (mateI tl p).isSome).map plP) (fun C h => h) ⟨rfl, rfl⟩ ?_ ?_
          · rintro i' z ob acc hz ⟨rfl, rfl⟩ _
            rw [spots_eq, List.getElem?_map] at hz
            cases hq : (spI 0 ns)[i']? with
            | none => rw [hq] at hz; cases hz
            | some p =>
              rw [hq] at hz
              obtain rfl := Option.some.inj hz
              have hi' : i' < (spI 0 ns).length := (List.getElem?_eq_some_iff.mp hq).1
              have hpl : isPl ns (plD p.1 p.2) = true := pl_iff.mpr (List.mem_of_getElem? hq)
              have et : (((spI 0 ns).take (i' + 1)).filter fun p => (mateI tl p).isSome) = (((spI 0 ns).take i').filter fun p => (mateI tl p).isSome) ++ (if (mateI tl p).isSome then [p] else []) := by
                exact filter_take (fun p => (mateI tl p).isSome) hq
              have hpo := par_of hv.nd p.1 p.2
              unfold plP
              try dsimp only [wRet, wAnd, wOr, wUn, wOp, wCa, wCons, wNil, wVar, wC, wSeq, wNext, wPass, wAsg, wExp, wIf, wB, wIfE, wAndT, wOrT, wNotT, wTup, wLst, wSl, dSl, wNoP, wPart, wCall, wCallK, wCallO, wCallP, wDisp, wFrz, wGet1, wGet2, wPut, wNewT, wPar, wgName, wgTup, wgCons, wgNil, wiT, wiL, wiR1, wiZip, wiEnu, wiEnuA, wChain, wYes, wBM, wBM0, slot, allD, wipeS, List.map_cons, List.map_nil, List.set_cons_zero, List.set_cons_succ, List.cons_append, List.nil_append, List.isEmpty_nil, List.isEmpty_cons, Bool.not_true, Bool.not_false, wUn, dNot, dII0, dII, dEqS, dNeS, dIsN, dNotN, dNeg, ends, DL.gLt, DL.gLe, DL.gGt, DL.gGe, DL.gAdd, DL.gSub, DL.gMul, DL.gMod, DL.gDiv, DL.gPow]
              refine call_pur [flD ns tl, plD p.1 p.2] (parOf tl p.1 p.2) rfl ⟨ns, tl, p.1, p.2, rfl, hf, hpl, rfl⟩ ?_
              try dsimp only [wRet, wAnd, wOr, wUn, wOp, wCa, wCons, wNil, wVar, wC, wSeq, wNext, wPass, wAsg, wExp, wIf, wB, wIfE, wAndT, wOrT, wNotT, wTup, wLst, wSl, dSl, wNoP, wPart, wCall, wCallK, wCallO, wCallP, wDisp, wFrz, wGet1, wGet2, wPut, wNewT, wPar, wgName, wgTup, wgCons, wgNil, wiT, wiL, wiR1, wiZip, wiEnu, wiEnuA, wChain, wYes, wBM, wBM0, slot, allD, wipeS, List.map_cons, List.map_nil, List.set_cons_zero, List.set_cons_succ, List.cons_append, List.nil_append, List.isEmpty_nil, List.isEmpty_cons, Bool.not_true, Bool.not_false, wUn, dNot, dII0, dII, dEqS, dNeS, dIsN, dNotN, dNeg, ends, DL.gLt, DL.gLe, DL.gGt, DL.gGe, DL.gAdd, DL.gSub, DL.gMul, DL.gMod, DL.gDiv, DL.gPow]
              have hpo : parOf tl p.1 p.2 = ((mateI tl p).map plP).getD .none := hpo
              cases hm : mateI tl p with
              | none =>
                rw [hm] at hpo et
                rw [hpo]
                try dsimp only [wRet, wAnd, wOr, wUn, wOp, wCa, wCons, wNil, wVar, wC, wSeq, wNext, wPass, wAsg, wExp, wIf, wB, wIfE, wAndT, wOrT, wNotT, wTup, wLst, wSl, dSl, wNoP, wPart, wCall, wCallK, wCallO, wCallP, wDisp, wFrz, wGet1, wGet2, wPut, wNewT, wPar, wgName, wgTup, wgCons, wgNil, wiT, wiL, wiR1, wiZip, wiEnu, wiEnuA, wChain, wYes, wBM, wBM0, slot, allD, wipeS, List.map_cons, List.map_nil, List.set_cons_zero, List.set_cons_succ, List.cons_append, List.nil_append, List.isEmpty_nil, List.isEmpty_cons, Bool.not_true, Bool.not_false, wUn, dNot, dII0, dII, dEqS, dNeS, dIsN, dNotN, dNeg, ends, DL.gLt, DL.gLe, DL.gGt, DL.gGe, DL.gAdd, DL.gSub, DL.gMul, DL.gMod, DL.gDiv, DL.gPow]
                refine ⟨_, rfl, rfl, rfl, ?_⟩
                rw [et]
                simp
              | some q =>
                rw [hm] at hpo et
                rw [hpo]
                try dsimp only [wRet, wAnd, wOr, wUn, wOp, wCa, wCons, wNil, wVar, wC, wSeq, wNext, wPass, wAsg, wExp, wIf, wB, wIfE, wAndT, wOrT, wNotT, wTup, wLst, wSl, dSl, wNoP, wPart, wCall, wCallK, wCallO, wCallP, wDisp, wFrz, wGet1, wGet2, wPut, wNewT, wPar, wgName, wgTup, wgCons, wgNil, wiT, wiL, wiR1, wiZip, wiEnu, wiEnuA, wChain, wYes, wBM, wBM0, slot, allD, wipeS, List.map_cons, List.map_nil, List.set_cons_zero, List.set_cons_succ, List.cons_append, List.nil_append, List.isEmpty_nil, List.isEmpty_cons, Bool.not_true, Bool.not_false, wUn, dNot, dII0, dII, dEqS, dNeS, dIsN, dNotN, dNeg, ends, DL.gLt, DL.gLe, DL.gGt, DL.gGe, DL.gAdd, DL.gSub, DL.gMul, DL.gMod, DL.gDiv, DL.gPow]
                refine ⟨?_, plP p, _, [], rfl, rfl, rfl, .inl rfl, rfl, ?_⟩
                · rw [List.length_map]
                  refine small1000 (Nat.le_trans (List.length_filter_le _ _) ?_)
                  rw [List.length_take]
                  omega
                · rw [et, List.map_append]
                  rfl
          · rintro ob acc ⟨rfl, rfl⟩ _
            have hlen : (spots ns).length = (spI 0 ns).length := by rw [spots_eq, List.length_map]
            rw [show (spI 0 ns).take (spots ns).length = spI 0 ns from by rw [hlen, List.take_length]]
            try dsimp only [wRet, wAnd, wOr, wUn, wOp, wCa, wCons, wNil, wVar, wC, wSeq, wNext, wPass, wAsg, wExp, wIf, wB, wIfE, wAndT, wOrT, wNotT, wTup, wLst, wSl, dSl, wNoP, wPart, wCall, wCallK, wCallO, wCallP, wDisp, wFrz, wGet1, wGet2, wPut, wNewT, wPar, wgName, wgTup, wgCons, wgNil, wiT, wiL, wiR1, wiZip, wiEnu, wiEnuA, wChain, wYes, wBM, wBM0, slot, allD, wipeS, List.map_cons, List.map_nil, List.set_cons_zero, List.set_cons_succ, List.cons_append, List.nil_append, List.isEmpty_nil, List.isEmpty_cons, Bool.not_true, Bool.not_false, wUn, dNot, dII0, dII, dEqS, dNeS, dIsN, dNotN, dNeg, ends, DL.gLt, DL.gLe, DL.gGt, DL.gGe, DL.gAdd, DL.gSub, DL.gMul, DL.gMod, DL.gDiv, DL.gPow]
            have ek : (((parP tl).map (·.1)).map tupP) = (tl.flatMap sd).map plP := by
              rw [par_keys hv.nd, List.map_map]
              rfl
            refine ⟨_, _, dat_of (obK_last (ob := deckO m4 d4 :: cellsO c4 :: r4)), keys_dt (parP tl), by rw [ek]; exact (sorts_pl _).2.1, by rw [ek]; exact (sorts_pl _).2.2.1, eqs_pls _, ?_, ?_⟩
            · rw [par_keys hv.nd, keys_sorted hv]
              exact eqs_pls _
            · rw [par_keys hv.nd, keys_sorted hv, eqv_pls, Bool.not_true]
              try dsimp only [wRet, wAnd, wOr, wUn, wOp, wCa, wCons, wNil, wVar, wC, wSeq, wNext, wPass, wAsg, wExp, wIf, wB, wIfE, wAndT, wOrT, wNotT, wTup, wLst, wSl, dSl, wNoP, wPart, wCall, wCallK, wCallO, wCallP, wDisp, wFrz, wGet1, wGet2, wPut, wNewT, wPar, wgName, wgTup, wgCons, wgNil, wiT, wiL, wiR1, wiZip, wiEnu, wiEnuA, wChain, wYes, wBM, wBM0, slot, allD, wipeS, List.map_cons, List.map_nil, List.set_cons_zero, List.set_cons_succ, List.cons_append, List.nil_append, List.isEmpty_nil, List.isEmpty_cons, Bool.not_true, Bool.not_false, wUn, dNot, dII0, dII, dEqS, dNeS, dIsN, dNotN, dNeg, ends, DL.gLt, DL.gLe, DL.gGt, DL.gGe, DL.gAdd, DL.gSub, DL.gMul, DL.gMod, DL.gDiv, DL.gPow]
              exact ⟨c4, m4, d4, _, some x, some (flD ns tl), some (.list (spots ns)), some (dtD (parP tl)), some (.list (rng 0 ((spots ns).length : Int).toNat)), b7, hc4, rfl⟩
      · rw [decide_eq_false h9]
        try dsimp only [wRet, wAnd, wOr, wUn, wOp, wCa, wCons, wNil, wVar, wC, wSeq, wNext, wPass, wAsg, wExp, wIf, wB, wIfE, wAndT, wOrT, wNotT, wTup, wLst, wSl, dSl, wNoP, wPart, wCall, wCallK, wCallO, wCallP, wDisp, wFrz, wGet1, wGet2, wPut, wNewT, wPar, wgName, wgTup, wgCons, wgNil, wiT, wiL, wiR1, wiZip, wiEnu, wiEnuA, wChain, wYes, wBM, wBM0, slot, allD, wipeS, List.map_cons, List.map_nil, List.set_cons_zero, List.set_cons_succ, List.cons_append, List.nil_append, List.isEmpty_nil, List.isEmpty_cons, Bool.not_true, Bool.not_false, wUn, dNot, dII0, dII, dEqS, dNeS, dIsN, dNotN, dNeg, ends, DL.gLt, DL.gLe, DL.gGt, DL.gGe, DL.gAdd, DL.gSub, DL.gMul, DL.gMod, DL.gDiv, DL.gPow]
        refine lc_inv (rng 0 8) ⟨[some (.d (.list (ss.map .int))), some (.o 0), some (.d x), some (.d (flD ns tl)), some (.d (.list (spots ns))), some (.d (dtD (parP tl))), a6.map .d, a7.map .d, none, none], deckO m3 d3 :: cellsO c3 :: rest⟩ (fun i ob acc => ∃ (c' : List Int) (m' d' : Int), c'.length ≤ 63 ∧ ob = deckO m' d' :: cellsO c' :: rest ∧ acc.length = i ∧ ∀ z ∈ acc, ∃ k : Int, z = .int k ∧ 0 ≤ k ∧ k < (spots ns).length) (fun C h => ⟨by unfold RgB; decide, h⟩) ⟨c3, m3, d3, hc3, rfl, rfl, fun _ h => nomatch h⟩ ?_ ?_
        · rintro i' z ob acc hz ⟨c4, m4, d4, hc4, rfl, hal, hall⟩ _
          have hi8 : i' < 8 := by
            have := (List.getElem?_eq_some_iff.mp hz).1
            rwa [rng_len] at this
          try dsimp only [wRet, wAnd, wOr, wUn, wOp, wCa, wCons, wNil, wVar, wC, wSeq, wNext, wPass, wAsg, wExp, wIf, wB, wIfE, wAndT, wOrT, wNotT, wTup, wLst, wSl, dSl, wNoP, wPart, wCall, wCallK, wCallO, wCallP, wDisp, wFrz, wGet1, wGet2, wPut, wNewT, wPar, wgName, wgTup, wgCons, wgNil, wiT, wiL, wiR1, wiZip, wiEnu, wiEnuA, wChain, wYes, wBM, wBM0, slot, allD, wipeS, List.map_cons, List.map_nil, List.set_cons_zero, List.set_cons_succ, List.cons_append, List.nil_append, List.isEmpty_nil, List.isEmpty_cons, Bool.not_true, Bool.not_false, wUn, dNot, dII0, dII, dEqS, dNeS, dIsN, dNotN, dNeg, ends, DL.gLt, DL.gLe, DL.gGt, DL.gGe, DL.gAdd, DL.gSub, DL.gMul, DL.gMod, DL.gDiv, DL.gPow]
          refine u_lenL ?_
          refine call_dk [_] rfl ⟨_, rfl, by omega, by omega⟩ hc4 fun y c5 m5 d5 hy hc5 => ?_
          obtain ⟨q, r', e, rfl, r0, r1⟩ := hy
          injection e with e
          injection e with e
          subst e
          refine ⟨small1000 (by omega), .int r', deckO m5 d5 :: cellsO c5 :: rest, [], rfl, rfl, rfl, .inl rfl, c5, m5, d5, hc5, rfl, by rw [List.length_append, hal]; rfl, fun w hw => ?_⟩
          rcases List.mem_append.mp hw with hw | hw
          · exact hall w hw
          · exact ⟨r', List.mem_singleton.mp hw, r0, r1⟩
        · rintro ob acc ⟨c3, m3, d3, hc3, rfl, hal, hall⟩ _
          try dsimp only [wRet, wAnd, wOr, wUn, wOp, wCa, wCons, wNil, wVar, wC, wSeq, wNext, wPass, wAsg, wExp, wIf, wB, wIfE, wAndT, wOrT, wNotT, wTup, wLst, wSl, dSl, wNoP, wPart, wCall, wCallK, wCallO, wCallP, wDisp, wFrz, wGet1, wGet2, wPut, wNewT, wPar, wgName, wgTup, wgCons, wgNil, wiT, wiL, wiR1, wiZip, wiEnu, wiEnuA, wChain, wYes, wBM, wBM0, slot, allD, wipeS, List.map_cons, List.map_nil, List.set_cons_zero, List.set_cons_succ, List.cons_append, List.nil_append, List.isEmpty_nil, List.isEmpty_cons, Bool.not_true, Bool.not_false, wUn, dNot, dII0, dII, dEqS, dNeS, dIsN, dNotN, dNeg, ends, DL.gLt, DL.gLe, DL.gGt, DL.gGe, DL.gAdd, DL.gSub, DL.gMul, DL.gMod, DL.gDiv, DL.gPow]
          have hmem : ∀ z ∈ acc, ∃ k : Int, z = .int k ∧ 0 ≤ k ∧ k < (spots ns).length := hall
          refine for_in acc ⟨[some (.d (.list (ss.map .int))), some (.o 0), some (.d x), some (.d (flD ns tl)), some (.d (.list (spots ns))), some (.d (dtD (parP tl))), some (.d (.list acc)), a7.map .d, none, none], deckO m3 d3 :: cellsO c3 :: (rest ++ [.gone])⟩ (fun j ρ' => ∃ (c' : List Int) (m' d' : Int) (r' : List OB) (b7 : Option PyData), c'.length ≤ 63 ∧ ρ' = ⟨[some (.d (.list (ss.map .int))), some (.o 0), some (.d x), some (.d (flD ns tl)), some (.d (.list (spots ns))), some (.d (dtD (parP tl))), some (.d (.list acc)), b7.map .d, none, none], deckO m' d' :: cellsO c' :: r'⟩) (fun C h => ?_) ⟨c3, m3, d3, _, a7, hc3, rfl⟩ ?_ ?_
          · try dsimp only [wRet, wAnd, wOr, wUn, wOp, wCa, wCons, wNil, wVar, wC, wSeq, wNext, wPass, wAsg, wExp, wIf, wB, wIfE, wAndT, wOrT, wNotT, wTup, wLst, wSl, dSl, wNoP, wPart, wCall, wCallK, wCallO, wCallP, wDisp, wFrz, wGet1, wGet2, wPut, wNewT, wPar, wgName, wgTup, wgCons, wgNil, wiT, wiL, wiR1, wiZip, wiEnu, wiEnuA, wChain, wYes, wBM, wBM0, slot, allD, wipeS, List.map_cons, List.map_nil, List.set_cons_zero, List.set_cons_succ, List.cons_append, List.nil_append, List.isEmpty_nil, List.isEmpty_cons, Bool.not_true, Bool.not_false, wUn, dNot, dII0, dII, dEqS, dNeS, dIsN, dNotN, dNeg, ends, DL.gLt, DL.gLe, DL.gGt, DL.gGe, DL.gAdd, DL.gSub, DL.gMul, DL.gMod, DL.gDiv, DL.gPow]
            rw [frz_of (ρ := ⟨_, deckO m3 d3 :: cellsO c3 :: (rest ++ [OB.lst (acc.map .d)])⟩) acc (obK_last (ob := deckO m3 d3 :: cellsO c3 :: rest))]
            dsimp only
            rw [ren10 (k := (deckO m3 d3 :: cellsO c3 :: rest).length) (fun z => nomatch z), show (deckO m3 d3 :: cellsO c3 :: (rest ++ [OB.lst (acc.map .d)])).set (deckO m3 d3 :: cellsO c3 :: rest).length OB.gone = deckO m3 d3 :: cellsO c3 :: (rest ++ [OB.gone]) from set_last (deckO m3 d3 :: cellsO c3 :: rest) _ _]
            exact h
          · rintro j z ρ' hz ⟨c4, m4, d4, r4, b7, hc4, rfl⟩
            obtain ⟨k, rfl, k0, k1⟩ := hmem z (List.mem_of_getElem? hz)
            have hk : k.toNat < (spI 0 ns).length := by rw [hN] at k1; omega
            have hp := List.getElem?_eq_getElem hk
            have ha : atI (spots ns) k = some (plP (spI 0 ns)[k.toNat]) := by
              have := atI_nat (spots_get hp)
              rwa [Int.toNat_of_nonneg k0] at this
            try dsimp only [wRet, wAnd, wOr, wUn, wOp, wCa, wCons, wNil, wVar, wC, wSeq, wNext, wPass, wAsg, wExp, wIf, wB, wIfE, wAndT, wOrT, wNotT, wTup, wLst, wSl, dSl, wNoP, wPart, wCall, wCallK, wCallO, wCallP, wDisp, wFrz, wGet1, wGet2, wPut, wNewT, wPar, wgName, wgTup, wgCons, wgNil, wiT, wiL, wiR1, wiZip, wiEnu, wiEnuA, wChain, wYes, wBM, wBM0, slot, allD, wipeS, List.map_cons, List.map_nil, List.set_cons_zero, List.set_cons_succ, List.cons_append, List.nil_append, List.isEmpty_nil, List.isEmpty_cons, Bool.not_true, Bool.not_false, wUn, dNot, dII0, dII, dEqS, dNeS, dIsN, dNotN, dNeg, ends, DL.gLt, DL.gLe, DL.gGt, DL.gGe, DL.gAdd, DL.gSub, DL.gMul, DL.gMod, DL.gDiv, DL.gPow]
            refine u_ixL ha ?_
            try dsimp only [wRet, wAnd, wOr, wUn, wOp, wCa, wCons, wNil, wVar, wC, wSeq, wNext, wPass, wAsg, wExp, wIf, wB, wIfE, wAndT, wOrT, wNotT, wTup, wLst, wSl, dSl, wNoP, wPart, wCall, wCallK, wCallO, wCallP, wDisp, wFrz, wGet1, wGet2, wPut, wNewT, wPar, wgName, wgTup, wgCons, wgNil, wiT, wiL, wiR1, wiZip, wiEnu, wiEnuA, wChain, wYes, wBM, wBM0, slot, allD, wipeS, List.map_cons, List.map_nil, List.set_cons_zero, List.set_cons_succ, List.cons_append, List.nil_append, List.isEmpty_nil, List.isEmpty_cons, Bool.not_true, Bool.not_false, wUn, dNot, dII0, dII, dEqS, dNeS, dIsN, dNotN, dNeg, ends, DL.gLt, DL.gLe, DL.gGt, DL.gGe, DL.gAdd, DL.gSub, DL.gMul, DL.gMod, DL.gDiv, DL.gPow]
            refine call_dk [flD ns tl, plP (spI 0 ns)[k.toNat], .int k, dtD (parP tl)] rfl ⟨ns, tl, _, _, k, rfl, hv, k0, hp⟩ hc4 fun y c5 m5 d5 hy hc5 => ?_
            subst hy
            try dsimp only [wRet, wAnd, wOr, wUn, wOp, wCa, wCons, wNil, wVar, wC, wSeq, wNext, wPass, wAsg, wExp, wIf, wB, wIfE, wAndT, wOrT, wNotT, wTup, wLst, wSl, dSl, wNoP, wPart, wCall, wCallK, wCallO, wCallP, wDisp, wFrz, wGet1, wGet2, wPut, wNewT, wPar, wgName, wgTup, wgCons, wgNil, wiT, wiL, wiR1, wiZip, wiEnu, wiEnuA, wChain, wYes, wBM, wBM0, slot, allD, wipeS, List.map_cons, List.map_nil, List.set_cons_zero, List.set_cons_succ, List.cons_append, List.nil_append, List.isEmpty_nil, List.isEmpty_cons, Bool.not_true, Bool.not_false, wUn, dNot, dII0, dII, dEqS, dNeS, dIsN, dNotN, dNeg, ends, DL.gLt, DL.gLe, DL.gGt, DL.gGe, DL.gAdd, DL.gSub, DL.gMul, DL.gMod, DL.gDiv, DL.gPow]
            rw [Bool.not_true]
            try dsimp only [wRet, wAnd, wOr, wUn, wOp, wCa, wCons, wNil, wVar, wC, wSeq, wNext, wPass, wAsg, wExp, wIf, wB, wIfE, wAndT, wOrT, wNotT, wTup, wLst, wSl, dSl, wNoP, wPart, wCall, wCallK, wCallO, wCallP, wDisp, wFrz, wGet1, wGet2, wPut, wNewT, wPar, wgName, wgTup, wgCons, wgNil, wiT, wiL, wiR1, wiZip, wiEnu, wiEnuA, wChain, wYes, wBM, wBM0, slot, allD, wipeS, List.map_cons, List.map_nil, List.set_cons_zero, List.set_cons_succ, List.cons_append, List.nil_append, List.isEmpty_nil, List.isEmpty_cons, Bool.not_true, Bool.not_false, wUn, dNot, dII0, dII, dEqS, dNeS, dIsN, dNotN, dNeg, ends, DL.gLt, DL.gLe, DL.gGt, DL.gGe, DL.gAdd, DL.gSub, DL.gMul, DL.gMod, DL.gDiv, DL.gPow]
            exact ⟨c5, m5, d5, r4, some (.int k), hc5, rfl⟩
          · rintro ρ' ⟨c4, m4, d4, r4, b7, hc4, rfl⟩
            try dsimp only [wRet, wAnd, wOr, wUn, wOp, wCa, wCons, wNil, wVar, wC, wSeq, wNext, wPass, wAsg, wExp, wIf, wB, wIfE, wAndT, wOrT, wNotT, wTup, wLst, wSl, dSl, wNoP, wPart, wCall, wCallK, wCallO, wCallP, wDisp, wFrz, wGet1, wGet2, wPut, wNewT, wPar, wgName, wgTup, wgCons, wgNil, wiT, wiL, wiR1, wiZip, wiEnu, wiEnuA, wChain, wYes, wBM, wBM0, slot, allD, wipeS, List.map_cons, List.map_nil, List.set_cons_zero, List.set_cons_succ, List.cons_append, List.nil_append, List.isEmpty_nil, List.isEmpty_cons, Bool.not_true, Bool.not_false, wUn, dNot, dII0, dII, dEqS, dNeS, dIsN, dNotN, dNeg, ends, DL.gLt, DL.gLe, DL.gGt, DL.gGe, DL.gAdd, DL.gSub, DL.gMul, DL.gMod, DL.gDiv, DL.gPow]
            refine lc_inv (spots ns) ⟨[some (.d (.list (ss.map .int))), some (.o 0), some (.d x), some (.d (flD ns tl)), some (.d (.list (spots ns))), some (.d (dtD (parP tl))), some (.d (.list acc)), b7.map .d, none, none], deckO m4 d4 :: cellsO c4 :: r4⟩ (fun i ob acc => ob = deckO m4 d4 :: cellsO c4 :: r4 ∧ acc = (((spI 0 ns).take i).filter fun p => (mateI tl p).isSome).map plP) (fun C h => h) ⟨rfl, rfl⟩ ?_ ?_
            · rintro i' z ob acc hz ⟨rfl, rfl⟩ _
              rw [spots_eq, List.getElem?_map] at hz
              cases hq : (spI 0 ns)[i']? with
              | none => rw [hq] at hz; cases hz
              | some p =>
                rw [hq] at hz
                obtain rfl := Option.some.inj hz
                have hi' : i' < (spI 0 ns).length := (List.getElem?_eq_some_iff.mp hq).1
                have hpl : isPl ns (plD p.1 p.2) = true := pl_iff.mpr (List.mem_of_getElem? hq)
                have et : (((spI 0 ns).take (i' + 1)).filter fun p => (mateI tl p).isSome) = (((spI 0 ns).take i').filter fun p => (mateI tl p).isSome) ++ (if (mateI tl p).isSome then [p] else []) := by
                  exact filter_take (fun p => (mateI tl p).isSome) hq
                have hpo := par_of hv.nd p.1 p.2
                unfold plP
                try dsimp only [wRet, wAnd, wOr, wUn, wOp, wCa, wCons, wNil, wVar, wC, wSeq, wNext, wPass, wAsg, wExp, wIf, wB, wIfE, wAndT, wOrT, wNotT, wTup, wLst, wSl, dSl, wNoP, wPart, wCall, wCallK, wCallO, wCallP, wDisp, wFrz, wGet1, wGet2, wPut, wNewT, wPar, wgName, wgTup, wgCons, wgNil, wiT, wiL, wiR1, wiZip, wiEnu, wiEnuA, wChain, wYes, wBM, wBM0, slot, allD, wipeS, List.map_cons, List.map_nil, List.set_cons_zero, List.set_cons_succ, List.cons_append, List.nil_append, List.isEmpty_nil, List.isEmpty_cons, Bool.not_true, Bool.not_false, wUn, dNot, dII0, dII, dEqS, dNeS, dIsN, dNotN, dNeg, ends, DL.gLt, DL.gLe, DL.gGt, DL.gGe, DL.gAdd, DL.gSub, DL.gMul, DL.gMod, DL.gDiv, DL.gPow]
                refine call_pur [flD ns tl, plD p.1 p.2] (parOf tl p.1 p.2) rfl ⟨ns, tl, p.1, p.2, rfl, hf, hpl, rfl⟩ ?_
                try dsimp only [wRet, wAnd, wOr, wUn, wOp, wCa, wCons, wNil, wVar, wC, wSeq, wNext, wPass, wAsg, wExp, wIf, wB, wIfE, wAndT, wOrT, wNotT, wTup, wLst, wSl, dSl, wNoP, wPart, wCall, wCallK, wCallO, wCallP, wDisp, wFrz, wGet1, wGet2, wPut, wNewT, wPar, wgName, wgTup, wgCons, wgNil, wiT, wiL, wiR1, wiZip, wiEnu, wiEnuA, wChain, wYes, wBM, wBM0, slot, allD, wipeS, List.map_cons, List.map_nil, List.set_cons_zero, List.set_cons_succ, List.cons_append, List.nil_append, List.isEmpty_nil, List.isEmpty_cons, Bool.not_true, Bool.not_false, wUn, dNot, dII0, dII, dEqS, dNeS, dIsN, dNotN, dNeg, ends, DL.gLt, DL.gLe, DL.gGt, DL.gGe, DL.gAdd, DL.gSub, DL.gMul, DL.gMod, DL.gDiv, DL.gPow]
                have hpo : parOf tl p.1 p.2 = ((mateI tl p).map plP).getD .none := hpo
                cases hm : mateI tl p with
                | none =>
                  rw [hm] at hpo et
                  rw [hpo]
                  try dsimp only [wRet, wAnd, wOr, wUn, wOp, wCa, wCons, wNil, wVar, wC, wSeq, wNext, wPass, wAsg, wExp, wIf, wB, wIfE, wAndT, wOrT, wNotT, wTup, wLst, wSl, dSl, wNoP, wPart, wCall, wCallK, wCallO, wCallP, wDisp, wFrz, wGet1, wGet2, wPut, wNewT, wPar, wgName, wgTup, wgCons, wgNil, wiT, wiL, wiR1, wiZip, wiEnu, wiEnuA, wChain, wYes, wBM, wBM0, slot, allD, wipeS, List.map_cons, List.map_nil, List.set_cons_zero, List.set_cons_succ, List.cons_append, List.nil_append, List.isEmpty_nil, List.isEmpty_cons, Bool.not_true, Bool.not_false, wUn, dNot, dII0, dII, dEqS, dNeS, dIsN, dNotN, dNeg, ends, DL.gLt, DL.gLe, DL.gGt, DL.gGe, DL.gAdd, DL.gSub, DL.gMul, DL.gMod, DL.gDiv, DL.gPow]
                  refine ⟨_, rfl, rfl, rfl, ?_⟩
                  rw [et]
                  simp
                | some q =>
                  rw [hm] at hpo et
                  rw [hpo]
                  try dsimp only [wRet, wAnd, wOr, wUn, wOp, wCa, wCons, wNil, wVar, wC, wSeq, wNext, wPass, wAsg, wExp, wIf, wB, wIfE, wAndT, wOrT, wNotT, wTup, wLst, wSl, dSl, wNoP, wPart, wCall, wCallK, wCallO, wCallP, wDisp, wFrz, wGet1, wGet2, wPut, wNewT, wPar, wgName, wgTup, wgCons, wgNil, wiT, wiL, wiR1, wiZip, wiEnu, wiEnuA, wChain, wYes, wBM, wBM0, slot, allD, wipeS, List.map_cons, List.map_nil, List.set_cons_zero, List.set_cons_succ, List.cons_append, List.nil_append, List.isEmpty_nil, List.isEmpty_cons, Bool.not_true, Bool.not_false, wUn, dNot, dII0, dII, dEqS, dNeS, dIsN, dNotN, dNeg, ends, DL.gLt, DL.gLe, DL.gGt, DL.gGe, DL.gAdd, DL.gSub, DL.gMul, DL.gMod, DL.gDiv, DL.gPow]
                  refine ⟨?_, plP p, _, [], rfl, rfl, rfl, .inl rfl, rfl, ?_⟩
                  · rw [List.length_map]
                    refine small1000 (Nat.le_trans (List.length_filter_le _ _) ?_)
                    rw [List.length_take]
                    omega
                  · rw [et, List.map_append]
                    rfl
            · rintro ob acc ⟨rfl, rfl⟩ _
              have hlen : (spots ns).length = (spI 0 ns).length := by rw [spots_eq, List.length_map]
              rw [show (spI 0 ns).take (spots ns).length = spI 0 ns from by rw [hlen, List.take_length]]
              try dsimp only [wRet, wAnd, wOr, wUn, wOp, wCa, wCons, wNil, wVar, wC, wSeq, wNext, wPass, wAsg, wExp, wIf, wB, wIfE, wAndT, wOrT, wNotT, wTup, wLst, wSl, dSl, wNoP, wPart, wCall, wCallK, wCallO, wCallP, wDisp, wFrz, wGet1, wGet2, wPut, wNewT, wPar, wgName, wgTup, wgCons, wgNil, wiT, wiL, wiR1, wiZip, wiEnu, wiEnuA, wChain, wYes, wBM, wBM0, slot, allD, wipeS, List.map_cons, List.map_nil, List.set_cons_zero, List.set_cons_succ, List.cons_append, List.nil_append, List.isEmpty_nil, List.isEmpty_cons, Bool.not_true, Bool.not_false, wUn, dNot, dII0, dII, dEqS, dNeS, dIsN, dNotN, dNeg, ends, DL.gLt, DL.gLe, DL.gGt, DL.gGe, DL.gAdd, DL.gSub, DL.gMul, DL.gMod, DL.gDiv, DL.gPow]
              have ek : (((parP tl).map (·.1)).map tupP) = (tl.flatMap sd).map plP := by
                rw [par_keys hv.nd, List.map_map]
                rfl
              refine ⟨_, _, dat_of (obK_last (ob := deckO m4 d4 :: cellsO c4 :: r4)), keys_dt (parP tl), by rw [ek]; exact (sorts_pl _).2.1, by rw [ek]; exact (sorts_pl _).2.2.1, eqs_pls _, ?_, ?_⟩
              · rw [par_keys hv.nd, keys_sorted hv]
                exact eqs_pls _
              · rw [par_keys hv.nd, keys_sorted hv, eqv_pls, Bool.not_true]
                try dsimp only [wRet, wAnd, wOr, wUn, wOp, wCa, wCons, wNil, wVar, wC, wSeq, wNext, wPass, wAsg, wExp, wIf, wB, wIfE, wAndT, wOrT, wNotT, wTup, wLst, wSl, dSl, wNoP, wPart, wCall, wCallK, wCallO, wCallP, wDisp, wFrz, wGet1, wGet2, wPut, wNewT, wPar, wgName, wgTup, wgCons, wgNil, wiT, wiL, wiR1, wiZip, wiEnu, wiEnuA, wChain, wYes, wBM, wBM0, slot, allD, wipeS, List.map_cons, List.map_nil, List.set_cons_zero, List.set_cons_succ, List.cons_append, List.nil_append, List.isEmpty_nil, List.isEmpty_cons, Bool.not_true, Bool.not_false, wUn, dNot, dII0, dII, dEqS, dNeS, dIsN, dNotN, dNeg, ends, DL.gLt, DL.gLe, DL.gGt, DL.gGe, DL.gAdd, DL.gSub, DL.gMul, DL.gMod, DL.gDiv, DL.gPow]
                exact ⟨c4, m4, d4, _, some x, some (flD ns tl), some (.list (spots ns)), some (dtD (parP tl)), some (.list acc), b7, hc4, rfl⟩
    · rw [decide_eq_false hr0]
      try dsimp only [wRet, wAnd, wOr, wUn, wOp, wCa, wCons, wNil, wVar, wC, wSeq, wNext, wPass, wAsg, wExp, wIf, wB, wIfE, wAndT, wOrT, wNotT, wTup, wLst, wSl, dSl, wNoP, wPart, wCall, wCallK, wCallO, wCallP, wDisp, wFrz, wGet1, wGet2, wPut, wNewT, wPar, wgName, wgTup, wgCons, wgNil, wiT, wiL, wiR1, wiZip, wiEnu, wiEnuA, wChain, wYes, wBM, wBM0, slot, allD, wipeS, List.map_cons, List.map_nil, List.set_cons_zero, List.set_cons_succ, List.cons_append, List.nil_append, List.isEmpty_nil, List.isEmpty_cons, Bool.not_true, Bool.not_false, wUn, dNot, dII0, dII, dEqS, dNeS, dIsN, dNotN, dNeg, ends, DL.gLt, DL.gLe, DL.gGt, DL.gGe, DL.gAdd, DL.gSub, DL.gMul, DL.gMod, DL.gDiv, DL.gPow]
      refine call_dk [_] rfl ⟨_, rfl, by decide, by decide⟩ hc1 fun y c3 m3 d3 hy hc3 => ?_
      obtain ⟨ns, tl, rfl, hv⟩ := hy
      have hf := hv.fl
      have hsm := hv.rg.small
      have hN : (spots ns).length = (spI 0 ns).length := by rw [spots_eq, List.length_map]
      have h40 : (spots ns).length ≤ 40 := by have := hv.rg.spl; have := hv.rg.sum; omega
      try dsimp only [wRet, wAnd, wOr, wUn, wOp, wCa, wCons, wNil, wVar, wC, wSeq, wNext, wPass, wAsg, wExp, wIf, wB, wIfE, wAndT, wOrT, wNotT, wTup, wLst, wSl, dSl, wNoP, wPart, wCall, wCallK, wCallO, wCallP, wDisp, wFrz, wGet1, wGet2, wPut, wNewT, wPar, wgName, wgTup, wgCons, wgNil, wiT, wiL, wiR1, wiZip, wiEnu, wiEnuA, wChain, wYes, wBM, wBM0, slot, allD, wipeS, List.map_cons, List.map_nil, List.set_cons_zero, List.set_cons_succ, List.cons_append, List.nil_append, List.isEmpty_nil, List.isEmpty_cons, Bool.not_true, Bool.not_false, wUn, dNot, dII0, dII, dEqS, dNeS, dIsN, dNotN, dNeg, ends, DL.gLt, DL.gLe, DL.gGt, DL.gGe, DL.gAdd, DL.gSub, DL.gMul, DL.gMod, DL.gDiv, DL.gPow]
      refine u_ix (z := .tuple (ns.map .int)) rfl ?_
      refine call_pur0 [.tuple (ns.map .int)] (.list (spots ns)) rfl ⟨ns, .inl rfl, hsm, rfl⟩ ?_
      try dsimp only [wRet, wAnd, wOr, wUn, wOp, wCa, wCons, wNil, wVar, wC, wSeq, wNext, wPass, wAsg, wExp, wIf, wB, wIfE, wAndT, wOrT, wNotT, wTup, wLst, wSl, dSl, wNoP, wPart, wCall, wCallK, wCallO, wCallP, wDisp, wFrz, wGet1, wGet2, wPut, wNewT, wPar, wgName, wgTup, wgCons, wgNil, wiT, wiL, wiR1, wiZip, wiEnu, wiEnuA, wChain, wYes, wBM, wBM0, slot, allD, wipeS, List.map_cons, List.map_nil, List.set_cons_zero, List.set_cons_succ, List.cons_append, List.nil_append, List.isEmpty_nil, List.isEmpty_cons, Bool.not_true, Bool.not_false, wUn, dNot, dII0, dII, dEqS, dNeS, dIsN, dNotN, dNeg, ends, DL.gLt, DL.gLe, DL.gGt, DL.gGe, DL.gAdd, DL.gSub, DL.gMul, DL.gMod, DL.gDiv, DL.gPow]
      refine call_pur [flD ns tl] (dtD (parP tl)) rfl ⟨ns, tl, rfl, hf.fw31, rfl⟩ ?_
      try dsimp only [wRet, wAnd, wOr, wUn, wOp, wCa, wCons, wNil, wVar, wC, wSeq, wNext, wPass, wAsg, wExp, wIf, wB, wIfE, wAndT, wOrT, wNotT, wTup, wLst, wSl, dSl, wNoP, wPart, wCall, wCallK, wCallO, wCallP, wDisp, wFrz, wGet1, wGet2, wPut, wNewT, wPar, wgName, wgTup, wgCons, wgNil, wiT, wiL, wiR1, wiZip, wiEnu, wiEnuA, wChain, wYes, wBM, wBM0, slot, allD, wipeS, List.map_cons, List.map_nil, List.set_cons_zero, List.set_cons_succ, List.cons_append, List.nil_append, List.isEmpty_nil, List.isEmpty_cons, Bool.not_true, Bool.not_false, wUn, dNot, dII0, dII, dEqS, dNeS, dIsN, dNotN, dNeg, ends, DL.gLt, DL.gLe, DL.gGt, DL.gGe, DL.gAdd, DL.gSub, DL.gMul, DL.gMod, DL.gDiv, DL.gPow]
      refine ⟨sz2, rfl, ?_⟩
      try dsimp only [wRet, wAnd, wOr, wUn, wOp, wCa, wCons, wNil, wVar, wC, wSeq, wNext, wPass, wAsg, wExp, wIf, wB, wIfE, wAndT, wOrT, wNotT, wTup, wLst, wSl, dSl, wNoP, wPart, wCall, wCallK, wCallO, wCallP, wDisp, wFrz, wGet1, wGet2, wPut, wNewT, wPar, wgName, wgTup, wgCons, wgNil, wiT, wiL, wiR1, wiZip, wiEnu, wiEnuA, wChain, wYes, wBM, wBM0, slot, allD, wipeS, List.map_cons, List.map_nil, List.set_cons_zero, List.set_cons_succ, List.cons_append, List.nil_append, List.isEmpty_nil, List.isEmpty_cons, Bool.not_true, Bool.not_false, wUn, dNot, dII0, dII, dEqS, dNeS, dIsN, dNotN, dNeg, ends, DL.gLt, DL.gLe, DL.gGt, DL.gGe, DL.gAdd, DL.gSub, DL.gMul, DL.gMod, DL.gDiv, DL.gPow]
      refine call_pur [flD ns tl] (.tuple (spots ns)) rfl ⟨ns, tl, rfl, hf, hsm, rfl⟩ ?_
      try dsimp only [wRet, wAnd, wOr, wUn, wOp, wCa, wCons, wNil, wVar, wC, wSeq, wNext, wPass, wAsg, wExp, wIf, wB, wIfE, wAndT, wOrT, wNotT, wTup, wLst, wSl, dSl, wNoP, wPart, wCall, wCallK, wCallO, wCallP, wDisp, wFrz, wGet1, wGet2, wPut, wNewT, wPar, wgName, wgTup, wgCons, wgNil, wiT, wiL, wiR1, wiZip, wiEnu, wiEnuA, wChain, wYes, wBM, wBM0, slot, allD, wipeS, List.map_cons, List.map_nil, List.set_cons_zero, List.set_cons_succ, List.cons_append, List.nil_append, List.isEmpty_nil, List.isEmpty_cons, Bool.not_true, Bool.not_false, wUn, dNot, dII0, dII, dEqS, dNeS, dIsN, dNotN, dNeg, ends, DL.gLt, DL.gLe, DL.gGt, DL.gGe, DL.gAdd, DL.gSub, DL.gMul, DL.gMod, DL.gDiv, DL.gPow]
      refine ⟨rfl, ?_⟩
      refine call_pur [flD ns tl] (.tuple (spots ns)) rfl ⟨ns, tl, rfl, hf, hsm, rfl⟩ ?_
      try dsimp only [wRet, wAnd, wOr, wUn, wOp, wCa, wCons, wNil, wVar, wC, wSeq, wNext, wPass, wAsg, wExp, wIf, wB, wIfE, wAndT, wOrT, wNotT, wTup, wLst, wSl, dSl, wNoP, wPart, wCall, wCallK, wCallO, wCallP, wDisp, wFrz, wGet1, wGet2, wPut, wNewT, wPar, wgName, wgTup, wgCons, wgNil, wiT, wiL, wiR1, wiZip, wiEnu, wiEnuA, wChain, wYes, wBM, wBM0, slot, allD, wipeS, List.map_cons, List.map_nil, List.set_cons_zero, List.set_cons_succ, List.cons_append, List.nil_append, List.isEmpty_nil, List.isEmpty_cons, Bool.not_true, Bool.not_false, wUn, dNot, dII0, dII, dEqS, dNeS, dIsN, dNotN, dNeg, ends, DL.gLt, DL.gLe, DL.gGt, DL.gGe, DL.gAdd, DL.gSub, DL.gMul, DL.gMod, DL.gDiv, DL.gPow]
      refine ⟨sz2, ?_⟩
      refine ⟨shows_spots hv.rg, ?_⟩
      try dsimp only [wRet, wAnd, wOr, wUn, wOp, wCa, wCons, wNil, wVar, wC, wSeq, wNext, wPass, wAsg, wExp, wIf, wB, wIfE, wAndT, wOrT, wNotT, wTup, wLst, wSl, dSl, wNoP, wPart, wCall, wCallK, wCallO, wCallP, wDisp, wFrz, wGet1, wGet2, wPut, wNewT, wPar, wgName, wgTup, wgCons, wgNil, wiT, wiL, wiR1, wiZip, wiEnu, wiEnuA, wChain, wYes, wBM, wBM0, slot, allD, wipeS, List.map_cons, List.map_nil, List.set_cons_zero, List.set_cons_succ, List.cons_append, List.nil_append, List.isEmpty_nil, List.isEmpty_cons, Bool.not_true, Bool.not_false, wUn, dNot, dII0, dII, dEqS, dNeS, dIsN, dNotN, dNeg, ends, DL.gLt, DL.gLe, DL.gGt, DL.gGe, DL.gAdd, DL.gSub, DL.gMul, DL.gMod, DL.gDiv, DL.gPow]
      refine ⟨spots ns, rfl, ?_⟩
      try dsimp only [wRet, wAnd, wOr, wUn, wOp, wCa, wCons, wNil, wVar, wC, wSeq, wNext, wPass, wAsg, wExp, wIf, wB, wIfE, wAndT, wOrT, wNotT, wTup, wLst, wSl, dSl, wNoP, wPart, wCall, wCallK, wCallO, wCallP, wDisp, wFrz, wGet1, wGet2, wPut, wNewT, wPar, wgName, wgTup, wgCons, wgNil, wiT, wiL, wiR1, wiZip, wiEnu, wiEnuA, wChain, wYes, wBM, wBM0, slot, allD, wipeS, List.map_cons, List.map_nil, List.set_cons_zero, List.set_cons_succ, List.cons_append, List.nil_append, List.isEmpty_nil, List.isEmpty_cons, Bool.not_true, Bool.not_false, wUn, dNot, dII0, dII, dEqS, dNeS, dIsN, dNotN, dNeg, ends, DL.gLt, DL.gLe, DL.gGt, DL.gGe, DL.gAdd, DL.gSub, DL.gMul, DL.gMod, DL.gDiv, DL.gPow]
      refine ⟨(by show 1 ≤ sizeLine; decide), ?_⟩
      refine ⟨(fun z => nomatch z), by decide, by decide, (by show 1 ≤ 1000; decide), ?_⟩
      refine ⟨shows_spots hv.rg, ?_⟩
      try dsimp only [wRet, wAnd, wOr, wUn, wOp, wCa, wCons, wNil, wVar, wC, wSeq, wNext, wPass, wAsg, wExp, wIf, wB, wIfE, wAndT, wOrT, wNotT, wTup, wLst, wSl, dSl, wNoP, wPart, wCall, wCallK, wCallO, wCallP, wDisp, wFrz, wGet1, wGet2, wPut, wNewT, wPar, wgName, wgTup, wgCons, wgNil, wiT, wiL, wiR1, wiZip, wiEnu, wiEnuA, wChain, wYes, wBM, wBM0, slot, allD, wipeS, List.map_cons, List.map_nil, List.set_cons_zero, List.set_cons_succ, List.cons_append, List.nil_append, List.isEmpty_nil, List.isEmpty_cons, Bool.not_true, Bool.not_false, wUn, dNot, dII0, dII, dEqS, dNeS, dIsN, dNotN, dNeg, ends, DL.gLt, DL.gLe, DL.gGt, DL.gGe, DL.gAdd, DL.gSub, DL.gMul, DL.gMod, DL.gDiv, DL.gPow]
      rw [show repD (Int.toNat 2) [PyData.tuple (spots ns)] = [PyData.tuple (spots ns), PyData.tuple (spots ns)] from rfl, decide_eq_true rfl]
      try dsimp only [wRet, wAnd, wOr, wUn, wOp, wCa, wCons, wNil, wVar, wC, wSeq, wNext, wPass, wAsg, wExp, wIf, wB, wIfE, wAndT, wOrT, wNotT, wTup, wLst, wSl, dSl, wNoP, wPart, wCall, wCallK, wCallO, wCallP, wDisp, wFrz, wGet1, wGet2, wPut, wNewT, wPar, wgName, wgTup, wgCons, wgNil, wiT, wiL, wiR1, wiZip, wiEnu, wiEnuA, wChain, wYes, wBM, wBM0, slot, allD, wipeS, List.map_cons, List.map_nil, List.set_cons_zero, List.set_cons_succ, List.cons_append, List.nil_append, List.isEmpty_nil, List.isEmpty_cons, Bool.not_true, Bool.not_false, wUn, dNot, dII0, dII, dEqS, dNeS, dIsN, dNotN, dNeg, ends, DL.gLt, DL.gLe, DL.gGt, DL.gGe, DL.gAdd, DL.gSub, DL.gMul, DL.gMod, DL.gDiv, DL.gPow]
      refine u_lenL ?_
      try dsimp only [wRet, wAnd, wOr, wUn, wOp, wCa, wCons, wNil, wVar, wC, wSeq, wNext, wPass, wAsg, wExp, wIf, wB, wIfE, wAndT, wOrT, wNotT, wTup, wLst, wSl, dSl, wNoP, wPart, wCall, wCallK, wCallO, wCallP, wDisp, wFrz, wGet1, wGet2, wPut, wNewT, wPar, wgName, wgTup, wgCons, wgNil, wiT, wiL, wiR1, wiZip, wiEnu, wiEnuA, wChain, wYes, wBM, wBM0, slot, allD, wipeS, List.map_cons, List.map_nil, List.set_cons_zero, List.set_cons_succ, List.cons_append, List.nil_append, List.isEmpty_nil, List.isEmpty_cons, Bool.not_true, Bool.not_false, wUn, dNot, dII0, dII, dEqS, dNeS, dIsN, dNotN, dNeg, ends, DL.gLt, DL.gLe, DL.gGt, DL.gGe, DL.gAdd, DL.gSub, DL.gMul, DL.gMod, DL.gDiv, DL.gPow]
      by_cases h9 : ((spots ns).length : Int) < 9
      · rw [decide_eq_true h9]
        try dsimp only [wRet, wAnd, wOr, wUn, wOp, wCa, wCons, wNil, wVar, wC, wSeq, wNext, wPass, wAsg, wExp, wIf, wB, wIfE, wAndT, wOrT, wNotT, wTup, wLst, wSl, dSl, wNoP, wPart, wCall, wCallK, wCallO, wCallP, wDisp, wFrz, wGet1, wGet2, wPut, wNewT, wPar, wgName, wgTup, wgCons, wgNil, wiT, wiL, wiR1, wiZip, wiEnu, wiEnuA, wChain, wYes, wBM, wBM0, slot, allD, wipeS, List.map_cons, List.map_nil, List.set_cons_zero, List.set_cons_succ, List.cons_append, List.nil_append, List.isEmpty_nil, List.isEmpty_cons, Bool.not_true, Bool.not_false, wUn, dNot, dII0, dII, dEqS, dNeS, dIsN, dNotN, dNeg, ends, DL.gLt, DL.gLe, DL.gGt, DL.gGe, DL.gAdd, DL.gSub, DL.gMul, DL.gMod, DL.gDiv, DL.gPow]
        refine u_lenL ?_
        refine ⟨⟨by omega, by omega, by omega, by omega, by omega⟩, ?_⟩
        try dsimp only [wRet, wAnd, wOr, wUn, wOp, wCa, wCons, wNil, wVar, wC, wSeq, wNext, wPass, wAsg, wExp, wIf, wB, wIfE, wAndT, wOrT, wNotT, wTup, wLst, wSl, dSl, wNoP, wPart, wCall, wCallK, wCallO, wCallP, wDisp, wFrz, wGet1, wGet2, wPut, wNewT, wPar, wgName, wgTup, wgCons, wgNil, wiT, wiL, wiR1, wiZip, wiEnu, wiEnuA, wChain, wYes, wBM, wBM0, slot, allD, wipeS, List.map_cons, List.map_nil, List.set_cons_zero, List.set_cons_succ, List.cons_append, List.nil_append, List.isEmpty_nil, List.isEmpty_cons, Bool.not_true, Bool.not_false, wUn, dNot, dII0, dII, dEqS, dNeS, dIsN, dNotN, dNeg, ends, DL.gLt, DL.gLe, DL.gGt, DL.gGe, DL.gAdd, DL.gSub, DL.gMul, DL.gMod, DL.gDiv, DL.gPow]
        have hmem : ∀ z ∈ (rng 0 ((spots ns).length : Int).toNat), ∃ k : Int, z = .int k ∧ 0 ≤ k ∧ k < (spots ns).length := (fun z hz => by obtain ⟨j, hj⟩ := List.getElem?_of_mem hz; obtain ⟨h1, rfl⟩ := rng_get hj; exact ⟨_, rfl, by omega, by omega⟩)
        refine for_in (rng 0 ((spots ns).length : Int).toNat) ⟨[some (.d (.list (ss.map .int))), some (.o 0), some (.d x), some (.d (flD ns tl)), some (.d (.list (spots ns))), some (.d (dtD (parP tl))), some (.d (.list (rng 0 ((spots ns).length : Int).toNat))), a7.map .d, none, none], deckO m3 d3 :: cellsO c3 :: (rest ++ [.gone])⟩ (fun j ρ' => ∃ (c' : List Int) (m' d' : Int) (r' : List OB) (b7 : Option PyData), c'.length ≤ 63 ∧ ρ' = ⟨[some (.d (.list (ss.map .int))), some (.o 0), some (.d x), some (.d (flD ns tl)), some (.d (.list (spots ns))), some (.d (dtD (parP tl))), some (.d (.list (rng 0 ((spots ns).length : Int).toNat))), b7.map .d, none, none], deckO m' d' :: cellsO c' :: r'⟩) (fun C h => ?_) ⟨c3, m3, d3, _, a7, hc3, rfl⟩ ?_ ?_
        · try dsimp only [wRet, wAnd, wOr, wUn, wOp, wCa, wCons, wNil, wVar, wC, wSeq, wNext, wPass, wAsg, wExp, wIf, wB, wIfE, wAndT, wOrT, wNotT, wTup, wLst, wSl, dSl, wNoP, wPart, wCall, wCallK, wCallO, wCallP, wDisp, wFrz, wGet1, wGet2, wPut, wNewT, wPar, wgName, wgTup, wgCons, wgNil, wiT, wiL, wiR1, wiZip, wiEnu, wiEnuA, wChain, wYes, wBM, wBM0, slot, allD, wipeS, List.map_cons, List.map_nil, List.set_cons_zero, List.set_cons_succ, List.cons_append, List.nil_append, List.isEmpty_nil, List.isEmpty_cons, Bool.not_true, Bool.not_false, wUn, dNot, dII0, dII, dEqS, dNeS, dIsN, dNotN, dNeg, ends, DL.gLt, DL.gLe, DL.gGt, DL.gGe, DL.gAdd, DL.gSub, DL.gMul, DL.gMod, DL.gDiv, DL.gPow]
          rw [frz_of (ρ := ⟨_, deckO m3 d3 :: cellsO c3 :: (rest ++ [OB.lst ((rng 0 ((spots ns).length : Int).toNat).map .d)])⟩) (rng 0 ((spots ns).length : Int).toNat) (obK_last (ob := deckO m3 d3 :: cellsO c3 :: rest))]
          dsimp only
          rw [ren10 (k := (deckO m3 d3 :: cellsO c3 :: rest).length) (fun z => nomatch z), show (deckO m3 d3 :: cellsO c3 :: (rest ++ [OB.lst ((rng 0 ((spots ns).length : Int).toNat).map .d)])).set (deckO m3 d3 :: cellsO c3 :: rest).length OB.gone = deckO m3 d3 :: cellsO c3 :: (rest ++ [OB.gone]) from set_last (deckO m3 d3 :: cellsO c3 :: rest) _ _]
          exact h
        · rintro j z ρ' hz ⟨c4, m4, d4, r4, b7, hc4, rfl⟩
          obtain ⟨k, rfl, k0, k1⟩ := hmem z (List.mem_of_getElem? hz)
          have hk : k.toNat < (spI 0 ns).length := by rw [hN] at k1; omega
          have hp := List.getElem?_eq_getElem hk
          have ha : atI (spots ns) k = some (plP (spI 0 ns)[k.toNat]) := by
            have := atI_nat (spots_get hp)
            rwa [Int.toNat_of_nonneg k0] at this
          try dsimp only [wRet, wAnd, wOr, wUn, wOp, wCa, wCons, wNil, wVar, wC, wSeq, wNext, wPass, wAsg, wExp, wIf, wB, wIfE, wAndT, wOrT, wNotT, wTup, wLst, wSl, dSl, wNoP, wPart, wCall, wCallK, wCallO, wCallP, wDisp, wFrz, wGet1, wGet2, wPut, wNewT, wPar, wgName, wgTup, wgCons, wgNil, wiT, wiL, wiR1, wiZip, wiEnu, wiEnuA, wChain, wYes, wBM, wBM0, slot, allD, wipeS, List.map_cons, List.map_nil, List.set_cons_zero, List.set_cons_succ, List.cons_append, List.nil_append, List.isEmpty_nil, List.isEmpty_cons, Bool.not_true, Bool.not_false, wUn, dNot, dII0, dII, dEqS, dNeS, dIsN, dNotN, dNeg, ends, DL.gLt, DL.gLe, DL.gGt, DL.gGe, DL.gAdd, DL.gSub, DL.gMul, DL.gMod, DL.gDiv, DL.gPow]
          refine u_ixL ha ?_
          try dsimp only [wRet, wAnd, wOr, wUn, wOp, wCa, wCons, wNil, wVar, wC, wSeq, wNext, wPass, wAsg, wExp, wIf, wB, wIfE, wAndT, wOrT, wNotT, wTup, wLst, wSl, dSl, wNoP, wPart, wCall, wCallK, wCallO, wCallP, wDisp, wFrz, wGet1, wGet2, wPut, wNewT, wPar, wgName, wgTup, wgCons, wgNil, wiT, wiL, wiR1, wiZip, wiEnu, wiEnuA, wChain, wYes, wBM, wBM0, slot, allD, wipeS, List.map_cons, List.map_nil, List.set_cons_zero, List.set_cons_succ, List.cons_append, List.nil_append, List.isEmpty_nil, List.isEmpty_cons, Bool.not_true, Bool.not_false, wUn, dNot, dII0, dII, dEqS, dNeS, dIsN, dNotN, dNeg, ends, DL.gLt, DL.gLe, DL.gGt, DL.gGe, DL.gAdd, DL.gSub, DL.gMul, DL.gMod, DL.gDiv, DL.gPow]
          refine call_dk [flD ns tl, plP (spI 0 ns)[k.toNat], .int k, dtD (parP tl)] rfl ⟨ns, tl, _, _, k, rfl, hv, k0, hp⟩ hc4 fun y c5 m5 d5 hy hc5 => ?_
          subst hy
          try dsimp only [wRet, wAnd, wOr, wUn, wOp, wCa, wCons, wNil, wVar, wC, wSeq, wNext, wPass, wAsg, wExp, wIf, wB, wIfE, wAndT, wOrT, wNotT, wTup, wLst, wSl, dSl, wNoP, wPart, wCall, wCallK, wCallO, wCallP, wDisp, wFrz, wGet1, wGet2, wPut, wNewT, wPar, wgName, wgTup, wgCons, wgNil, wiT, wiL, wiR1, wiZip, wiEnu, wiEnuA, wChain, wYes, wBM, wBM0, slot, allD, wipeS, List.map_cons, List.map_nil, List.set_cons_zero, List.set_cons_succ, List.cons_append, List.nil_append, List.isEmpty_nil, List.isEmpty_cons, Bool.not_true, Bool.not_false, wUn, dNot, dII0, dII, dEqS, dNeS, dIsN, dNotN, dNeg, ends, DL.gLt, DL.gLe, DL.gGt, DL.gGe, DL.gAdd, DL.gSub, DL.gMul, DL.gMod, DL.gDiv, DL.gPow]
          rw [Bool.not_true]
          try dsimp only [wRet, wAnd, wOr, wUn, wOp, wCa, wCons, wNil, wVar, wC, wSeq, wNext, wPass, wAsg, wExp, wIf, wB, wIfE, wAndT, wOrT, wNotT, wTup, wLst, wSl, dSl, wNoP, wPart, wCall, wCallK, wCallO, wCallP, wDisp, wFrz, wGet1, wGet2, wPut, wNewT, wPar, wgName, wgTup, wgCons, wgNil, wiT, wiL, wiR1, wiZip, wiEnu, wiEnuA, wChain, wYes, wBM, wBM0, slot, allD, wipeS, List.map_cons, List.map_nil, List.set_cons_zero, List.set_cons_succ, List.cons_append, List.nil_append, List.isEmpty_nil, List.isEmpty_cons, Bool.not_true, Bool.not_false, wUn, dNot, dII0, dII, dEqS, dNeS, dIsN, dNotN, dNeg, ends, DL.gLt, DL.gLe, DL.gGt, DL.gGe, DL.gAdd, DL.gSub, DL.gMul, DL.gMod, DL.gDiv, DL.gPow]
          exact ⟨c5, m5, d5, r4, some (.int k), hc5, rfl⟩
        · rintro ρ' ⟨c4, m4, d4, r4, b7, hc4, rfl⟩
          try dsimp only [wRet, wAnd, wOr, wUn, wOp, wCa, wCons, wNil, wVar, wC, wSeq, wNext, wPass, wAsg, wExp, wIf, wB, wIfE, wAndT, wOrT, wNotT, wTup, wLst, wSl, dSl, wNoP, wPart, wCall, wCallK, wCallO, wCallP, wDisp, wFrz, wGet1, wGet2, wPut, wNewT, wPar, wgName, wgTup, wgCons, wgNil, wiT, wiL, wiR1, wiZip, wiEnu, wiEnuA, wChain, wYes, wBM, wBM0, slot, allD, wipeS, List.map_cons, List.map_nil, List.set_cons_zero, List.set_cons_succ, List.cons_append, List.nil_append, List.isEmpty_nil, List.isEmpty_cons, Bool.not_true, Bool.not_false, wUn, dNot, dII0, dII, dEqS, dNeS, dIsN, dNotN, dNeg, ends, DL.gLt, DL.gLe, DL.gGt, DL.gGe, DL.gAdd, DL.gSub, DL.gMul, DL.gMod, DL.gDiv, DL.gPow]
          refine lc_inv (spots ns) ⟨[some (.d (.list (ss.map .int))), some (.o 0), some (.d x), some (.d (flD ns tl)), some (.d (.list (spots ns))), some (.d (dtD (parP tl))), some (.d (.list (rng 0 ((spots ns).length : Int).toNat))), b7.map .d, none, none], deckO m4 d4 :: cellsO c4 :: r4⟩ (fun i ob acc => ob = deckO m4 d4 :: cellsO c4 :: r4 ∧ acc = (((spI 0 ns).take i).filter fun p => (mateI tl p).isSome).map plP) (fun C h => h) ⟨rfl, rfl⟩ ?_ ?_
          · rintro i' z ob acc hz ⟨rfl, rfl⟩ _
            rw [spots_eq, List.getElem?_map] at hz
            cases hq : (spI 0 ns)[i']? with
            | none => rw [hq] at hz; cases hz
            | some p =>
              rw [hq] at hz
              obtain rfl := Option.some.inj hz
              have hi' : i' < (spI 0 ns).length := (List.getElem?_eq_some_iff.mp hq).1
              have hpl : isPl ns (plD p.1 p.2) = true := pl_iff.mpr (List.mem_of_getElem? hq)
              have et : (((spI 0 ns).take (i' + 1)).filter fun p => (mateI tl p).isSome) = (((spI 0 ns).take i').filter fun p => (mateI tl p).isSome) ++ (if (mateI tl p).isSome then [p] else []) := by
                exact filter_take (fun p => (mateI tl p).isSome) hq
              have hpo := par_of hv.nd p.1 p.2
              unfold plP
              try dsimp only [wRet, wAnd, wOr, wUn, wOp, wCa, wCons, wNil, wVar, wC, wSeq, wNext, wPass, wAsg, wExp, wIf, wB, wIfE, wAndT, wOrT, wNotT, wTup, wLst, wSl, dSl, wNoP, wPart, wCall, wCallK, wCallO, wCallP, wDisp, wFrz, wGet1, wGet2, wPut, wNewT, wPar, wgName, wgTup, wgCons, wgNil, wiT, wiL, wiR1, wiZip, wiEnu, wiEnuA, wChain, wYes, wBM, wBM0, slot, allD, wipeS, List.map_cons, List.map_nil, List.set_cons_zero, List.set_cons_succ, List.cons_append, List.nil_append, List.isEmpty_nil, List.isEmpty_cons, Bool.not_true, Bool.not_false, wUn, dNot, dII0, dII, dEqS, dNeS, dIsN, dNotN, dNeg, ends, DL.gLt, DL.gLe, DL.gGt, DL.gGe, DL.gAdd, DL.gSub, DL.gMul, DL.gMod, DL.gDiv, DL.gPow]
              refine call_pur [flD ns tl, plD p.1 p.2] (parOf tl p.1 p.2) rfl ⟨ns, tl, p.1, p.2, rfl, hf, hpl, rfl⟩ ?_
              try dsimp only [wRet, wAnd, wOr, wUn, wOp, wCa, wCons, wNil, wVar, wC, wSeq, wNext, wPass, wAsg, wExp, wIf, wB, wIfE, wAndT, wOrT, wNotT, wTup, wLst, wSl, dSl, wNoP, wPart, wCall, wCallK, wCallO, wCallP, wDisp, wFrz, wGet1, wGet2, wPut, wNewT, wPar, wgName, wgTup, wgCons, wgNil, wiT, wiL, wiR1, wiZip, wiEnu, wiEnuA, wChain, wYes, wBM, wBM0, slot, allD, wipeS, List.map_cons, List.map_nil, List.set_cons_zero, List.set_cons_succ, List.cons_append, List.nil_append, List.isEmpty_nil, List.isEmpty_cons, Bool.not_true, Bool.not_false, wUn, dNot, dII0, dII, dEqS, dNeS, dIsN, dNotN, dNeg, ends, DL.gLt, DL.gLe, DL.gGt, DL.gGe, DL.gAdd, DL.gSub, DL.gMul, DL.gMod, DL.gDiv, DL.gPow]
              have hpo : parOf tl p.1 p.2 = ((mateI tl p).map plP).getD .none := hpo
              cases hm : mateI tl p with
              | none =>
                rw [hm] at hpo et
                rw [hpo]
                try dsimp only [wRet, wAnd, wOr, wUn, wOp, wCa, wCons, wNil, wVar, wC, wSeq, wNext, wPass, wAsg, wExp, wIf, wB, wIfE, wAndT, wOrT, wNotT, wTup, wLst, wSl, dSl, wNoP, wPart, wCall, wCallK, wCallO, wCallP, wDisp, wFrz, wGet1, wGet2, wPut, wNewT, wPar, wgName, wgTup, wgCons, wgNil, wiT, wiL, wiR1, wiZip, wiEnu, wiEnuA, wChain, wYes, wBM, wBM0, slot, allD, wipeS, List.map_cons, List.map_nil, List.set_cons_zero, List.set_cons_succ, List.cons_append, List.nil_append, List.isEmpty_nil, List.isEmpty_cons, Bool.not_true, Bool.not_false, wUn, dNot, dII0, dII, dEqS, dNeS, dIsN, dNotN, dNeg, ends, DL.gLt, DL.gLe, DL.gGt, DL.gGe, DL.gAdd, DL.gSub, DL.gMul, DL.gMod, DL.gDiv, DL.gPow]
                refine ⟨_, rfl, rfl, rfl, ?_⟩
                rw [et]
                simp
              | some q =>
                rw [hm] at hpo et
                rw [hpo]
                try dsimp only [wRet, wAnd, wOr, wUn, wOp, wCa, wCons, wNil, wVar, wC, wSeq, wNext, wPass, wAsg, wExp, wIf, wB, wIfE, wAndT, wOrT, wNotT, wTup, wLst, wSl, dSl, wNoP, wPart, wCall, wCallK, wCallO, wCallP, wDisp, wFrz, wGet1, wGet2, wPut, wNewT, wPar, wgName, wgTup, wgCons, wgNil, wiT, wiL, wiR1, wiZip, wiEnu, wiEnuA, wChain, wYes, wBM, wBM0, slot, allD, wipeS, List.map_cons, List.map_nil, List.set_cons_zero, List.set_cons_succ, List.cons_append, List.nil_append, List.isEmpty_nil, List.isEmpty_cons, Bool.not_true, Bool.not_false, wUn, dNot, dII0, dII, dEqS, dNeS, dIsN, dNotN, dNeg, ends, DL.gLt, DL.gLe, DL.gGt, DL.gGe, DL.gAdd, DL.gSub, DL.gMul, DL.gMod, DL.gDiv, DL.gPow]
                refine ⟨?_, plP p, _, [], rfl, rfl, rfl, .inl rfl, rfl, ?_⟩
                · rw [List.length_map]
                  refine small1000 (Nat.le_trans (List.length_filter_le _ _) ?_)
                  rw [List.length_take]
                  omega
                · rw [et, List.map_append]
                  rfl
          · rintro ob acc ⟨rfl, rfl⟩ _
            have hlen : (spots ns).length = (spI 0 ns).length := by rw [spots_eq, List.length_map]
            rw [show (spI 0 ns).take (spots ns).length = spI 0 ns from by rw [hlen, List.take_length]]
            try dsimp only [wRet, wAnd, wOr, wUn, wOp, wCa, wCons, wNil, wVar, wC, wSeq, wNext, wPass, wAsg, wExp, wIf, wB, wIfE, wAndT, wOrT, wNotT, wTup, wLst, wSl, dSl, wNoP, wPart, wCall, wCallK, wCallO, wCallP, wDisp, wFrz, wGet1, wGet2, wPut, wNewT, wPar, wgName, wgTup, wgCons, wgNil, wiT, wiL, wiR1, wiZip, wiEnu, wiEnuA, wChain, wYes, wBM, wBM0, slot, allD, wipeS, List.map_cons, List.map_nil, List.set_cons_zero, List.set_cons_succ, List.cons_append, List.nil_append, List.isEmpty_nil, List.isEmpty_cons, Bool.not_true, Bool.not_false, wUn, dNot, dII0, dII, dEqS, dNeS, dIsN, dNotN, dNeg, ends, DL.gLt, DL.gLe, DL.gGt, DL.gGe, DL.gAdd, DL.gSub, DL.gMul, DL.gMod, DL.gDiv, DL.gPow]
            have ek : (((parP tl).map (·.1)).map tupP) = (tl.flatMap sd).map plP := by
              rw [par_keys hv.nd, List.map_map]
              rfl
            refine ⟨_, _, dat_of (obK_last (ob := deckO m4 d4 :: cellsO c4 :: r4)), keys_dt (parP tl), by rw [ek]; exact (sorts_pl _).2.1, by rw [ek]; exact (sorts_pl _).2.2.1, eqs_pls _, ?_, ?_⟩
            · rw [par_keys hv.nd, keys_sorted hv]
              exact eqs_pls _
            · rw [par_keys hv.nd, keys_sorted hv, eqv_pls, Bool.not_true]
              try dsimp only [wRet, wAnd, wOr, wUn, wOp, wCa, wCons, wNil, wVar, wC, wSeq, wNext, wPass, wAsg, wExp, wIf, wB, wIfE, wAndT, wOrT, wNotT, wTup, wLst, wSl, dSl, wNoP, wPart, wCall, wCallK, wCallO, wCallP, wDisp, wFrz, wGet1, wGet2, wPut, wNewT, wPar, wgName, wgTup, wgCons, wgNil, wiT, wiL, wiR1, wiZip, wiEnu, wiEnuA, wChain, wYes, wBM, wBM0, slot, allD, wipeS, List.map_cons, List.map_nil, List.set_cons_zero, List.set_cons_succ, List.cons_append, List.nil_append, List.isEmpty_nil, List.isEmpty_cons, Bool.not_true, Bool.not_false, wUn, dNot, dII0, dII, dEqS, dNeS, dIsN, dNotN, dNeg, ends, DL.gLt, DL.gLe, DL.gGt, DL.gGe, DL.gAdd, DL.gSub, DL.gMul, DL.gMod, DL.gDiv, DL.gPow]
              exact ⟨c4, m4, d4, _, some x, some (flD ns tl), some (.list (spots ns)), some (dtD (parP tl)), some (.list (rng 0 ((spots ns).length : Int).toNat)), b7, hc4, rfl⟩
      · rw [decide_eq_false h9]
        try dsimp only [wRet, wAnd, wOr, wUn, wOp, wCa, wCons, wNil, wVar, wC, wSeq, wNext, wPass, wAsg, wExp, wIf, wB, wIfE, wAndT, wOrT, wNotT, wTup, wLst, wSl, dSl, wNoP, wPart, wCall, wCallK, wCallO, wCallP, wDisp, wFrz, wGet1, wGet2, wPut, wNewT, wPar, wgName, wgTup, wgCons, wgNil, wiT, wiL, wiR1, wiZip, wiEnu, wiEnuA, wChain, wYes, wBM, wBM0, slot, allD, wipeS, List.map_cons, List.map_nil, List.set_cons_zero, List.set_cons_succ, List.cons_append, List.nil_append, List.isEmpty_nil, List.isEmpty_cons, Bool.not_true, Bool.not_false, wUn, dNot, dII0, dII, dEqS, dNeS, dIsN, dNotN, dNeg, ends, DL.gLt, DL.gLe, DL.gGt, DL.gGe, DL.gAdd, DL.gSub, DL.gMul, DL.gMod, DL.gDiv, DL.gPow]
        refine lc_inv (rng 0 8) ⟨[some (.d (.list (ss.map .int))), some (.o 0), some (.d x), some (.d (flD ns tl)), some (.d (.list (spots ns))), some (.d (dtD (parP tl))), a6.map .d, a7.map .d, none, none], deckO m3 d3 :: cellsO c3 :: rest⟩ (fun i ob acc => ∃ (c' : List Int) (m' d' : Int), c'.length ≤ 63 ∧ ob = deckO m' d' :: cellsO c' :: rest ∧ acc.length = i ∧ ∀ z ∈ acc, ∃ k : Int, z = .int k ∧ 0 ≤ k ∧ k < (spots ns).length) (fun C h => ⟨by unfold RgB; decide, h⟩) ⟨c3, m3, d3, hc3, rfl, rfl, fun _ h => nomatch h⟩ ?_ ?_
        · rintro i' z ob acc hz ⟨c4, m4, d4, hc4, rfl, hal, hall⟩ _
          have hi8 : i' < 8 := by
            have := (List.getElem?_eq_some_iff.mp hz).1
            rwa [rng_len] at this
          try dsimp only [wRet, wAnd, wOr, wUn, wOp, wCa, wCons, wNil, wVar, wC, wSeq, wNext, wPass, wAsg, wExp, wIf, wB, wIfE, wAndT, wOrT, wNotT, wTup, wLst, wSl, dSl, wNoP, wPart, wCall, wCallK, wCallO, wCallP, wDisp, wFrz, wGet1, wGet2, wPut, wNewT, wPar, wgName, wgTup, wgCons, wgNil, wiT, wiL, wiR1, wiZip, wiEnu, wiEnuA, wChain, wYes, wBM, wBM0, slot, allD, wipeS, List.map_cons, List.map_nil, List.set_cons_zero, List.set_cons_succ, List.cons_append, List.nil_append, List.isEmpty_nil, List.isEmpty_cons, Bool.not_true, Bool.not_false, wUn, dNot, dII0, dII, dEqS, dNeS, dIsN, dNotN, dNeg, ends, DL.gLt, DL.gLe, DL.gGt, DL.gGe, DL.gAdd, DL.gSub, DL.gMul, DL.gMod, DL.gDiv, DL.gPow]
          refine u_lenL ?_
          refine call_dk [_] rfl ⟨_, rfl, by omega, by omega⟩ hc4 fun y c5 m5 d5 hy hc5 => ?_
          obtain ⟨q, r', e, rfl, r0, r1⟩ := hy
          injection e with e
          injection e with e
          subst e
          refine ⟨small1000 (by omega), .int r', deckO m5 d5 :: cellsO c5 :: rest, [], rfl, rfl, rfl, .inl rfl, c5, m5, d5, hc5, rfl, by rw [List.length_append, hal]; rfl, fun w hw => ?_⟩
          rcases List.mem_append.mp hw with hw | hw
          · exact hall w hw
          · exact ⟨r', List.mem_singleton.mp hw, r0, r1⟩
        · rintro ob acc ⟨c3, m3, d3, hc3, rfl, hal, hall⟩ _
          try dsimp only [wRet, wAnd, wOr, wUn, wOp, wCa, wCons, wNil, wVar, wC, wSeq, wNext, wPass, wAsg, wExp, wIf, wB, wIfE, wAndT, wOrT, wNotT, wTup, wLst, wSl, dSl, wNoP, wPart, wCall, wCallK, wCallO, wCallP, wDisp, wFrz, wGet1, wGet2, wPut, wNewT, wPar, wgName, wgTup, wgCons, wgNil, wiT, wiL, wiR1, wiZip, wiEnu, wiEnuA, wChain, wYes, wBM, wBM0, slot, allD, wipeS, List.map_cons, List.map_nil, List.set_cons_zero, List.set_cons_succ, List.cons_append, List.nil_append, List.isEmpty_nil, List.isEmpty_cons, Bool.not_true, Bool.not_false, wUn, dNot, dII0, dII, dEqS, dNeS, dIsN, dNotN, dNeg, ends, DL.gLt, DL.gLe, DL.gGt, DL.gGe, DL.gAdd, DL.gSub, DL.gMul, DL.gMod, DL.gDiv, DL.gPow]
          have hmem : ∀ z ∈ acc, ∃ k : Int, z = .int k ∧ 0 ≤ k ∧ k < (spots ns).length := hall
          refine for_in acc ⟨[some (.d (.list (ss.map .int))), some (.o 0), some (.d x), some (.d (flD ns tl)), some (.d (.list (spots ns))), some (.d (dtD (parP tl))), some (.d (.list acc)), a7.map .d, none, none], deckO m3 d3 :: cellsO c3 :: (rest ++ [.gone])⟩ (fun j ρ' => ∃ (c' : List Int) (m' d' : Int) (r' : List OB) (b7 : Option PyData), c'.length ≤ 63 ∧ ρ' = ⟨[some (.d (.list (ss.map .int))), some (.o 0), some (.d x), some (.d (flD ns tl)), some (.d (.list (spots ns))), some (.d (dtD (parP tl))), some (.d (.list acc)), b7.map .d, none, none], deckO m' d' :: cellsO c' :: r'⟩) (fun C h => ?_) ⟨c3, m3, d3, _, a7, hc3, rfl⟩ ?_ ?_
          · try dsimp only [wRet, wAnd, wOr, wUn, wOp, wCa, wCons, wNil, wVar, wC, wSeq, wNext, wPass, wAsg, wExp, wIf, wB, wIfE, wAndT, wOrT, wNotT, wTup, wLst, wSl, dSl, wNoP, wPart, wCall, wCallK, wCallO, wCallP, wDisp, wFrz, wGet1, wGet2, wPut, wNewT, wPar, wgName, wgTup, wgCons, wgNil, wiT, wiL, wiR1, wiZip, wiEnu, wiEnuA, wChain, wYes, wBM, wBM0, slot, allD, wipeS, List.map_cons, List.map_nil, List.set_cons_zero, List.set_cons_succ, List.cons_append, List.nil_append, List.isEmpty_nil, List.isEmpty_cons, Bool.not_true, Bool.not_false, wUn, dNot, dII0, dII, dEqS, dNeS, dIsN, dNotN, dNeg, ends, DL.gLt, DL.gLe, DL.gGt, DL.gGe, DL.gAdd, DL.gSub, DL.gMul, DL.gMod, DL.gDiv, DL.gPow]
            rw [frz_of (ρ := ⟨_, deckO m3 d3 :: cellsO c3 :: (rest ++ [OB.lst (acc.map .d)])⟩) acc (obK_last (ob := deckO m3 d3 :: cellsO c3 :: rest))]
            dsimp only
            rw [ren10 (k := (deckO m3 d3 :: cellsO c3 :: rest).length) (fun z => nomatch z), show (deckO m3 d3 :: cellsO c3 :: (rest ++ [OB.lst (acc.map .d)])).set (deckO m3 d3 :: cellsO c3 :: rest).length OB.gone = deckO m3 d3 :: cellsO c3 :: (rest ++ [OB.gone]) from set_last (deckO m3 d3 :: cellsO c3 :: rest) _ _]
            exact h
          · rintro j z ρ' hz ⟨c4, m4, d4, r4, b7, hc4, rfl⟩
            obtain ⟨k, rfl, k0, k1⟩ := hmem z (List.mem_of_getElem? hz)
            have hk : k.toNat < (spI 0 ns).length := by rw [hN] at k1; omega
            have hp := List.getElem?_eq_getElem hk
            have ha : atI (spots ns) k = some (plP (spI 0 ns)[k.toNat]) := by
              have := atI_nat (spots_get hp)
              rwa [Int.toNat_of_nonneg k0] at this
            try dsimp only [wRet, wAnd, wOr, wUn, wOp, wCa, wCons, wNil, wVar, wC, wSeq, wNext, wPass, wAsg, wExp, wIf, wB, wIfE, wAndT, wOrT, wNotT, wTup, wLst, wSl, dSl, wNoP, wPart, wCall, wCallK, wCallO, wCallP, wDisp, wFrz, wGet1, wGet2, wPut, wNewT, wPar, wgName, wgTup, wgCons, wgNil, wiT, wiL, wiR1, wiZip, wiEnu, wiEnuA, wChain, wYes, wBM, wBM0, slot, allD, wipeS, List.map_cons, List.map_nil, List.set_cons_zero, List.set_cons_succ, List.cons_append, List.nil_append, List.isEmpty_nil, List.isEmpty_cons, Bool.not_true, Bool.not_false, wUn, dNot, dII0, dII, dEqS, dNeS, dIsN, dNotN, dNeg, ends, DL.gLt, DL.gLe, DL.gGt, DL.gGe, DL.gAdd, DL.gSub, DL.gMul, DL.gMod, DL.gDiv, DL.gPow]
            refine u_ixL ha ?_
            try dsimp only [wRet, wAnd, wOr, wUn, wOp, wCa, wCons, wNil, wVar, wC, wSeq, wNext, wPass, wAsg, wExp, wIf, wB, wIfE, wAndT, wOrT, wNotT, wTup, wLst, wSl, dSl, wNoP, wPart, wCall, wCallK, wCallO, wCallP, wDisp, wFrz, wGet1, wGet2, wPut, wNewT, wPar, wgName, wgTup, wgCons, wgNil, wiT, wiL, wiR1, wiZip, wiEnu, wiEnuA, wChain, wYes, wBM, wBM0, slot, allD, wipeS, List.map_cons, List.map_nil, List.set_cons_zero, List.set_cons_succ, List.cons_append, List.nil_append, List.isEmpty_nil, List.isEmpty_cons, Bool.not_true, Bool.not_false, wUn, dNot, dII0, dII, dEqS, dNeS, dIsN, dNotN, dNeg, ends, DL.gLt, DL.gLe, DL.gGt, DL.gGe, DL.gAdd, DL.gSub, DL.gMul, DL.gMod, DL.gDiv, DL.gPow]
            refine call_dk [flD ns tl, plP (spI 0 ns)[k.toNat], .int k, dtD (parP tl)] rfl ⟨ns, tl, _, _, k, rfl, hv, k0, hp⟩ hc4 fun y c5 m5 d5 hy hc5 => ?_
            subst hy
            try dsimp only [wRet, wAnd, wOr, wUn, wOp, wCa, wCons, wNil, wVar, wC, wSeq, wNext, wPass, wAsg, wExp, wIf, wB, wIfE, wAndT, wOrT, wNotT, wTup, wLst, wSl, dSl, wNoP, wPart, wCall, wCallK, wCallO, wCallP, wDisp, wFrz, wGet1, wGet2, wPut, wNewT, wPar, wgName, wgTup, wgCons, wgNil, wiT, wiL, wiR1, wiZip, wiEnu, wiEnuA, wChain, wYes, wBM, wBM0, slot, allD, wipeS, List.map_cons, List.map_nil, List.set_cons_zero, List.set_cons_succ, List.cons_append, List.nil_append, List.isEmpty_nil, List.isEmpty_cons, Bool.not_true, Bool.not_false, wUn, dNot, dII0, dII, dEqS, dNeS, dIsN, dNotN, dNeg, ends, DL.gLt, DL.gLe, DL.gGt, DL.gGe, DL.gAdd, DL.gSub, DL.gMul, DL.gMod, DL.gDiv, DL.gPow]
            rw [Bool.not_true]
            try dsimp only [wRet, wAnd, wOr, wUn, wOp, wCa, wCons, wNil, wVar, wC, wSeq, wNext, wPass, wAsg, wExp, wIf, wB, wIfE, wAndT, wOrT, wNotT, wTup, wLst, wSl, dSl, wNoP, wPart, wCall, wCallK, wCallO, wCallP, wDisp, wFrz, wGet1, wGet2, wPut, wNewT, wPar, wgName, wgTup, wgCons, wgNil, wiT, wiL, wiR1, wiZip, wiEnu, wiEnuA, wChain, wYes, wBM, wBM0, slot, allD, wipeS, List.map_cons, List.map_nil, List.set_cons_zero, List.set_cons_succ, List.cons_append, List.nil_append, List.isEmpty_nil, List.isEmpty_cons, Bool.not_true, Bool.not_false, wUn, dNot, dII0, dII, dEqS, dNeS, dIsN, dNotN, dNeg, ends, DL.gLt, DL.gLe, DL.gGt, DL.gGe, DL.gAdd, DL.gSub, DL.gMul, DL.gMod, DL.gDiv, DL.gPow]
            exact ⟨c5, m5, d5, r4, some (.int k), hc5, rfl⟩
          · rintro ρ' ⟨c4, m4, d4, r4, b7, hc4, rfl⟩
            try dsimp only [wRet, wAnd, wOr, wUn, wOp, wCa, wCons, wNil, wVar, wC, wSeq, wNext, wPass, wAsg, wExp, wIf, wB, wIfE, wAndT, wOrT, wNotT, wTup, wLst, wSl, dSl, wNoP, wPart, wCall, wCallK, wCallO, wCallP, wDisp, wFrz, wGet1, wGet2, wPut, wNewT, wPar, wgName, wgTup, wgCons, wgNil, wiT, wiL, wiR1, wiZip, wiEnu, wiEnuA, wChain, wYes, wBM, wBM0, slot, allD, wipeS, List.map_cons, List.map_nil, List.set_cons_zero, List.set_cons_succ, List.cons_append, List.nil_append, List.isEmpty_nil, List.isEmpty_cons, Bool.not_true, Bool.not_false, wUn, dNot, dII0, dII, dEqS, dNeS, dIsN, dNotN, dNeg, ends, DL.gLt, DL.gLe, DL.gGt, DL.gGe, DL.gAdd, DL.gSub, DL.gMul, DL.gMod, DL.gDiv, DL.gPow]
            refine lc_inv (spots ns) ⟨[some (.d (.list (ss.map .int))), some (.o 0), some (.d x), some (.d (flD ns tl)), some (.d (.list (spots ns))), some (.d (dtD (parP tl))), some (.d (.list acc)), b7.map .d, none, none], deckO m4 d4 :: cellsO c4 :: r4⟩ (fun i ob acc => ob = deckO m4 d4 :: cellsO c4 :: r4 ∧ acc = (((spI 0 ns).take i).filter fun p => (mateI tl p).isSome).map plP) (fun C h => h) ⟨rfl, rfl⟩ ?_ ?_
            · rintro i' z ob acc hz ⟨rfl, rfl⟩ _
              rw [spots_eq, List.getElem?_map] at hz
              cases hq : (spI 0 ns)[i']? with
              | none => rw [hq] at hz; cases hz
              | some p =>
                rw [hq] at hz
                obtain rfl := Option.some.inj hz
                have hi' : i' < (spI 0 ns).length := (List.getElem?_eq_some_iff.mp hq).1
                have hpl : isPl ns (plD p.1 p.2) = true := pl_iff.mpr (List.mem_of_getElem? hq)
                have et : (((spI 0 ns).take (i' + 1)).filter fun p => (mateI tl p).isSome) = (((spI 0 ns).take i').filter fun p => (mateI tl p).isSome) ++ (if (mateI tl p).isSome then [p] else []) := by
                  exact filter_take (fun p => (mateI tl p).isSome) hq
                have hpo := par_of hv.nd p.1 p.2
                unfold plP
                try dsimp only [wRet, wAnd, wOr, wUn, wOp, wCa, wCons, wNil, wVar, wC, wSeq, wNext, wPass, wAsg, wExp, wIf, wB, wIfE, wAndT, wOrT, wNotT, wTup, wLst, wSl, dSl, wNoP, wPart, wCall, wCallK, wCallO, wCallP, wDisp, wFrz, wGet1, wGet2, wPut, wNewT, wPar, wgName, wgTup, wgCons, wgNil, wiT, wiL, wiR1, wiZip, wiEnu, wiEnuA, wChain, wYes, wBM, wBM0, slot, allD, wipeS, List.map_cons, List.map_nil, List.set_cons_zero, List.set_cons_succ, List.cons_append, List.nil_append, List.isEmpty_nil, List.isEmpty_cons, Bool.not_true, Bool.not_false, wUn, dNot, dII0, dII, dEqS, dNeS, dIsN, dNotN, dNeg, ends, DL.gLt, DL.gLe, DL.gGt, DL.gGe, DL.gAdd, DL.gSub, DL.gMul, DL.gMod, DL.gDiv, DL.gPow]
                refine call_pur [flD ns tl, plD p.1 p.2] (parOf tl p.1 p.2) rfl ⟨ns, tl, p.1, p.2, rfl, hf, hpl, rfl⟩ ?_
                try dsimp only [wRet, wAnd, wOr, wUn, wOp, wCa, wCons, wNil, wVar, wC, wSeq, wNext, wPass, wAsg, wExp, wIf, wB, wIfE, wAndT, wOrT, wNotT, wTup, wLst, wSl, dSl, wNoP, wPart, wCall, wCallK, wCallO, wCallP, wDisp, wFrz, wGet1, wGet2, wPut, wNewT, wPar, wgName, wgTup, wgCons, wgNil, wiT, wiL, wiR1, wiZip, wiEnu, wiEnuA, wChain, wYes, wBM, wBM0, slot, allD, wipeS, List.map_cons, List.map_nil, List.set_cons_zero, List.set_cons_succ, List.cons_append, List.nil_append, List.isEmpty_nil, List.isEmpty_cons, Bool.not_true, Bool.not_false, wUn, dNot, dII0, dII, dEqS, dNeS, dIsN, dNotN, dNeg, ends, DL.gLt, DL.gLe, DL.gGt, DL.gGe, DL.gAdd, DL.gSub, DL.gMul, DL.gMod, DL.gDiv, DL.gPow]
                have hpo : parOf tl p.1 p.2 = ((mateI tl p).map plP).getD .none := hpo
                cases hm : mateI tl p with
                | none =>
                  rw [hm] at hpo et
                  rw [hpo]
                  try dsimp only [wRet, wAnd, wOr, wUn, wOp, wCa, wCons, wNil, wVar, wC, wSeq, wNext, wPass, wAsg, wExp, wIf, wB, wIfE, wAndT, wOrT, wNotT, wTup, wLst, wSl, dSl, wNoP, wPart, wCall, wCallK, wCallO, wCallP, wDisp, wFrz, wGet1, wGet2, wPut, wNewT, wPar, wgName, wgTup, wgCons, wgNil, wiT, wiL, wiR1, wiZip, wiEnu, wiEnuA, wChain, wYes, wBM, wBM0, slot, allD, wipeS, List.map_cons, List.map_nil, List.set_cons_zero, List.set_cons_succ, List.cons_append, List.nil_append, List.isEmpty_nil, List.isEmpty_cons, Bool.not_true, Bool.not_false, wUn, dNot, dII0, dII, dEqS, dNeS, dIsN, dNotN, dNeg, ends, DL.gLt, DL.gLe, DL.gGt, DL.gGe, DL.gAdd, DL.gSub, DL.gMul, DL.gMod, DL.gDiv, DL.gPow]
                  refine ⟨_, rfl, rfl, rfl, ?_⟩
                  rw [et]
                  simp
                | some q =>
                  rw [hm] at hpo et
                  rw [hpo]
                  try dsimp only [wRet, wAnd, wOr, wUn, wOp, wCa, wCons, wNil, wVar, wC, wSeq, wNext, wPass, wAsg, wExp, wIf, wB, wIfE, wAndT, wOrT, wNotT, wTup, wLst, wSl, dSl, wNoP, wPart, wCall, wCallK, wCallO, wCallP, wDisp, wFrz, wGet1, wGet2, wPut, wNewT, wPar, wgName, wgTup, wgCons, wgNil, wiT, wiL, wiR1, wiZip, wiEnu, wiEnuA, wChain, wYes, wBM, wBM0, slot, allD, wipeS, List.map_cons, List.map_nil, List.set_cons_zero, List.set_cons_succ, List.cons_append, List.nil_append, List.isEmpty_nil, List.isEmpty_cons, Bool.not_true, Bool.not_false, wUn, dNot, dII0, dII, dEqS, dNeS, dIsN, dNotN, dNeg, ends, DL.gLt, DL.gLe, DL.gGt, DL.gGe, DL.gAdd, DL.gSub, DL.gMul, DL.gMod, DL.gDiv, DL.gPow]
                  refine ⟨?_, plP p, _, [], rfl, rfl, rfl, .inl rfl, rfl, ?_⟩
                  · rw [List.length_map]
                    refine small1000 (Nat.le_trans (List.length_filter_le _ _) ?_)
                    rw [List.length_take]
                    omega
                  · rw [et, List.map_append]
                    rfl
            · rintro ob acc ⟨rfl, rfl⟩ _
              have hlen : (spots ns).length = (spI 0 ns).length := by rw [spots_eq, List.length_map]
              rw [show (spI 0 ns).take (spots ns).length = spI 0 ns from by rw [hlen, List.take_length]]
              try dsimp only [wRet, wAnd, wOr, wUn, wOp, wCa, wCons, wNil, wVar, wC, wSeq, wNext, wPass, wAsg, wExp, wIf, wB, wIfE, wAndT, wOrT, wNotT, wTup, wLst, wSl, dSl, wNoP, wPart, wCall, wCallK, wCallO, wCallP, wDisp, wFrz, wGet1, wGet2, wPut, wNewT, wPar, wgName, wgTup, wgCons, wgNil, wiT, wiL, wiR1, wiZip, wiEnu, wiEnuA, wChain, wYes, wBM, wBM0, slot, allD, wipeS, List.map_cons, List.map_nil, List.set_cons_zero, List.set_cons_succ, List.cons_append, List.nil_append, List.isEmpty_nil, List.isEmpty_cons, Bool.not_true, Bool.not_false, wUn, dNot, dII0, dII, dEqS, dNeS, dIsN, dNotN, dNeg, ends, DL.gLt, DL.gLe, DL.gGt, DL.gGe, DL.gAdd, DL.gSub, DL.gMul, DL.gMod, DL.gDiv, DL.gPow]
              have ek : (((parP tl).map (·.1)).map tupP) = (tl.flatMap sd).map plP := by
                rw [par_keys hv.nd, List.map_map]
                rfl
              refine ⟨_, _, dat_of (obK_last (ob := deckO m4 d4 :: cellsO c4 :: r4)), keys_dt (parP tl), by rw [ek]; exact (sorts_pl _).2.1, by rw [ek]; exact (sorts_pl _).2.2.1, eqs_pls _, ?_, ?_⟩
              · rw [par_keys hv.nd, keys_sorted hv]
                exact eqs_pls _
              · rw [par_keys hv.nd, keys_sorted hv, eqv_pls, Bool.not_true]
                try dsimp only [wRet, wAnd, wOr, wUn, wOp, wCa, wCons, wNil, wVar, wC, wSeq, wNext, wPass, wAsg, wExp, wIf, wB, wIfE, wAndT, wOrT, wNotT, wTup, wLst, wSl, dSl, wNoP, wPart, wCall, wCallK, wCallO, wCallP, wDisp, wFrz, wGet1, wGet2, wPut, wNewT, wPar, wgName, wgTup, wgCons, wgNil, wiT, wiL, wiR1, wiZip, wiEnu, wiEnuA, wChain, wYes, wBM, wBM0, slot, allD, wipeS, List.map_cons, List.map_nil, List.set_cons_zero, List.set_cons_succ, List.cons_append, List.nil_append, List.isEmpty_nil, List.isEmpty_cons, Bool.not_true, Bool.not_false, wUn, dNot, dII0, dII, dEqS, dNeS, dIsN, dNotN, dNeg, ends, DL.gLt, DL.gLe, DL.gGt, DL.gGe, DL.gAdd, DL.gSub, DL.gMul, DL.gMod, DL.gDiv, DL.gPow]
                exact ⟨c4, m4, d4, _, some x, some (flD ns tl), some (.list (spots ns)), some (dtD (parP tl)), some (.list acc), b7, hc4, rfl⟩
  · rintro ρ' ⟨c', m', d', rest, a2, a3, a4, a5, a6, a7, hc', rfl⟩
    exact hR _
end K02
end

section
set_option Elab.async false
set_option linter.all false
set_option maxRecDepth 100000
set_option maxHeartbeats 1000000
set_option autoImplicit false
namespace K02
open PySem PySem.Spec PyProof.Rows L2 DL

theorem hd_of {K : PySem.W.Frag} {h : Heap} {mg : Str → Option Value} {x : Str} {st : Stmt} {ps : List Str} {f : Addr} {oc : Value} {od an : Option Addr} {sl : Array (Option Value)} {kV dc pm cd ct : Value} (X : K.In h) (G : h.Ns mainGlobals mg)
    (a : PySem.W.nsIn K mainGlobals x = some (some (.ref f))) (l : K.lookup f = some ⟨oc, od, .func (PySem.W.fnOf x x (defArgs st) (defBody st) (defScope st) .none kV dc pm an cd ct), sl⟩) (c : PySem.W.codeIn K cd x = true) (k : PySem.W.keepIn K (.ref f) = true)
    (hb : ∀ (kV doc pm : Value) (an : Option Addr) (cdv ct : Value) (us : List Value), us.length = ps.length → bindArgs (PySem.W.fnOf x x (defArgs st) (defBody st) (defScope st) .none kV doc pm an cdv ct) ⟨us, []⟩ = pure (ps.zip us)) : Hd K mg x st ps :=
  ⟨f, _, fun_mk l c k, PySem.W.mg_of X G a, (fun_mk l c k).binds hb⟩
theorem all_mk {l : PySem.W.OpenLaw} {w : World} {K : PySem.W.Frag} {h : Heap} {mg : Str → Option Value} {fa : Addr} (X : K.In h) (G : h.Ns mainGlobals mg) (hfa : mg "law" = some (.ref fa))
    {f0 : Addr} {oc0 kV0 dc0 pm0 cd0 ct0 : Value} {od0 an0 : Option Addr} {sl0 : Array (Option Value)}
    {f1 : Addr} {oc1 kV1 dc1 pm1 cd1 ct1 : Value} {od1 an1 : Option Addr} {sl1 : Array (Option Value)}
    {f2 : Addr} {oc2 kV2 dc2 pm2 cd2 ct2 : Value} {od2 an2 : Option Addr} {sl2 : Array (Option Value)}
    {f3 : Addr} {oc3 kV3 dc3 pm3 cd3 ct3 : Value} {od3 an3 : Option Addr} {sl3 : Array (Option Value)}
    {f4 : Addr} {oc4 kV4 dc4 pm4 cd4 ct4 : Value} {od4 an4 : Option Addr} {sl4 : Array (Option Value)}
    {f5 : Addr} {oc5 kV5 dc5 pm5 cd5 ct5 : Value} {od5 an5 : Option Addr} {sl5 : Array (Option Value)}
    {f6 : Addr} {oc6 kV6 dc6 pm6 cd6 ct6 : Value} {od6 an6 : Option Addr} {sl6 : Array (Option Value)}
    {f7 : Addr} {oc7 kV7 dc7 pm7 cd7 ct7 : Value} {od7 an7 : Option Addr} {sl7 : Array (Option Value)}
    {f8 : Addr} {oc8 kV8 dc8 pm8 cd8 ct8 : Value} {od8 an8 : Option Addr} {sl8 : Array (Option Value)}
    {f9 : Addr} {oc9 kV9 dc9 pm9 cd9 ct9 : Value} {od9 an9 : Option Addr} {sl9 : Array (Option Value)}
    {f10 : Addr} {oc10 kV10 dc10 pm10 cd10 ct10 : Value} {od10 an10 : Option Addr} {sl10 : Array (Option Value)}
    {f11 : Addr} {oc11 kV11 dc11 pm11 cd11 ct11 : Value} {od11 an11 : Option Addr} {sl11 : Array (Option Value)}
    {f12 : Addr} {oc12 kV12 dc12 pm12 cd12 ct12 : Value} {od12 an12 : Option Addr} {sl12 : Array (Option Value)}
    {f13 : Addr} {oc13 kV13 dc13 pm13 cd13 ct13 : Value} {od13 an13 : Option Addr} {sl13 : Array (Option Value)}
    {f14 : Addr} {oc14 kV14 dc14 pm14 cd14 ct14 : Value} {od14 an14 : Option Addr} {sl14 : Array (Option Value)}
    {f15 : Addr} {oc15 kV15 dc15 pm15 cd15 ct15 : Value} {od15 an15 : Option Addr} {sl15 : Array (Option Value)}
    {f16 : Addr} {oc16 kV16 dc16 pm16 cd16 ct16 : Value} {od16 an16 : Option Addr} {sl16 : Array (Option Value)}
    {f17 : Addr} {oc17 kV17 dc17 pm17 cd17 ct17 : Value} {od17 an17 : Option Addr} {sl17 : Array (Option Value)}
    {f18 : Addr} {oc18 kV18 dc18 pm18 cd18 ct18 : Value} {od18 an18 : Option Addr} {sl18 : Array (Option Value)}
    {f19 : Addr} {oc19 kV19 dc19 pm19 cd19 ct19 : Value} {od19 an19 : Option Addr} {sl19 : Array (Option Value)}
    {f20 : Addr} {oc20 kV20 dc20 pm20 cd20 ct20 : Value} {od20 an20 : Option Addr} {sl20 : Array (Option Value)}
    {f21 : Addr} {oc21 kV21 dc21 pm21 cd21 ct21 : Value} {od21 an21 : Option Addr} {sl21 : Array (Option Value)}
    {f22 : Addr} {oc22 kV22 dc22 pm22 cd22 ct22 : Value} {od22 an22 : Option Addr} {sl22 : Array (Option Value)}
    {f23 : Addr} {oc23 kV23 dc23 pm23 cd23 ct23 : Value} {od23 an23 : Option Addr} {sl23 : Array (Option Value)}
    {f24 : Addr} {oc24 kV24 dc24 pm24 cd24 ct24 : Value} {od24 an24 : Option Addr} {sl24 : Array (Option Value)}
    {f25 : Addr} {oc25 kV25 dc25 pm25 cd25 ct25 : Value} {od25 an25 : Option Addr} {sl25 : Array (Option Value)}
    {f26 : Addr} {oc26 kV26 dc26 pm26 cd26 ct26 : Value} {od26 an26 : Option Addr} {sl26 : Array (Option Value)}
    {f27 : Addr} {oc27 kV27 dc27 pm27 cd27 ct27 : Value} {od27 an27 : Option Addr} {sl27 : Array (Option Value)}
    (a0 : PySem.W.nsIn K mainGlobals "_law_deck" = some (some (.ref f0))) (l0 : K.lookup f0 = some ⟨oc0, od0, .func (PySem.W.fnOf "_law_deck" "_law_deck" (defArgs s_law_deck) (defBody s_law_deck) (defScope s_law_deck) .none kV0 dc0 pm0 an0 cd0 ct0), sl0⟩) (c0 : PySem.W.codeIn K cd0 "_law_deck" = true) (k0 : PySem.W.keepIn K (.ref f0) = true)
    (a1 : PySem.W.nsIn K mainGlobals "_law_draw" = some (some (.ref f1))) (l1 : K.lookup f1 = some ⟨oc1, od1, .func (PySem.W.fnOf "_law_draw" "_law_draw" (defArgs s_law_draw) (defBody s_law_draw) (defScope s_law_draw) .none kV1 dc1 pm1 an1 cd1 ct1), sl1⟩) (c1 : PySem.W.codeIn K cd1 "_law_draw" = true) (k1 : PySem.W.keepIn K (.ref f1) = true)
    (a2 : PySem.W.nsIn K mainGlobals "_law_order" = some (some (.ref f2))) (l2 : K.lookup f2 = some ⟨oc2, od2, .func (PySem.W.fnOf "_law_order" "_law_order" (defArgs s_law_order) (defBody s_law_order) (defScope s_law_order) .none kV2 dc2 pm2 an2 cd2 ct2), sl2⟩) (c2 : PySem.W.codeIn K cd2 "_law_order" = true) (k2 : PySem.W.keepIn K (.ref f2) = true)
    (a3 : PySem.W.nsIn K mainGlobals "_law_pick" = some (some (.ref f3))) (l3 : K.lookup f3 = some ⟨oc3, od3, .func (PySem.W.fnOf "_law_pick" "_law_pick" (defArgs s_law_pick) (defBody s_law_pick) (defScope s_law_pick) .none kV3 dc3 pm3 an3 cd3 ct3), sl3⟩) (c3 : PySem.W.codeIn K cd3 "_law_pick" = true) (k3 : PySem.W.keepIn K (.ref f3) = true)
    (a4 : PySem.W.nsIn K mainGlobals "_law_rings" = some (some (.ref f4))) (l4 : K.lookup f4 = some ⟨oc4, od4, .func (PySem.W.fnOf "_law_rings" "_law_rings" (defArgs s_law_rings) (defBody s_law_rings) (defScope s_law_rings) .none kV4 dc4 pm4 an4 cd4 ct4), sl4⟩) (c4 : PySem.W.codeIn K cd4 "_law_rings" = true) (k4 : PySem.W.keepIn K (.ref f4) = true)
    (a5 : PySem.W.nsIn K mainGlobals "_law_spots" = some (some (.ref f5))) (l5 : K.lookup f5 = some ⟨oc5, od5, .func (PySem.W.fnOf "_law_spots" "_law_spots" (defArgs s_law_spots) (defBody s_law_spots) (defScope s_law_spots) .none kV5 dc5 pm5 an5 cd5 ct5), sl5⟩) (c5 : PySem.W.codeIn K cd5 "_law_spots" = true) (k5 : PySem.W.keepIn K (.ref f5) = true)
    (a6 : PySem.W.nsIn K mainGlobals "_law_floor" = some (some (.ref f6))) (l6 : K.lookup f6 = some ⟨oc6, od6, .func (PySem.W.fnOf "_law_floor" "_law_floor" (defArgs s_law_floor) (defBody s_law_floor) (defScope s_law_floor) .none kV6 dc6 pm6 an6 cd6 ct6), sl6⟩) (c6 : PySem.W.codeIn K cd6 "_law_floor" = true) (k6 : PySem.W.keepIn K (.ref f6) = true)
    (a7 : PySem.W.nsIn K mainGlobals "_law_behind" = some (some (.ref f7))) (l7 : K.lookup f7 = some ⟨oc7, od7, .func (PySem.W.fnOf "_law_behind" "_law_behind" (defArgs s_law_behind) (defBody s_law_behind) (defScope s_law_behind) .none kV7 dc7 pm7 an7 cd7 ct7), sl7⟩) (c7 : PySem.W.codeIn K cd7 "_law_behind" = true) (k7 : PySem.W.keepIn K (.ref f7) = true)
    (a8 : PySem.W.nsIn K mainGlobals "is_whole" = some (some (.ref f8))) (l8 : K.lookup f8 = some ⟨oc8, od8, .func (PySem.W.fnOf "is_whole" "is_whole" (defArgs s_is_whole) (defBody s_is_whole) (defScope s_is_whole) .none kV8 dc8 pm8 an8 cd8 ct8), sl8⟩) (c8 : PySem.W.codeIn K cd8 "is_whole" = true) (k8 : PySem.W.keepIn K (.ref f8) = true)
    (a9 : PySem.W.nsIn K mainGlobals "is_below" = some (some (.ref f9))) (l9 : K.lookup f9 = some ⟨oc9, od9, .func (PySem.W.fnOf "is_below" "is_below" (defArgs s_is_below) (defBody s_is_below) (defScope s_is_below) .none kV9 dc9 pm9 an9 cd9 ct9), sl9⟩) (c9 : PySem.W.codeIn K cd9 "is_below" = true) (k9 : PySem.W.keepIn K (.ref f9) = true)
    (a10 : PySem.W.nsIn K mainGlobals "is_pair" = some (some (.ref f10))) (l10 : K.lookup f10 = some ⟨oc10, od10, .func (PySem.W.fnOf "is_pair" "is_pair" (defArgs s_is_pair) (defBody s_is_pair) (defScope s_is_pair) .none kV10 dc10 pm10 an10 cd10 ct10), sl10⟩) (c10 : PySem.W.codeIn K cd10 "is_pair" = true) (k10 : PySem.W.keepIn K (.ref f10) = true)
    (a11 : PySem.W.nsIn K mainGlobals "is_place_on" = some (some (.ref f11))) (l11 : K.lookup f11 = some ⟨oc11, od11, .func (PySem.W.fnOf "is_place_on" "is_place_on" (defArgs s_is_place_on) (defBody s_is_place_on) (defScope s_is_place_on) .none kV11 dc11 pm11 an11 cd11 ct11), sl11⟩) (c11 : PySem.W.codeIn K cd11 "is_place_on" = true) (k11 : PySem.W.keepIn K (.ref f11) = true)
    (a12 : PySem.W.nsIn K mainGlobals "_is_touch" = some (some (.ref f12))) (l12 : K.lookup f12 = some ⟨oc12, od12, .func (PySem.W.fnOf "_is_touch" "_is_touch" (defArgs s_is_touch) (defBody s_is_touch) (defScope s_is_touch) .none kV12 dc12 pm12 an12 cd12 ct12), sl12⟩) (c12 : PySem.W.codeIn K cd12 "_is_touch" = true) (k12 : PySem.W.keepIn K (.ref f12) = true)
    (a13 : PySem.W.nsIn K mainGlobals "are_rings" = some (some (.ref f13))) (l13 : K.lookup f13 = some ⟨oc13, od13, .func (PySem.W.fnOf "are_rings" "are_rings" (defArgs s_are_rings) (defBody s_are_rings) (defScope s_are_rings) .none kV13 dc13 pm13 an13 cd13 ct13), sl13⟩) (c13 : PySem.W.codeIn K cd13 "are_rings" = true) (k13 : PySem.W.keepIn K (.ref f13) = true)
    (a14 : PySem.W.nsIn K mainGlobals "is_ascending" = some (some (.ref f14))) (l14 : K.lookup f14 = some ⟨oc14, od14, .func (PySem.W.fnOf "is_ascending" "is_ascending" (defArgs s_is_ascending) (defBody s_is_ascending) (defScope s_is_ascending) .none kV14 dc14 pm14 an14 cd14 ct14), sl14⟩) (c14 : PySem.W.codeIn K cd14 "is_ascending" = true) (k14 : PySem.W.keepIn K (.ref f14) = true)
    (a15 : PySem.W.nsIn K mainGlobals "is_floor" = some (some (.ref f15))) (l15 : K.lookup f15 = some ⟨oc15, od15, .func (PySem.W.fnOf "is_floor" "is_floor" (defArgs s_is_floor) (defBody s_is_floor) (defScope s_is_floor) .none kV15 dc15 pm15 an15 cd15 ct15), sl15⟩) (c15 : PySem.W.codeIn K cd15 "is_floor" = true) (k15 : PySem.W.keepIn K (.ref f15) = true)
    (a16 : PySem.W.nsIn K mainGlobals "need_floor" = some (some (.ref f16))) (l16 : K.lookup f16 = some ⟨oc16, od16, .func (PySem.W.fnOf "need_floor" "need_floor" (defArgs s_need_floor) (defBody s_need_floor) (defScope s_need_floor) .none kV16 dc16 pm16 an16 cd16 ct16), sl16⟩) (c16 : PySem.W.codeIn K cd16 "need_floor" = true) (k16 : PySem.W.keepIn K (.ref f16) = true)
    (a17 : PySem.W.nsIn K mainGlobals "is_place" = some (some (.ref f17))) (l17 : K.lookup f17 = some ⟨oc17, od17, .func (PySem.W.fnOf "is_place" "is_place" (defArgs s_is_place) (defBody s_is_place) (defScope s_is_place) .none kV17 dc17 pm17 an17 cd17 ct17), sl17⟩) (c17 : PySem.W.codeIn K cd17 "is_place" = true) (k17 : PySem.W.keepIn K (.ref f17) = true)
    (a18 : PySem.W.nsIn K mainGlobals "need_place" = some (some (.ref f18))) (l18 : K.lookup f18 = some ⟨oc18, od18, .func (PySem.W.fnOf "need_place" "need_place" (defArgs s_need_place) (defBody s_need_place) (defScope s_need_place) .none kV18 dc18 pm18 an18 cd18 ct18), sl18⟩) (c18 : PySem.W.codeIn K cd18 "need_place" = true) (k18 : PySem.W.keepIn K (.ref f18) = true)
    (a19 : PySem.W.nsIn K mainGlobals "behind" = some (some (.ref f19))) (l19 : K.lookup f19 = some ⟨oc19, od19, .func (PySem.W.fnOf "behind" "behind" (defArgs s_behind) (defBody s_behind) (defScope s_behind) .none kV19 dc19 pm19 an19 cd19 ct19), sl19⟩) (c19 : PySem.W.codeIn K cd19 "behind" = true) (k19 : PySem.W.keepIn K (.ref f19) = true)
    (a20 : PySem.W.nsIn K mainGlobals "partners" = some (some (.ref f20))) (l20 : K.lookup f20 = some ⟨oc20, od20, .func (PySem.W.fnOf "partners" "partners" (defArgs s_partners) (defBody s_partners) (defScope s_partners) .none kV20 dc20 pm20 an20 cd20 ct20), sl20⟩) (c20 : PySem.W.codeIn K cd20 "partners" = true) (k20 : PySem.W.keepIn K (.ref f20) = true)
    (a21 : PySem.W.nsIn K mainGlobals "partner" = some (some (.ref f21))) (l21 : K.lookup f21 = some ⟨oc21, od21, .func (PySem.W.fnOf "partner" "partner" (defArgs s_partner) (defBody s_partner) (defScope s_partner) .none kV21 dc21 pm21 an21 cd21 ct21), sl21⟩) (c21 : PySem.W.codeIn K cd21 "partner" = true) (k21 : PySem.W.keepIn K (.ref f21) = true)
    (a22 : PySem.W.nsIn K mainGlobals "seat" = some (some (.ref f22))) (l22 : K.lookup f22 = some ⟨oc22, od22, .func (PySem.W.fnOf "seat" "seat" (defArgs s_seat) (defBody s_seat) (defScope s_seat) .none kV22 dc22 pm22 an22 cd22 ct22), sl22⟩) (c22 : PySem.W.codeIn K cd22 "seat" = true) (k22 : PySem.W.keepIn K (.ref f22) = true)
    (a23 : PySem.W.nsIn K mainGlobals "_law_is_place_right" = some (some (.ref f23))) (l23 : K.lookup f23 = some ⟨oc23, od23, .func (PySem.W.fnOf "_law_is_place_right" "_law_is_place_right" (defArgs s_law_is_place_right) (defBody s_law_is_place_right) (defScope s_law_is_place_right) .none kV23 dc23 pm23 an23 cd23 ct23), sl23⟩) (c23 : PySem.W.codeIn K cd23 "_law_is_place_right" = true) (k23 : PySem.W.keepIn K (.ref f23) = true)
    (a24 : PySem.W.nsIn K mainGlobals "_law_partners" = some (some (.ref f24))) (l24 : K.lookup f24 = some ⟨oc24, od24, .func (PySem.W.fnOf "_law_partners" "_law_partners" (defArgs s_law_partners) (defBody s_law_partners) (defScope s_law_partners) .none kV24 dc24 pm24 an24 cd24 ct24), sl24⟩) (c24 : PySem.W.codeIn K cd24 "_law_partners" = true) (k24 : PySem.W.keepIn K (.ref f24) = true)
    (a25 : PySem.W.nsIn K mainGlobals "_law_wide_floor" = some (some (.ref f25))) (l25 : K.lookup f25 = some ⟨oc25, od25, .func (PySem.W.fnOf "_law_wide_floor" "_law_wide_floor" (defArgs s_law_wide_floor) (defBody s_law_wide_floor) (defScope s_law_wide_floor) .none kV25 dc25 pm25 an25 cd25 ct25), sl25⟩) (c25 : PySem.W.codeIn K cd25 "_law_wide_floor" = true) (k25 : PySem.W.keepIn K (.ref f25) = true)
    (a26 : PySem.W.nsIn K mainGlobals "places" = some (some (.ref f26))) (l26 : K.lookup f26 = some ⟨oc26, od26, .func (PySem.W.fnOf "places" "places" (defArgs s_places) (defBody s_places) (defScope s_places) .none kV26 dc26 pm26 an26 cd26 ct26), sl26⟩) (c26 : PySem.W.codeIn K cd26 "places" = true) (k26 : PySem.W.keepIn K (.ref f26) = true)
    (a27 : PySem.W.nsIn K mainGlobals "law" = some (some (.ref f27))) (l27 : K.lookup f27 = some ⟨oc27, od27, .func (PySem.W.fnOf "law" "law" (defArgs s_law) (defBody s_law) (defScope s_law) .none kV27 dc27 pm27 an27 cd27 ct27), sl27⟩) (c27 : PySem.W.codeIn K cd27 "law" = true) (k27 : PySem.W.keepIn K (.ref f27) = true)
    (z0 : PySem.W.nsIn K mainGlobals "all" = some none)
    (z1 : PySem.W.nsIn K mainGlobals "bool" = some none)
    (z2 : PySem.W.nsIn K mainGlobals "enumerate" = some none)
    (z3 : PySem.W.nsIn K mainGlobals "int" = some none)
    (z4 : PySem.W.nsIn K mainGlobals "isinstance" = some none)
    (z5 : PySem.W.nsIn K mainGlobals "len" = some none)
    (z6 : PySem.W.nsIn K mainGlobals "list" = some none)
    (z7 : PySem.W.nsIn K mainGlobals "max" = some none)
    (z8 : PySem.W.nsIn K mainGlobals "min" = some none)
    (z9 : PySem.W.nsIn K mainGlobals "range" = some none)
    (z10 : PySem.W.nsIn K mainGlobals "repr" = some none)
    (z11 : PySem.W.nsIn K mainGlobals "set" = some none)
    (z12 : PySem.W.nsIn K mainGlobals "sorted" = some none)
    (z13 : PySem.W.nsIn K mainGlobals "sum" = some none)
    (z14 : PySem.W.nsIn K mainGlobals "tuple" = some none)
    (z15 : PySem.W.nsIn K mainGlobals "zip" = some none)
    {tk : Tok} (m0 : PySem.W.nsIn K mainGlobals "MOST_RINGS" = some (some (.int 40 tk))) :
    ∃ fd : FuncData, (∀ (s : Shared) (v : Value), BindsTo s fd ⟨[v], []⟩ [("_law_script", v)]) ∧ ∀ base : Heap, K.In base → base.Ns mainGlobals mg → FnG l.prog w K mg base 11 fa fd ["_law_script"] (SpD K 1 sp_law) := by
  have e := hfa.symm.trans (PySem.W.mg_of X G a27)
  cases e
  have b : BI mg := ⟨PySem.W.mg_none_of X G z0, PySem.W.mg_none_of X G z1, PySem.W.mg_none_of X G z2, PySem.W.mg_none_of X G z3, PySem.W.mg_none_of X G z4, PySem.W.mg_none_of X G z5, PySem.W.mg_none_of X G z6, PySem.W.mg_none_of X G z7, PySem.W.mg_none_of X G z8, PySem.W.mg_none_of X G z9, PySem.W.mg_none_of X G z10, PySem.W.mg_none_of X G z11, PySem.W.mg_none_of X G z12, PySem.W.mg_none_of X G z13, PySem.W.mg_none_of X G z14, PySem.W.mg_none_of X G z15⟩
  have zm : ∃ t, mg "MOST_RINGS" = some (.int 40 t) := ⟨_, PySem.W.mg_of X G m0⟩
  have h_law_deck : Hd K mg "_law_deck" s_law_deck nP_law_deck := hd_of X G a0 l0 c0 k0 fun _ _ _ _ _ _ us hl => match us, hl with | [_], _ => rfl
  have h_law_draw : Hd K mg "_law_draw" s_law_draw nP_law_draw := hd_of X G a1 l1 c1 k1 fun _ _ _ _ _ _ us hl => match us, hl with | [_, _], _ => rfl
  have h_law_order : Hd K mg "_law_order" s_law_order nP_law_order := hd_of X G a2 l2 c2 k2 fun _ _ _ _ _ _ us hl => match us, hl with | [_, _], _ => rfl
  have h_law_pick : Hd K mg "_law_pick" s_law_pick nP_law_pick := hd_of X G a3 l3 c3 k3 fun _ _ _ _ _ _ us hl => match us, hl with | [_, _], _ => rfl
  have h_law_rings : Hd K mg "_law_rings" s_law_rings nP_law_rings := hd_of X G a4 l4 c4 k4 fun _ _ _ _ _ _ us hl => match us, hl with | [_, _], _ => rfl
  have h_law_spots : Hd K mg "_law_spots" s_law_spots nP_law_spots := hd_of X G a5 l5 c5 k5 fun _ _ _ _ _ _ us hl => match us, hl with | [_], _ => rfl
  have h_law_floor : Hd K mg "_law_floor" s_law_floor nP_law_floor := hd_of X G a6 l6 c6 k6 fun _ _ _ _ _ _ us hl => match us, hl with | [_, _], _ => rfl
  have h_law_behind : Hd K mg "_law_behind" s_law_behind nP_law_behind := hd_of X G a7 l7 c7 k7 fun _ _ _ _ _ _ us hl => match us, hl with | [_, _, _], _ => rfl
  have h_is_whole : Hd K mg "is_whole" s_is_whole nP_is_whole := hd_of X G a8 l8 c8 k8 fun _ _ _ _ _ _ us hl => match us, hl with | [_], _ => rfl
  have h_is_below : Hd K mg "is_below" s_is_below nP_is_below := hd_of X G a9 l9 c9 k9 fun _ _ _ _ _ _ us hl => match us, hl with | [_, _], _ => rfl
  have h_is_pair : Hd K mg "is_pair" s_is_pair nP_is_pair := hd_of X G a10 l10 c10 k10 fun _ _ _ _ _ _ us hl => match us, hl with | [_], _ => rfl
  have h_is_place_on : Hd K mg "is_place_on" s_is_place_on nP_is_place_on := hd_of X G a11 l11 c11 k11 fun _ _ _ _ _ _ us hl => match us, hl with | [_, _], _ => rfl
  have h_is_touch : Hd K mg "_is_touch" s_is_touch nP_is_touch := hd_of X G a12 l12 c12 k12 fun _ _ _ _ _ _ us hl => match us, hl with | [_, _], _ => rfl
  have h_are_rings : Hd K mg "are_rings" s_are_rings nP_are_rings := hd_of X G a13 l13 c13 k13 fun _ _ _ _ _ _ us hl => match us, hl with | [_], _ => rfl
  have h_is_ascending : Hd K mg "is_ascending" s_is_ascending nP_is_ascending := hd_of X G a14 l14 c14 k14 fun _ _ _ _ _ _ us hl => match us, hl with | [_], _ => rfl
  have h_is_floor : Hd K mg "is_floor" s_is_floor nP_is_floor := hd_of X G a15 l15 c15 k15 fun _ _ _ _ _ _ us hl => match us, hl with | [_], _ => rfl
  have h_need_floor : Hd K mg "need_floor" s_need_floor nP_need_floor := hd_of X G a16 l16 c16 k16 fun _ _ _ _ _ _ us hl => match us, hl with | [_], _ => rfl
  have h_is_place : Hd K mg "is_place" s_is_place nP_is_place := hd_of X G a17 l17 c17 k17 fun _ _ _ _ _ _ us hl => match us, hl with | [_, _], _ => rfl
  have h_need_place : Hd K mg "need_place" s_need_place nP_need_place := hd_of X G a18 l18 c18 k18 fun _ _ _ _ _ _ us hl => match us, hl with | [_, _], _ => rfl
  have h_behind : Hd K mg "behind" s_behind nP_behind := hd_of X G a19 l19 c19 k19 fun _ _ _ _ _ _ us hl => match us, hl with | [_, _, _], _ => rfl
  have h_partners : Hd K mg "partners" s_partners nP_partners := hd_of X G a20 l20 c20 k20 fun _ _ _ _ _ _ us hl => match us, hl with | [_], _ => rfl
  have h_partner : Hd K mg "partner" s_partner nP_partner := hd_of X G a21 l21 c21 k21 fun _ _ _ _ _ _ us hl => match us, hl with | [_, _], _ => rfl
  have h_seat : Hd K mg "seat" s_seat nP_seat := hd_of X G a22 l22 c22 k22 fun _ _ _ _ _ _ us hl => match us, hl with | [_, _], _ => rfl
  have h_law_is_place_right : Hd K mg "_law_is_place_right" s_law_is_place_right nP_law_is_place_right := hd_of X G a23 l23 c23 k23 fun _ _ _ _ _ _ us hl => match us, hl with | [_, _, _, _, _], _ => rfl
  have h_law_partners : Hd K mg "_law_partners" s_law_partners nP_law_partners := hd_of X G a24 l24 c24 k24 fun _ _ _ _ _ _ us hl => match us, hl with | [_], _ => rfl
  have h_law_wide_floor : Hd K mg "_law_wide_floor" s_law_wide_floor nP_law_wide_floor := hd_of X G a25 l25 c25 k25 fun _ _ _ _ _ _ us hl => match us, hl with | [_], _ => rfl
  have h_places : Hd K mg "places" s_places nP_places := hd_of X G a26 l26 c26 k26 fun _ _ _ _ _ _ us hl => match us, hl with | [_], _ => rfl
  have h_law : Hd K mg "law" s_law nP_law := hd_of X G a27 l27 c27 k27 fun _ _ _ _ _ _ us hl => match us, hl with | [_], _ => rfl
  refine ⟨PySem.W.fnOf "law" "law" (defArgs s_law) (defBody s_law) (defScope s_law) .none kV27 dc27 pm27 an27 cd27 ct27, fun s v => .of_eq rfl, fun base _ _ => ?_⟩
  have c_law_deck := ok_law_deck (P := l.prog) (w0 := w) (base := base) b h_law_deck
  have c_law_draw := ok_law_draw (P := l.prog) (w0 := w) (base := base) b h_law_draw
  have c_law_order := ok_law_order (P := l.prog) (w0 := w) (base := base) b h_law_order c_law_draw
  have c_law_pick := ok_law_pick (P := l.prog) (w0 := w) (base := base) b h_law_pick c_law_draw
  have c_law_rings := ok_law_rings (P := l.prog) (w0 := w) (base := base) b h_law_rings c_law_pick
  have c_law_spots := ok_law_spots (P := l.prog) (w0 := w) (base := base) b h_law_spots
  have c_law_floor := ok_law_floor (P := l.prog) (w0 := w) (base := base) b h_law_floor c_law_draw c_law_order c_law_rings c_law_spots
  have c_law_behind := ok_law_behind (P := l.prog) (w0 := w) (base := base) b h_law_behind
  have c_is_whole := ok_is_whole (P := l.prog) (w0 := w) (base := base) b h_is_whole
  have c_is_below := ok_is_below (P := l.prog) (w0 := w) (base := base) h_is_below c_is_whole
  have c_is_pair := ok_is_pair (P := l.prog) (w0 := w) (base := base) b h_is_pair
  have c_is_place_on := ok_is_place_on (P := l.prog) (w0 := w) (base := base) b h_is_place_on c_is_below c_is_pair
  have c_is_touch := ok_is_touch (P := l.prog) (w0 := w) (base := base) h_is_touch c_is_pair c_is_place_on
  have c_are_rings := ok_are_rings (P := l.prog) (w0 := w) (base := base) b zm h_are_rings c_is_whole
  have c_is_ascending := ok_is_ascending (P := l.prog) (w0 := w) (base := base) b h_is_ascending
  have c_is_floor := ok_is_floor (P := l.prog) (w0 := w) (base := base) b h_is_floor c_is_touch c_are_rings c_is_ascending c_is_pair
  have c_need_floor := ok_need_floor (P := l.prog) (w0 := w) (base := base) h_need_floor c_is_floor
  have c_is_place := ok_is_place (P := l.prog) (w0 := w) (base := base) h_is_place c_is_place_on c_need_floor
  have c_need_place := ok_need_place (P := l.prog) (w0 := w) (base := base) h_need_place c_is_place
  have c_behind := ok_behind (P := l.prog) (w0 := w) (base := base) h_behind c_is_whole c_need_place
  have c_partners := ok_partners (P := l.prog) (w0 := w) (base := base) h_partners
  have c_partner := ok_partner (P := l.prog) (w0 := w) (base := base) h_partner c_need_place c_partners
  have c_seat := ok_seat (P := l.prog) (w0 := w) (base := base) b h_seat c_need_place
  have c_law_is_place_right := ok_law_is_place_right (P := l.prog) (w0 := w) (base := base) b h_law_is_place_right c_law_behind c_law_draw c_law_pick c_behind c_is_place c_partner c_seat
  have c_law_partners := ok_law_partners (P := l.prog) (w0 := w) (base := base) h_law_partners
  have c_law_wide_floor := ok_law_wide_floor (P := l.prog) (w0 := w) (base := base) b h_law_wide_floor c_law_draw c_law_order c_law_pick c_law_spots
  have c_places := ok_places (P := l.prog) (w0 := w) (base := base) b h_places c_need_floor
  have c_law := ok_law (P := l.prog) (w0 := w) (base := base) b h_law c_law_deck c_law_draw c_law_floor c_law_is_place_right c_law_partners c_law_spots c_law_wide_floor c_partner c_places
  obtain ⟨f', fd', Fn, hm, _, _, F⟩ := c_law.ex
  have ef := Option.some.inj (hfa.symm.trans hm)
  cases ef
  obtain ⟨oc, od, kV, doc, pm, an, cdv, ct, osl, efd, lk, _⟩ := F.ex
  have el := Option.some.inj (l27.symm.trans lk)
  injection el with _ _ el _
  injection el with el
  rw [el]
  exact Fn
end K02
end

section
set_option Elab.async false
set_option linter.all false
set_option maxRecDepth 100000
open PySem PySem.W PyProof.Rows
set_option maxHeartbeats 0 in
theorem PySem.Challenge.cw_touchrings_k02_places_seats_steps_and_pa_holds : PySem.Challenge.rw_touchrings_k02_places_seats_steps_and_pa.Holds := by
  w_on; o_law; k_head; (case hw => w_witness2)
  k_fill
  refine DL.end_of (l := PySem.Challenge.rw_touchrings_k02_places_seats_steps_and_pa) (n := 63) (k := 11) (x := "_law_script") (sp := K02.sp_law) rfl (by decide) rfl ⟨rfl, by decide, by decide⟩ (fun w h Y => PySem.W.kIn_of Y) ?F (fun ns hl _ => ⟨ns, rfl, hl, rfl, fun _ => rfl⟩)
  case F =>
    intro w mg fa h KX G hmg
    refine' K02.all_mk KX G hmg ?a0 ?l0 ?c0 ?k0 ?a1 ?l1 ?c1 ?k1 ?a2 ?l2 ?c2 ?k2 ?a3 ?l3 ?c3 ?k3 ?a4 ?l4 ?c4 ?k4 ?a5 ?l5 ?c5 ?k5 ?a6 ?l6 ?c6 ?k6 ?a7 ?l7 ?c7 ?k7 ?a8 ?l8 ?c8 ?k8 ?a9 ?l9 ?c9 ?k9 ?a10 ?l10 ?c10 ?k10 ?a11 ?l11 ?c11 ?k11 ?a12 ?l12 ?c12 ?k12 ?a13 ?l13 ?c13 ?k13 ?a14 ?l14 ?c14 ?k14 ?a15 ?l15 ?c15 ?k15 ?a16 ?l16 ?c16 ?k16 ?a17 ?l17 ?c17 ?k17 ?a18 ?l18 ?c18 ?k18 ?a19 ?l19 ?c19 ?k19 ?a20 ?l20 ?c20 ?k20 ?a21 ?l21 ?c21 ?k21 ?a22 ?l22 ?c22 ?k22 ?a23 ?l23 ?c23 ?k23 ?a24 ?l24 ?c24 ?k24 ?a25 ?l25 ?c25 ?k25 ?a26 ?l26 ?c26 ?k26 ?a27 ?l27 ?c27 ?k27 ?z0 ?z1 ?z2 ?z3 ?z4 ?z5 ?z6 ?z7 ?z8 ?z9 ?z10 ?z11 ?z12 ?z13 ?z14 ?z15 ?m0
    (case a0 => k_is); (case l0 => k_is); (case c0 => k_is); (case k0 => k_is); (case a1 => k_is); (case l1 => k_is); (case c1 => k_is); (case k1 => k_is); (case a2 => k_is); (case l2 => k_is); (case c2 => k_is); (case k2 => k_is); (case a3 => k_is); (case l3 => k_is); (case c3 => k_is); (case k3 => k_is); (case a4 => k_is); (case l4 => k_is); (case c4 => k_is); (case k4 => k_is); (case a5 => k_is); (case l5 => k_is); (case c5 => k_is); (case k5 => k_is); (case a6 => k_is); (case l6 => k_is); (case c6 => k_is); (case k6 => k_is); (case a7 => k_is); (case l7 => k_is); (case c7 => k_is); (case k7 => k_is); (case a8 => k_is); (case l8 => k_is); (case c8 => k_is); (case k8 => k_is); (case a9 => k_is); (case l9 => k_is); (case c9 => k_is); (case k9 => k_is); (case a10 => k_is); (case l10 => k_is); (case c10 => k_is); (case k10 => k_is); (case a11 => k_is); (case l11 => k_is); (case c11 => k_is); (case k11 => k_is); (case a12 => k_is); (case l12 => k_is); (case c12 => k_is); (case k12 => k_is); (case a13 => k_is); (case l13 => k_is); (case c13 => k_is); (case k13 => k_is); (case a14 => k_is); (case l14 => k_is); (case c14 => k_is); (case k14 => k_is); (case a15 => k_is); (case l15 => k_is); (case c15 => k_is); (case k15 => k_is); (case a16 => k_is); (case l16 => k_is); (case c16 => k_is); (case k16 => k_is); (case a17 => k_is); (case l17 => k_is); (case c17 => k_is); (case k17 => k_is); (case a18 => k_is); (case l18 => k_is); (case c18 => k_is); (case k18 => k_is); (case a19 => k_is); (case l19 => k_is); (case c19 => k_is); (case k19 => k_is); (case a20 => k_is); (case l20 => k_is); (case c20 => k_is); (case k20 => k_is); (case a21 => k_is); (case l21 => k_is); (case c21 => k_is); (case k21 => k_is); (case a22 => k_is); (case l22 => k_is); (case c22 => k_is); (case k22 => k_is); (case a23 => k_is); (case l23 => k_is); (case c23 => k_is); (case k23 => k_is); (case a24 => k_is); (case l24 => k_is); (case c24 => k_is); (case k24 => k_is); (case a25 => k_is); (case l25 => k_is); (case c25 => k_is); (case k25 => k_is); (case a26 => k_is); (case l26 => k_is); (case c26 => k_is); (case k26 => k_is); (case a27 => k_is); (case l27 => k_is); (case c27 => k_is); (case k27 => k_is); (case z0 => k_is); (case z1 => k_is); (case z2 => k_is); (case z3 => k_is); (case z4 => k_is); (case z5 => k_is); (case z6 => k_is); (case z7 => k_is); (case z8 => k_is); (case z9 => k_is); (case z10 => k_is); (case z11 => k_is); (case z12 => k_is); (case z13 => k_is); (case z14 => k_is); (case z15 => k_is); (case m0 => k_is)
end
